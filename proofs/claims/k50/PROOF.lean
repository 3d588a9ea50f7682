import PyProof.Rows.All
import Wide.All
import OpenK.AllK
import Wide.FinOn
import Lean
import PyProof.EqAt
import PyProof.EqKinds
import PyProof.TupleCall
import PyProof.EqLayable
import PyProof.ExcArgsOwn
import PyProof.ExcAttrAll.Exception
import PyProof.RulesAs
import PyProof.ExcBaseAll.ValueError
import PyProof.NsDelKeeps
import KE.KRevSl
import OpenK.KOps
import OpenK.KWalk
import PyProof.TupleIter
import PyProof.ZipIter
import KE.KLam
import KE.KNestM
import KE.KMinKey
import PyProof.NeKinds
import PySem.Challenge.RW_fewnotes_k50_replays_made
set_option Elab.async false
set_option linter.all false
set_option maxRecDepth 100000
namespace L2
open PySem PySem.Spec PyProof.Rows
abbrev Key:=Sum Int Str
def Eh:Key->Value->Bool
 | .inl k,v=>Value.isInt k v
 | .inr x,v=>Value.isStrOf x v
def aj6 (w:World):Key->Int
 | .inl k=>hashInt k
 | .inr x=>hashStr w x
theorem fL:∀{k:Key} {v:Value},Eh k v=true->(∃i t,k=Sum.inl i/\v=Value.int i t)\/(∃x t,k=Sum.inr x/\v=Value.str x t)
 | .inl i,v,h=>by
   obtain ⟨t,e⟩:=Value.isInt_shape (k:=i) (v:=v) h;exact .inl ⟨i,t,rfl,e⟩
 | .inr x,v,h=>by
   obtain ⟨t,e⟩:=Value.isStrOf_shape (x:=x) (v:=v) h;exact .inr ⟨x,t,rfl,e⟩
theorem Ph (i:Int) (t:Tok):Eh (.inl i) (.int i t)=true:=by simp [Eh,Value.isInt]
theorem Pg (x:Str) (t:Tok):Eh (.inr x) (.str x t)=true:=by simp [Eh,Value.isStrOf]
theorem aai (a b:Int):decide ((Sum.inl a:Key)=Sum.inl b)=(a==b):=by
 by_cases e:a=b
 ·subst e;simp
 ·have h:¬(Sum.inl a:Key)=Sum.inl b:=fun q=>e (Sum.inl.inj q)
  rw [decide_eq_false h];exact (beq_eq_false_iff_ne.mpr e).symm
theorem aaf (a b:Str):decide ((Sum.inr a:Key)=Sum.inr b)=decide (a=b):=by
 by_cases e:a=b
 ·subst e;simp
 ·have h:¬(Sum.inr a:Key)=Sum.inr b:=fun q=>e (Sum.inr.inj q)
  rw [decide_eq_false h,decide_eq_false e]
theorem aah (a:Int) (b:Str):decide ((Sum.inl a:Key)=Sum.inr b)=false:=decide_eq_false (fun q=>nomatch q)
theorem aag (a:Str) (b:Int):decide ((Sum.inr a:Key)=Sum.inl b)=false:=decide_eq_false (fun q=>nomatch q)
def gD (prog:Program) (w:World):PySem.KeyKind prog w Key where
 is:=Eh
 hash:=aj6 w
 inj:=fun v a b ha hb=>by
  rcases fL ha with ⟨i,t,rfl,rfl⟩|⟨x,t,rfl,rfl⟩
  ·rcases fL hb with ⟨j,u,rfl,e⟩|⟨y,u,rfl,e⟩
   ·injection e with e1 _;rw [e1]
   ·exact nomatch e
  ·rcases fL hb with ⟨j,u,rfl,e⟩|⟨y,u,rfl,e⟩
   ·exact nomatch e
   ·injection e with e1 _;rw [e1]
 byValue:=fun k v h=>by
  rcases fL h with ⟨i,t,rfl,rfl⟩|⟨x,t,rfl,rfl⟩<;>rfl
 pyHash:=fun hv h=>by
  rcases fL hv with ⟨i,t,rfl,rfl⟩|⟨x,t,rfl,rfl⟩
  ·exact wpAny_pyHash_int h
  ·exact wpAny_pyHash_str h
 eqBool:=fun hu hv h=>by
  rcases fL hu with ⟨i,t,rfl,rfl⟩|⟨x,t,rfl,rfl⟩
  ·rcases fL hv with ⟨j,u,rfl,rfl⟩|⟨y,u,rfl,rfl⟩
   ·rw [aai] at h;exact wpAny_eqBool_int h
   ·rw [aah] at h;exact SeqAt.EqAt.int_str i t y u _ _ _ _ h
  ·rcases fL hv with ⟨j,u,rfl,rfl⟩|⟨y,u,rfl,rfl⟩
   ·rw [aag] at h;exact SeqAt.EqAt.str_int x t j u _ _ _ _ h
   ·rw [aaf] at h;exact wpAny_eqBool_str h
 «strs» :=fun k x t v h=>by
  rcases fL h with ⟨i,u,rfl,e⟩|⟨y,u,rfl,e⟩
  ·exact nomatch e
  ·injection e with e1 _
   subst e1;cases v<;>rfl
theorem Iw (prog:Program) (w:World) (i:Int) (t:Tok):(gD prog w).is (.inl i) (.int i t)=true:=Ph i t
theorem Iv (prog:Program) (w:World) (x:Str) (t:Tok):(gD prog w).is (.inr x) (.str x t)=true:=Pg x t
end L2
namespace L2
open PySem PySem.Spec PyProof.Rows
inductive V where
 | non|bl (b:Bool)|int (i:Int)|str (x:Str)|Lf (b:Array UInt8)|flt (b:UInt64)|ref (a:Addr)|ty (n:String)
 deriving DecidableEq
def RelV:V->Value->Prop
 | .non,u=>u=Value.none
 | .bl b,u=>u=Value.bool b
 | .int i,u=>∃t,u=Value.int i t
 | .str x,u=>∃t,u=Value.str x t
 | .Lf b,u=>∃t,u=Value.bytes b t
 | .flt b,u=>∃t,u=Value.float b t
 | .ref a,u=>u=Value.ref a
 | .ty n,u=>u=Value.type n
abbrev Vals:List V->List Value->Prop:=Paired RelV
theorem Vals.length {xs:List V} {us:List Value} (r:Vals xs us):xs.length=us.length:=Paired.length r
theorem Vals.get:∀{xs:List V} {us:List Value} {i:Nat} {x:V},Vals xs us->xs[i]? = some x -> ∃u,us[i]? = some u/\RelV x u
 | _,_,_,_,.nil,e=>by simp at e
 | _,_,0,_,.cons r _,e=>by simp at e;subst e;exact ⟨_,rfl,r⟩
 | _,_,i+1,x,.cons _ t,e=>by
   obtain ⟨u,h1,h2⟩:=Vals.get (i:=i) (x:=x) t (by simpa using e);exact ⟨u,by simpa using h1,h2⟩
theorem Vals.set {x:V} {u:Value} (r:RelV x u):∀{xs:List V} {us:List Value} (i:Nat),Vals xs us->Vals (xs.set i x) (us.set i u)
 | _,_,_,.nil=> .nil
 | _,_,0,.cons _ t=> .cons r t
 | _,_,i+1,.cons q t=> .cons q (Vals.set r i t)
theorem Vals.append {xs ys:List V} {us ws:List Value} (h:Vals xs us) (s:Vals ys ws):Vals (xs++ys) (us++ws):=by
 induction h with
 | nil=>exact s
 | cons r t ih=>exact .cons r ih
theorem Vals.take:∀{xs:List V} {us:List Value} (n:Nat),Vals xs us->Vals (xs.take n) (us.take n)
 | _,_,0,_=> .nil
 | _,_,_+1,.nil=> .nil
 | _,_,n+1,.cons r t=> .cons r (Vals.take n t)
theorem Vals.drop:∀{xs:List V} {us:List Value} (n:Nat),Vals xs us->Vals (xs.drop n) (us.drop n)
 | _,_,0,r=>r
 | _,_,_+1,.nil=> .nil
 | _,_,n+1,.cons _ t=>Vals.drop n t
def rA:Option V->Option Value->Prop
 | some v,some u=>RelV v u
 | none,none=>True
 | _,_=>False
def KV {κ:Type}:List (κ×V)->List (κ×Value)->Prop:=Paired fun (p:κ×V) (q:κ×Value)=>p.1=q.1/\RelV p.2 q.2
def kV:Key->V
 | .inl i=> .int i
 | .inr x=> .str x
inductive HO where
 | lst (xs:List V)
 | tup (xs:List V)
 | dK (kvs:List (Key×V))|dT (kvs:List (List Key×V))
 | set (S:Int->Bool) (n:Nat)
 | ins (C dx:Addr) (fs:List (Str×V))
 | own (x:Addr)
 | xd (fs:List (Str×V))
 | met (f x:Addr)
 | rng (lo hi:Int)
 | Df (o:Obj) (u:HO)
 | u6 (ps:Array Value)
 | ext (φ:Heap->Prop)
abbrev Hp:=Addr->Option HO
def upd (H:Hp) (a:Addr) (o:HO):Hp:=fun b=>if b=a then some o else H b
theorem ak {H:Hp} {a:Addr} {o:HO}:upd H a o a=some o:=by unfold upd;rw [if_pos rfl]
theorem aD {H:Hp} {a b:Addr} {o:HO} (h:b≠a):upd H a o b=H b:=by unfold upd;rw [if_neg h]
theorem d_ {H:Hp} {a b:Addr} {o u:HO} (h:H a=some o) (h':H b=some u) (d:o≠u):a≠b:=by
 intro e;subst e;rw [h] at h';exact d (Option.some.inj h')
theorem aA {H:Hp} {a b:Addr} {o:HO} (h:H a=some o) (h':H b=none):a≠b:=by
 intro e;subst e;rw [h] at h';cases h'
section
variable (P:Program) (w:World)
def dG (H:Hp) (h:Heap) (a:Addr):HO->Prop
 | .lst xs=>xs.length<=sizeLine /\ ∃(its:List Value) (n:Nat),Vals xs its/\h.get? a=some {cls:= .type "list",data:= .seq its.toArray n}
 | .tup xs=>xs.length<=sizeLine /\ ∃its:List Value,Vals xs its/\IsTup h a its.toArray
 | .dK kvs=>kvs.length<=sizeLine/\(a==sysModules)=false /\ ∃vs,KV kvs vs/\h.DictOf (gD P w) a vs
 | .dT kvs=>kvs.length<=sizeLine/\(a==sysModules)=false /\ ∃xs:List (List Key×Addr×Value),
    Paired (fun (p:List Key×V) (q:List Key×Addr×Value)=>p.1=q.1/\H q.2.1=some (.tup (p.1.map kV))/\RelV p.2 q.2.2) kvs xs /\
    ∃o es ep,h.get? a=some o/\o.ExactDict/\o.data = .dict es ep/\es.toList=xs.map (entryOfKey (tupleKind (gD P w)))/\(xs.map (·.1)).Nodup
 | .set S n=>h.SetOf (intKind P w) a S n
 | .ins C dx fs=>H dx=some (.own a)/\fs.length<=1000/\dx≠a/\h.get? a=some (PySem.W.instObj C dx) /\
    ∃mA,h.Ns1 dx mA/\(∀f,rA (fs.lookup f) (mA f))/\PySem.Within mA (fs.map (·.1))
 | .own _=>∃o,h.get? a=some o
 | .xd fs=>∃mA,h.Ns1 a mA /\ ∀f,rA (fs.lookup f) (mA f)
 | .rng lo hi=>∃t u v,h.get? a=some {cls:= .type "range",data:= .fields #[.int lo t,.int hi u,.int 1 v]}
 | .Df o u=>h.get? a=some o/\dG H h a u
 | .u6 ps=>h.get? a=some {cls:= .none,data:= .fields ps}
 | .met f x=>h.get? a=some (PySem.W.methodObj (.ref f) (.ref x))
 | .ext φ=>φ h/\(∃o,h.get? a=some o) /\ ∀h1 h2:Heap,φ h1->(∀o,h1.get? a=some o->h2.get? a=some o)->φ h2
def nY (H:Hp) (h:Heap):Prop:=∀a o,H a=some o->dG P w H h a o
end
section
variable {P:Program} {w:World} {H H':Hp} {h h':Heap} {a:Addr} {o:HO}
theorem dG.lt (x:dG P w H h a o):a<h.objs.size:=by
 cases o with
 | lst xs=>obtain ⟨_,_,_,_,e⟩:=x;exact Heap.lt_size e
 | tup xs=>obtain ⟨_,_,_,p⟩:=x;exact p.lt
 | dK kvs=>obtain ⟨_,_,_,_,o,_,_,e,_⟩:=x;exact Heap.lt_size e
 | dT kvs=>obtain ⟨_,_,_,_,o,_,_,e,_⟩:=x;exact Heap.lt_size e
 | set S n=>obtain ⟨o,_,_,_,e,_⟩:=x;exact Heap.lt_size e
 | ins C dx fs=>obtain ⟨_,_,_,e,_⟩:=x;exact Heap.lt_size e
 | own y=>obtain ⟨_,e⟩:=x;exact Heap.lt_size e
 | xd fs=>obtain ⟨_,⟨_,_,_,e,_⟩,_⟩:=x;exact Heap.lt_size e
 | rng lo hi=>obtain ⟨_,_,_,e⟩:=x;exact Heap.lt_size e
 | Df ob u=>obtain ⟨e,_⟩:=x;exact Heap.lt_size e
 | u6 ps=>exact Heap.lt_size (show h.get? a=some _ from x)
 | met f y=>exact Heap.lt_size (show h.get? a=some _ from x)
 | ext φ=>obtain ⟨_,⟨_,e⟩,_⟩:=x;exact Heap.lt_size e
theorem Paired.acy {α β:Type} {F G:α->β->Prop}:∀{l₁:List α} {l₂:List β},Paired F l₁ l₂->(∀a b,F a b->G a b)->Paired G l₁ l₂
 :=by
 intro l₁ l₂ h f
 induction h with
 | nil=>exact .nil
 | cons r t ih=>exact .cons (f _ _ r) ih
theorem dG.stay (x:dG P w H h a o) (k:∀b u,(b=a\/H b=some (.own a))->h.get? b=some u->h'.get? b=some u)
 (ho:∀b,H b=some (.own a)->H' b=some (.own a)) (ht:∀b xs,H b=some (.tup xs)->H' b=some (.tup xs)):dG P w H' h' a o:=by
 induction o with
 | lst xs=>obtain ⟨z,its,n,r,e⟩:=x;exact ⟨z,its,n,r,k _ _ (.inl rfl) e⟩
 | tup xs=>obtain ⟨z,its,r,ob,e,c⟩:=x;exact ⟨z,its,r,ob,k _ _ (.inl rfl) e,c⟩
 | dK kvs=>obtain ⟨z,y,vs,r,ob,es,ep,e,c⟩:=x;exact ⟨z,y,vs,r,ob,es,ep,k _ _ (.inl rfl) e,c⟩
 | dT kvs=>
   obtain ⟨z,y,xs,r,ob,es,ep,e,c⟩:=x;exact ⟨z,y,xs,Paired.acy r fun p q z=>⟨z.1,ht _ _ z.2.1,z.2.2⟩,ob,es,ep,k _ _ (.inl rfl) e,c⟩
 | set S n=>obtain ⟨ob,es,ep,t,e,c⟩:=x;exact ⟨ob,es,ep,t,k _ _ (.inl rfl) e,c⟩
 | ins C dx fs=>
   obtain ⟨d,z,ne,e,mA,⟨od,es,ep,e2,c⟩,r⟩:=x;exact ⟨ho _ d,z,ne,k _ _ (.inl rfl) e,mA,⟨od,es,ep,k _ _ (.inr d) e2,c⟩,r⟩
 | own y=>obtain ⟨ob,e⟩:=x;exact ⟨ob,k _ _ (.inl rfl) e⟩
 | xd fs=>obtain ⟨mA,⟨od,es,ep,e,c⟩,r⟩:=x;exact ⟨mA,⟨od,es,ep,k _ _ (.inl rfl) e,c⟩,r⟩
 | rng lo hi=>obtain ⟨t,u,v,e⟩:=x;exact ⟨t,u,v,k _ _ (.inl rfl) e⟩
 | Df ob u ih=>obtain ⟨e,q⟩:=x;exact ⟨k _ _ (.inl rfl) e,ih q⟩
 | u6 ps=>
   have e:h.get? a=some {cls:= .none,data:= .fields ps}:=x;show h'.get? a=some {cls:= .none,data:= .fields ps};exact k a _ (.inl rfl) e
 | met f y=>
   have e:h.get? a=some (PySem.W.methodObj (.ref f) (.ref y)):=x;show h'.get? a=some (PySem.W.methodObj (.ref f) (.ref y));exact k a _ (.inl rfl) e
 | ext φ=>obtain ⟨p,⟨o,e⟩,st⟩:=x;exact ⟨st _ _ p fun o q=>k _ _ (.inl rfl) q,⟨o,k _ _ (.inl rfl) e⟩,st⟩
theorem nY.lt (x:nY P w H h) (e:H a=some o):a<h.objs.size:=(x a o e).lt
theorem nY.fresh (x:nY P w H h) (e:h.objs.size<=a):H a=none:=by
 cases q:H a with
 | none=>rfl
 | some u=>exact absurd (Nat.lt_of_lt_of_le (x.lt q) e) (Nat.lt_irrefl _)
theorem nY.kept (x:nY P w H h) (k:∀b u,h.get? b=some u->h'.get? b=some u):nY P w H h':=fun a o e=>
 (x a o e).stay (fun b u _ q=>k b u q) (fun _ q=>q) fun _ _ q=>q
theorem nY.laid (x:nY P w H h) (k:∀b u,h.get? b=some u->h'.get? b=some u) (hp:h.objs.size<=a) (new:dG P w (upd H a o) h' a o):nY P w (upd H a o) h':=fun b u e=>by
 have hn:=x.fresh hp
 by_cases hb:b=a
 ·subst hb;rw [ak] at e;cases e;exact new
 ·rw [aD hb] at e
  exact (x b u e).stay (fun c v _ q=>k c v q) (fun c q=>by rw [aD (aA q hn)];exact q) fun c xs q=>by rw [aD (aA q hn)];exact q
end
def Rd (H:Hp) (a:Addr) (u:HO):Prop:=H a=some u \/ ∃o,H a=some (.Df o u)
theorem Rd.ok {P:Program} {w:World} {H:Hp} {h:Heap} {a:Addr} {u:HO} (r:Rd H a u) (x:nY P w H h):dG P w H h a u:=by
 rcases r with r|⟨o,r⟩
 ·exact x a u r
 ·obtain ⟨_,q⟩:=x a _ r
  exact q
def Mut:Option HO->Prop
 | some (.lst _)=>True
 | some (.dK _)=>True
 | some (.dT _)=>True
 | some (.set _ _)=>True
 | some (.ins _ _ _)=>True
 | some (.ext _)=>True
 | _=>False
section
variable {P:Program} {w:World} {H:Hp} {h h':Heap} {x e:Addr} {o':HO}
theorem nY.write (ok:nY P w H h) (mu:Mut (H x)) (he:e=x\/H e=some (.own x)) (k:∀b u,b≠e->h.get? b=some u->h'.get? b=some u) (heo:∃u,h'.get? e=some u)
 (new:dG P w (upd H x o') h' x o'):nY P w (upd H x o') h':=fun b u q=>by
 have acs:∀c y,H c=some (.own y)->c≠x:=fun c y r z=>by subst z;rw [r] at mu;exact mu
 have ajc:∀c xs,H c=some (.tup xs)->c≠x:=fun c xs r z=>by subst z;rw [r] at mu;exact mu
 by_cases hb:b=x
 ·subst hb;rw [ak] at q;cases q;exact new
 ·rw [aD hb] at q
  by_cases hbe:b=e
  ·have q':H b=some (.own x):=by
    rcases he with z|z
    ·exact absurd (hbe.trans z) hb
    ·rw [hbe];exact z
   rw [q] at q';cases q';obtain ⟨v,hv⟩:=heo;exact ⟨v,by rw [hbe];exact hv⟩
  ·refine (ok b u q).stay (fun c v hc r=>k c v ?_ r) (fun c r=>by rw [aD (acs c b r)];exact r) fun c xs r=>by rw [aD (ajc c xs r)];exact r
   rcases hc with rfl|hc
   ·exact hbe
   ·rintro rfl
    rcases he with z|z
    ·exact acs c b hc z
    ·rw [hc] at z;cases z;exact hb rfl
end
structure Un (fs ex:List Addr) (H H':Hp) (h h':Heap):Prop where
 keep:∀b o,h.get? b=some o->H b=none->b∉fs->b∉ex->h'.get? b=some o
 slot:∀b o,h.get? b=some o->H b=none->b∈fs->b∉ex -> ∃sl,h'.get? b=some {o with slots:=sl}
 free:∀b o,h.get? b=some o->H b=none->b∉ex->H' b=none
 there:∀b o,h.get? b=some o->b∉ex -> ∃o',h'.get? b=some o'
 tups:∀b xs,H b=some (.tup xs)->H' b=some (.tup xs)
 qM:∀b o u,H b=some (.Df o u)->H' b=some (.Df o u)
 u5:∀b ps,H b=some (.u6 ps) -> ∃more,H' b=some (.u6 (ps++more))
section
variable {fs fs' ex ex':List Addr} {H H1 H2:Hp} {h h1 h2 h':Heap} {a x e:Addr} {o:HO}
theorem Un.any (u:Un fs ex H H1 h h1) {b:Addr} {ob:Obj} (q:h.get? b=some ob) (n:H b=none) (hx:b∉ex):∃sl,h1.get? b=some {ob with slots:=sl}:=by
 by_cases hb:b∈fs
 ·exact u.slot b ob q n hb hx
 ·exact ⟨ob.slots,u.keep b ob q n hb hx⟩
theorem Un.kept (k:∀b u,h.get? b=some u->h'.get? b=some u):Un fs ex H H h h':=
 ⟨fun b ob q _ _ _=>k b ob q,fun b ob q _ _ _=>⟨ob.slots,k b ob q⟩,fun _ _ _ n _=>n,fun b ob q _=>⟨ob,k b ob q⟩,fun _ _ q=>q,fun _ _ _ q=>q,fun _ ps q=>⟨#[],by rw [q];simp⟩⟩
theorem Un.refl:Un fs ex H H h h:=Un.kept fun _ _ q=>q
theorem Un.laid (k:∀b u,h.get? b=some u->h'.get? b=some u) (hp:h.objs.size<=a) (hn:H a=none):Un fs ex H (upd H a o) h h' where
 keep:=fun b u q _ _ _=>k b u q
 slot:=fun b u q _ _ _=>⟨u.slots,k b u q⟩
 free:=fun b u q n _=>by rw [aD (Nat.ne_of_lt (Nat.lt_of_lt_of_le (Heap.lt_size q) hp))];exact n
 there:=fun b u q _=>⟨u,k b u q⟩
 tups:=fun b xs q=>by rw [aD (aA q hn)];exact q
 qM:=fun b u xs q=>by rw [aD (aA q hn)];exact q
 u5:=fun b ps q=>⟨#[],by rw [aD (aA q hn),q];simp⟩
theorem Un.write (mu:Mut (H x)) (he:e=x\/H e=some (.own x)) (k:∀b u,b≠e->h.get? b=some u->h'.get? b=some u) (heo:∃u,h'.get? e=some u):Un fs ex H (upd H x o) h h':=by
 have hx:∀b,H b=none->b≠x:=fun b n z=>by subst z;rw [n] at mu;exact mu
 have hb:∀b,H b=none->b≠e:=fun b n z=>by
  subst z;rcases he with r|r
  ·exact hx b n r
  ·rw [n] at r;cases r
 have hm:∀b u,H b=some u -> ¬Mut (some u)->b≠x:=fun b u q nm z=>by subst z;rw [q] at mu;exact nm mu
 refine ⟨fun b u q n _ _=>k b u (hb b n) q,fun b u q n _ _=>⟨u.slots,k b u (hb b n) q⟩,fun b u q n _=>by rw [aD (hx b n)];exact n,fun b u q _=> ?_,
  fun b xs q=>by rw [aD (hm b _ q fun z=>z)];exact q,fun b u xs q=>by rw [aD (hm b _ q fun z=>z)];exact q,fun b ps q=>⟨#[],by rw [aD (hm b _ q fun z=>z),q];simp⟩⟩
 by_cases hbe:b=e
 ·subst hbe;exact heo
 ·exact ⟨u,k b u hbe q⟩
end
def U9 (h:Heap) (H:Hp):List Addr:=(List.range h.objs.size).filter fun a=>(H a).isSome
def vp (h:Heap) (H:Hp):Heap:=PySem.W.hideAll h (U9 h H)
theorem Ek (h:Heap) (H:Hp):(vp h H).objs.size=h.objs.size:=PySem.W.hideAll_size _ _
theorem Jf {h:Heap} {H:Hp} {b:Addr} {o:Obj} (e:h.get? b=some o) (n:H b=none):(vp h H).get? b=some o:=
 PySem.W.hideAll_get _ e fun hm=>by
  have q:(H b).isSome=true:=(List.mem_filter.mp hm).2;rw [n] at q;simp at q
theorem Mt {h:Heap} {H:Hp} {b:Addr} {o:Obj} (e:(vp h H).get? b=some o):h.get? b=some o/\H b=none:=by
 have e':h.get? b=some o:=PySem.W.of_hideAll (U9 h H) e;refine ⟨e', ?_⟩;cases q:H b with
 | none=>rfl
 | some x=>
   have hm:b∈U9 h H:=List.mem_filter.mpr ⟨List.mem_range.mpr (Heap.lt_size e'),by simp [q]⟩;have z:(vp h H).get? b=none:=PySem.W.hideAll_none (U9 h H) hm;rw [z] at e;cases e
def Xn (g h:Heap) (L:Addr):List (Addr×Obj):=(List.range h.objs.size).filterMap fun a=>if a=L\/(g.get? a).isSome=true then none else (h.get? a).map fun o=>(a,o)
def rest (g h:Heap) (L d:Addr):List (Addr×Obj):=(Xn g h L).filter fun p=>decide (p.1≠d)
end L2
namespace L2
open PySem PySem.Spec PyProof.Rows
structure Mod (K:PySem.W.Frag) (mg:Str->Option Value) (base:Heap):Prop where
 Pb:K.In base
 glob:base.Ns mainGlobals mg
 blt:∃mb,base.Ns builtinsNs mb /\ ∀x:Str,x ≠ "__name__" -> mb x=bootBuiltins x
 nolimit:base.NoLimit
structure Cx where
 prog:Program
 w:World
 K:PySem.W.Frag
 mg:Str->Option Value
 base:Heap
 A:Around
 N:List Str
 s₀:Shared
 H₀:Hp
 env:Env
 outer:List Env
 stack:List Env
 ex:List Addr
 fn:Str->Bool
 calm:Bool
 pn:List (Addr×Obj)
 xe:Value->Shared->Prop
def frs (l:List Env):List Addr:=l.filterMap (·.frame)
abbrev Cx.fs (X:Cx):List Addr:=frs X.outer
def Vis (sc:Scope) (x:Str):Prop:=sc.names.lookup x=some .local\/sc.names.lookup x=some .cell\/sc.names.lookup x=some .free
def Loc (sc:Scope) (x:Str):Prop:=sc.names.lookup x=some .local\/sc.names.lookup x=some .cell
def Look (env:Env) (h:Heap) (m:Str->Option Value) (x:Str) (u:Value):Prop:=
 (env.kindOf x=some .local/\m x=some u)\/((env.kindOf x=some .cell\/env.kindOf x=some .free) /\ ∃c,env.cells.lookup x=some c/\h.IsCell c (some u))
structure Cx.Ok (X:Cx):Prop where
 mod:Mod X.K X.mg X.base
 kind:X.env.scope.kind = .function
 glob:X.env.globals=mainGlobals
 blt:X.env.builtins=builtinsNs
 above:X.s₀.heap.objs.size<=X.env.locals
 inj:∀x y c,X.env.cells.lookup x=some c->X.env.cells.lookup y=some c->x=y
 has:∀x,(X.env.kindOf x=some .cell\/X.env.kindOf x=some .free) -> ∃c,X.env.cells.lookup x=some c
 cab:∀x c,X.fn x=true->X.env.cells.lookup x=some c->X.s₀.heap.objs.size<=c
 hd:X.calm=true->X.A.handled=none
 frames:X.A.frames=some X.stack
 stk:X.stack=X.outer\/(X.stack=X.env::X.outer/\X.env.frame=some X.env.locals)
 exf:∀b∈X.ex,b≠X.env.locals /\ ∀x c,X.env.cells.lookup x=some c->c≠b
 bs:∀b o,X.base.get? b=some o->X.s₀.heap.get? b=some o/\X.H₀ b=none
 HF:X.base.objs.size<=X.s₀.heap.objs.size
 Gm:∀b o,X.base.get? b=some o->b∉X.ex
 Jj:∀b∈X.ex,b∉X.fs
 pB:X.s₀.heap.FunFrames X.base X.outer
 K_:∀b∈X.fs,X.H₀ b=none
structure Inv (X:Cx) (pins:List (Addr×Obj)) (σ:List (Option V)) (H:Hp) (s:Shared):Prop where
 ok:X.Ok
 os:s.os=X.s₀.os
 bare:AllBare s.gens
 base:Un X.fs X.ex X.H₀ H X.s₀.heap s.heap
 loc:∃m,s.heap.Ns X.env.locals m /\ ∀(i:Nat) (x:Str) (v:V),X.N[i]? = some x->σ[i]? = some (some v)->Vis X.env.scope x -> ∃u,RelV v u/\Look X.env s.heap m x u
 cell:∀x c,X.env.cells.lookup x=some c -> ∃v,s.heap.IsCell c v
 free:H X.env.locals=none
 jX:∀x c,X.env.cells.lookup x=some c->H c=none
 pin:∀p∈X.pn++pins,s.heap.get? p.1=some p.2/\H p.1=none/\p.1≠X.env.locals/\p.1∉X.fs /\ ∀v,p.2.data ≠ .cell v
 hok:nY X.prog X.w H s.heap
 len:σ.length=X.N.length
section
variable {X:Cx} {pins:List (Addr×Obj)} {σ:List (Option V)} {H H':Hp} {s:Shared} {h':Heap}
theorem Cx.Ok.aji (ok:X.Ok) {b:Addr} {o:Obj} (e:X.base.get? b=some o):b∉X.fs:=fun hb=>by
 have:=(ok.pB.mem hb).1;rw [e] at this;cases this
theorem Inv.bs (I:Inv X pins σ H s):∀b o,X.base.get? b=some o->s.heap.get? b=some o/\H b=none:=fun b o e=>
 ⟨I.base.keep b o (I.ok.bs b o e).1 (I.ok.bs b o e).2 (I.ok.aji e) (I.ok.Gm b o e),I.base.free b o (I.ok.bs b o e).1 (I.ok.bs b o e).2 (I.ok.Gm b o e)⟩
theorem Inv.bk (I:Inv X pins σ H s):∀b o,X.base.get? b=some o->s.heap.get? b=some o:=fun b o e=>(I.bs b o e).1
theorem Inv.mod (I:Inv X pins σ H s):Mod X.K X.mg X.base:=I.ok.mod
theorem Inv.qK (I:Inv X pins σ H s):X.K.In s.heap:=I.ok.mod.Pb.keeps I.bk
theorem Inv.fr (I:Inv X pins σ H s):∃m,Fr X.base X.env.locals s.heap m:=
 let ⟨m,hn,_⟩:=I.loc
 ⟨m,hn,I.bk,Nat.le_trans I.ok.HF I.ok.above⟩
theorem Inv.lt (I:Inv X pins σ H s):X.env.locals<s.heap.objs.size:=let ⟨_,hn,_⟩:=I.loc;hn.lt
theorem Inv.sz (I:Inv X pins σ H s):X.s₀.heap.objs.size<=s.heap.objs.size:=Nat.le_trans I.ok.above (Nat.le_of_lt I.lt)
theorem Inv.ajh (I:Inv X pins σ H s) {a:Addr} (h:s.heap.objs.size<=a):a∉X.fs:=fun hb=>by
 obtain ⟨_,o,ho,_⟩:=I.ok.pB.mem hb;exact absurd (Nat.lt_of_lt_of_le (Heap.lt_size ho) (Nat.le_trans I.sz h)) (Nat.lt_irrefl _)
theorem Inv.Xe (I:Inv X pins σ H s):∀x c,X.env.cells.lookup x=some c->c≠X.env.locals:=fun x c e z=>by
 obtain ⟨v,o,ho,hd⟩:=I.cell x c e;obtain ⟨m,⟨o',es,ep,ho',hd',_⟩,_⟩:=I.loc;rw [z,ho'] at ho;cases ho;rw [hd'] at hd;cases hd
theorem Inv.pB (I:Inv X pins σ H s):s.heap.FunFrames X.base X.outer:=by
 have all:∀(l:List Env),(∀b∈frs l,b∈X.fs)->X.s₀.heap.FunFrames X.base l->s.heap.FunFrames X.base l:=by
  intro l
  induction l with
  | nil=>intro _ _;trivial
  | cons env r ih=>
    intro hs hl;obtain ⟨hk,⟨L,o,hf,hn,ho,hd⟩,hr⟩:=hl;have hL:L∈X.fs:=hs L (by unfold frs;rw [List.filterMap_cons,hf];exact List.mem_cons_self);obtain ⟨sl,e⟩:=I.base.slot L o ho (I.ok.K_ L hL) hL fun z=>I.ok.Jj L z hL;exact ⟨hk,⟨L,_,hf,hn,e,hd⟩,ih (fun b hb=>hs b (by unfold frs;rw [List.filterMap_cons,hf];exact List.mem_cons_of_mem _ hb)) hr⟩
 exact all X.outer (fun _ hb=>hb) I.ok.pB
theorem Inv.stack (I:Inv X pins σ H s):s.heap.FunFrames X.base X.stack:=by
 rcases I.ok.stk with e|⟨e,hf⟩
 ·rw [e];exact I.pB
 ·rw [e]
  obtain ⟨m,hn,_⟩:=I.loc;refine .cons (by rw [I.ok.kind];decide) hf hn ?_ I.pB;exact Heap.get?_none_of_le (Nat.le_trans I.ok.HF I.ok.above)
theorem Inv.xX (I:Inv X pins σ H s):∀b∈frs X.stack,b∈X.env.locals::X.fs:=fun b hb=>by
 rcases I.ok.stk with e|⟨e,hf⟩
 ·rw [e] at hb;exact List.mem_cons_of_mem _ hb
 ·rw [e] at hb
  unfold frs at hb;rw [List.filterMap_cons,hf] at hb;exact hb
theorem Inv.Fl (I:Inv X pins σ H s):∀b∈frs X.stack,H b=none:=fun b hb=>by
 rcases List.mem_cons.mp (I.xX b hb) with e|hb
 ·rw [e];exact I.free
 ·obtain ⟨_,o,ho,_⟩:=I.ok.pB.mem hb
  exact I.base.free b o ho (I.ok.K_ b hb) fun z=>I.ok.Jj b z hb
theorem Inv.step {g':Array GenState} {t':Nat} {d':Drawn} {ch:List Addr} (I:Inv X pins σ H s)
 (hch:∀b∈ch,(b∈X.ex\/X.s₀.heap.objs.size<=b)/\b≠X.env.locals/\(∀x c,X.env.cells.lookup x=some c->c≠b) /\ ∀p∈X.pn++pins,p.1≠b)
 (keep:∀b o,b≠X.env.locals->b∉X.fs->b∉ch->s.heap.get? b=some o->H b=none->h'.get? b=some o)
 (slot:∀b o,b≠X.env.locals->b∈X.fs->b∉ch->s.heap.get? b=some o->H b=none -> ∃sl,h'.get? b=some {o with slots:=sl}) (free:∀b o,b∉ch->s.heap.get? b=some o->H b=none->H' b=none)
 (there:∀b o,b∉ch->s.heap.get? b=some o -> ∃o',h'.get? b=some o')
 (tups:∀b xs,H b=some (.tup xs)->H' b=some (.tup xs)) (qM:∀b o u,H b=some (.Df o u)->H' b=some (.Df o u)) (u5:∀b ps,H b=some (.u6 ps) -> ∃more,H' b=some (.u6 (ps++more)))
 (ns:∀m,s.heap.Ns X.env.locals m->h'.Ns X.env.locals m) (hok:nY X.prog X.w H' h') (hg:AllBare g'):
 Inv X pins σ H' {s with heap:=h',gens:=g',drawn:=d',toks:=t'}:=by
 have Ye:∀b o,X.s₀.heap.get? b=some o->b≠X.env.locals:=fun b o e=>Nat.ne_of_lt (Nat.lt_of_lt_of_le (Heap.lt_size e) I.ok.above)
 have neC:∀b o,X.s₀.heap.get? b=some o->b∉X.ex->b∉ch:=fun b o e hx hb=>by
  rcases (hch b hb).1 with z|z
  ·exact hx z
  ·exact absurd (Nat.lt_of_lt_of_le (Heap.lt_size e) z) (Nat.lt_irrefl _)
 have cellK:∀x c,X.env.cells.lookup x=some c -> ∀v,s.heap.IsCell c v->h'.IsCell c v:=fun x c e v ⟨o,ho,hd⟩=>by
  have nch:c∉ch:=fun z=>(hch c z).2.2.1 x c e rfl
  by_cases hc:c∈X.fs
  ·obtain ⟨sl,q⟩:=slot c o (I.Xe x c e) hc nch ho (I.jX x c e)
   exact ⟨_,q,hd⟩
  ·exact ⟨o,keep c o (I.Xe x c e) hc nch ho (I.jX x c e),hd⟩
 refine ⟨I.ok,I.os,hg,⟨fun b o e n hb hx=> ?_,fun b o e n hb hx=> ?_,fun b o e n hx=> ?_,fun b o e hx=> ?_,fun b xs e=>tups b xs (I.base.tups b xs e),fun b o xs e=>qM b o xs (I.base.qM b o xs e),fun b ps e=> ?_⟩, ?_,fun x c e=> ?_, ?_,fun x c e=> ?_,fun p hp=> ?_,hok,I.len⟩
 ·exact keep b o (Ye b o e) hb (neC b o e hx) (I.base.keep b o e n hb hx) (I.base.free b o e n hx)
 ·obtain ⟨sl,e1⟩:=I.base.slot b o e n hb hx
  obtain ⟨sl',e2⟩:=slot b _ (Ye b o e) hb (neC b o e hx) e1 (I.base.free b o e n hx);exact ⟨sl',e2⟩
 ·obtain ⟨o',e1⟩:=I.base.there b o e hx
  exact free b o' (neC b o e hx) e1 (I.base.free b o e n hx)
 ·obtain ⟨o',e1⟩:=I.base.there b o e hx
  exact there b o' (neC b o e hx) e1
 ·obtain ⟨m1,e1⟩:=I.base.u5 b ps e
  obtain ⟨m2,e2⟩:=u5 b _ e1;exact ⟨m1++m2,by rw [e2,Array.append_assoc]⟩
 ·obtain ⟨m,hn,hl⟩:=I.loc
  refine ⟨m,ns m hn,fun i x v e1 e2 e3=> ?_⟩;obtain ⟨u,r,l⟩:=hl i x v e1 e2 e3;refine ⟨u,r, ?_⟩;rcases l with l|⟨k,c,e,z⟩
  ·exact .inl l
  ·exact .inr ⟨k,c,e,cellK x c e _ z⟩
 ·obtain ⟨v,z⟩:=I.cell x c e
  exact ⟨v,cellK x c e v z⟩
 ·obtain ⟨m,⟨o,_,_,ho,_⟩,_⟩:=I.loc
  exact free _ o (fun z=>(hch _ z).2.1 rfl) ho I.free
 ·obtain ⟨v,o,ho,hd⟩:=I.cell x c e
  exact free c o (fun z=>(hch c z).2.2.1 x c e rfl) ho (I.jX x c e)
 ·obtain ⟨e,n,ne,nf,d⟩:=I.pin p hp
  have nch:p.1∉ch:=fun z=>(hch p.1 z).2.2.2 p hp rfl;exact ⟨keep p.1 p.2 ne nf nch e n,free p.1 p.2 nch e n,ne,nf,d⟩
theorem Inv.un {t':Nat} (I:Inv X pins σ H s) (u:Un X.fs [] H H' s.heap h') (hok:nY X.prog X.w H' h'):Inv X pins σ H' {s with heap:=h',toks:=t'}:=by
 obtain ⟨m,⟨o,es,ep,ho,r⟩,_⟩:=id I.loc;obtain ⟨sl,hL⟩:=u.any ho I.free (by simp)
 exact I.step (g':=s.gens) (d':=s.drawn) (ch:=[]) (fun _ z=>nomatch z) (fun b o _ hb _ e n=>u.keep b o e n hb (by simp)) (fun b o _ hb _ e n=>u.slot b o e n hb (by simp)) (fun b o _ e n=>u.free b o e n (by simp)) (fun b o _ e=>u.there b o e (by simp)) u.tups u.qM u.u5 (fun m' hm=>by
  obtain ⟨o',es',ep',ho',r'⟩:=hm;rw [ho] at ho';cases ho';exact ⟨_,es',ep',hL,r'⟩) hok I.bare
theorem Inv.call {g':Array GenState} {t':Nat} {d':Drawn} {ch:List Addr} (I:Inv X pins σ H s) (u:Un (frs X.stack) ch H H' s.heap h') (hok:nY X.prog X.w H' h') (hg:AllBare g')
 (hch:∀b∈ch,(b∈X.ex\/X.s₀.heap.objs.size<=b)/\b≠X.env.locals/\(∀x c,X.env.cells.lookup x=some c->c≠b) /\ ∀p∈X.pn++pins,p.1≠b):
 Inv X pins σ H' {s with heap:=h',gens:=g',drawn:=d',toks:=t'}:=by
 obtain ⟨m,⟨o,es,ep,ho,r⟩,_⟩:=id I.loc;obtain ⟨sl,hL⟩:=u.any ho I.free fun z=>(hch _ z).2.1 rfl
 exact I.step (ch:=ch) hch (fun b o hL hb hc e n=>u.keep b o e n (fun z=>(List.mem_cons.mp (I.xX b z)).elim hL hb) hc) (fun b o _ _ hc e n=>u.any e n hc) (fun b o hc e n=>u.free b o e n hc) (fun b o hc e=>u.there b o e hc) u.tups u.qM u.u5 (fun m' hm=>by
  obtain ⟨o',es',ep',ho',r'⟩:=hm;rw [ho] at ho';cases ho';exact ⟨_,es',ep',hL,r'⟩) hok hg
theorem Inv.turned {t':Nat} {it:Addr} (I:Inv X pins σ H s) (k:∀b o,b≠it->s.heap.get? b=some o->h'.get? b=some o) (hn:H it=none) (hL:it≠X.env.locals)
 (h1:it∈X.ex\/X.s₀.heap.objs.size<=it) (h2:∀x c,X.env.cells.lookup x=some c->c≠it) (h3:∀p∈X.pn++pins,p.1≠it):Inv X pins σ H {s with heap:=h',toks:=t'}:=by
 have nit:∀b u,H b=some u->b≠it:=fun b u e z=>by rw [z,hn] at e;cases e
 refine I.step (g':=s.gens) (d':=s.drawn) (ch:=[it]) (fun b hb=> ?_) (fun b o _ _ hc e _=>k b o (fun z=>hc (by simp [z])) e) (fun b o _ _ hc e _=>⟨o.slots,k b o (fun z=>hc (by simp [z])) e⟩) (fun _ _ _ _ n=>n)
  (fun b o hc e=>⟨o,k b o (fun z=>hc (by simp [z])) e⟩) (fun _ _ e=>e) (fun _ _ _ e=>e) (fun b ps e=>⟨#[],by rw [e];simp⟩) (fun m hm=> ?_) (fun b u e=> ?_) I.bare
 ·have e:b=it:=by simpa using hb
  subst e;exact ⟨h1,hL,h2,h3⟩
 ·obtain ⟨o,es,ep,ho,r⟩:=hm
  exact ⟨o,es,ep,k _ o (Ne.symm hL) ho,r⟩
 ·refine (I.hok b u e).stay (fun c v hc q=>k c v ?_ q) (fun _ q=>q) fun _ _ q=>q
  rcases hc with z|z
  ·rw [z];exact nit b u e
  ·exact nit c _ z
theorem Inv.tok (I:Inv X pins σ H s) (t:Nat):Inv X pins σ H {s with toks:=t}:=I.un (h':=s.heap) (t':=t) Un.refl I.hok
theorem Inv.kept {t':Nat} (I:Inv X pins σ H s) (k:∀b u,s.heap.get? b=some u->h'.get? b=some u):Inv X pins σ H {s with heap:=h',toks:=t'}:=I.un (Un.kept k) (I.hok.kept k)
theorem Inv.laid {a:Addr} {o:HO} {t':Nat} (I:Inv X pins σ H s) (k:∀b u,s.heap.get? b=some u->h'.get? b=some u) (hp:s.heap.objs.size<=a) (new:dG X.prog X.w (upd H a o) h' a o):
 Inv X pins σ (upd H a o) {s with heap:=h',toks:=t'}:=I.un (Un.laid k hp (I.hok.fresh hp)) (I.hok.laid k hp new)
theorem Inv.write {x e:Addr} {o:HO} {t':Nat} (I:Inv X pins σ H s) (mu:Mut (H x)) (he:e=x\/H e=some (.own x)) (k:∀b u,b≠e->s.heap.get? b=some u->h'.get? b=some u) (heo:∃u,h'.get? e=some u)
 (new:dG X.prog X.w (upd H x o) h' x o):Inv X pins σ (upd H x o) {s with heap:=h',toks:=t'}:=I.un (Un.write mu he k heo) (I.hok.write mu he k heo new)
theorem Inv.Mp {qT:List (Addr×Obj)} (I:Inv X pins σ H s) (h:∀p∈qT,s.heap.get? p.1=some p.2/\H p.1=none/\p.1≠X.env.locals/\p.1∉X.fs /\ ∀v,p.2.data ≠ .cell v):Inv X qT σ H s:=
 ⟨I.ok,I.os,I.bare,I.base,I.loc,I.cell,I.free,I.jX,fun p hp=>(List.mem_append.mp hp).elim (fun z=>I.pin p (List.mem_append_left _ z)) (h p),I.hok,I.len⟩
theorem Bx {N:List Str} (hN:N.Nodup) {i j:Nat} {x:Str} (a:N[i]? = some x) (b:N[j]? = some x):i=j:=by
 obtain ⟨h1,e1⟩:=List.getElem?_eq_some_iff.mp a;obtain ⟨h2,e2⟩:=List.getElem?_eq_some_iff.mp b;exact (List.getElem_inj hN).mp (e1.trans e2.symm)
theorem DW {M:Model} {A:Around} {E:Value->Shared->Prop} {i:Nat} {x:Str} {v:V} {u:Value} {Q:Unit->Shared->Prop} (I:Inv X pins σ H s) (hN:X.N.Nodup) (hi:X.N[i]? = some x) (hx:Loc X.env.scope x) (r:RelV v u)
 (h:∀s',Inv X pins (σ.set i (some v)) H s'->(∃a,Heap.SameBut a s.heap s'.heap/\(a=X.env.locals\/X.env.cells.lookup x=some a))->Q () s') (hf:X.fn x=true\/X.env.scope.names.lookup x=some .local:=by first |exact .inl rfl|exact .inr rfl|assumption):wpAny M A (storeName X.env x u) Q E s:=by
 obtain ⟨m,hn,hl⟩:=id I.loc;have hcls:(X.env.scope.kind == .class||(X.env.scope.kind == .module&&X.env.locals != X.env.globals))=false:=by rw [I.ok.kind];rfl
 have aoZ:i<σ.length:=by rw [I.len];exact (List.getElem?_eq_some_iff.mp hi).1
 have Xe:=I.Xe
 have tracked:∀{a:Addr} {h':Heap},(∃o,s.heap.get? a=some o/\H a=none)->Heap.SameBut a s.heap h'->nY X.prog X.w H h':=fun {a h'} ha hs b ob e=>by
  obtain ⟨_,_,hfree⟩:=ha;refine (I.hok b ob e).stay (fun c w' hc q=>(hs.2 c ?_).trans q) (fun _ q=>q) fun _ _ q=>q;rintro rfl;rcases hc with rfl|hc
  ·rw [hfree] at e;cases e
  ·rw [hfree] at hc;cases hc
 rcases hx with hk|hk
 ·refine wpAny_storeName_local hk hn (fun h' hn' hs=> ?_) hcls
  obtain ⟨oL,_,_,hoL,_⟩:=id hn;refine h _ ⟨I.ok,I.os,I.bare,⟨fun b o e n hb hx=> ?_,fun b o e n hb hx=> ?_,I.base.free,fun b o e hx=> ?_,I.base.tups,I.base.qM,I.base.u5⟩,⟨_,hn',fun j y v' e1 e2 e3=> ?_⟩,fun y c e=> ?_,I.free,I.jX,fun p hp=> ?_,tracked ⟨oL,hoL,I.free⟩ hs,by simpa using I.len⟩ ⟨_,hs,.inl rfl⟩
  ·exact (hs.2 b (Nat.ne_of_lt (Nat.lt_of_lt_of_le (Heap.lt_size e) I.ok.above))).trans (I.base.keep b o e n hb hx)
  ·obtain ⟨sl,e1⟩:=I.base.slot b o e n hb hx
   exact ⟨sl,(hs.2 b (Nat.ne_of_lt (Nat.lt_of_lt_of_le (Heap.lt_size e) I.ok.above))).trans e1⟩
  ·obtain ⟨o',e1⟩:=I.base.there b o e hx
   exact ⟨o',(hs.2 b (Nat.ne_of_lt (Nat.lt_of_lt_of_le (Heap.lt_size e) I.ok.above))).trans e1⟩
  ·by_cases hj:j=i
   ·subst hj
    rw [hi] at e1;cases e1;rw [List.getElem?_set_self aoZ] at e2;cases e2;exact ⟨u,r,.inl ⟨hk,by simp⟩⟩
   ·rw [List.getElem?_set_ne (Ne.symm hj)] at e2
    obtain ⟨u',r',q⟩:=hl j y v' e1 e2 e3;refine ⟨u',r', ?_⟩;rcases q with ⟨k,e⟩|⟨k,c,e,z⟩
    ·refine .inl ⟨k, ?_⟩
     have:y≠x:=fun e=>hj (Bx hN e1 (e▸hi));simp [this,e]
    ·exact .inr ⟨k,c,e,z.sameBut hs (Xe y c e)⟩
  ·obtain ⟨w',z⟩:=I.cell y c e
   exact ⟨w',z.sameBut hs (Xe y c e)⟩
  ·obtain ⟨e,n,ne,nf,d⟩:=I.pin p hp
   exact ⟨(hs.2 p.1 ne).trans e,n,ne,nf,d⟩
 ·have hfn:X.fn x=true:=by
   rcases hf with z|z
   ·exact z
   ·rw [z] at hk;cases hk
  obtain ⟨c,hc⟩:=I.ok.has x (.inl hk);obtain ⟨w',z⟩:=I.cell x c hc;refine wpAny_storeName_cell I.ok.kind hk hc z (fun h' hc' hs=> ?_);obtain ⟨oc,hoc,akQ⟩:=id z;refine h {s with heap:=h'} ⟨I.ok,I.os,I.bare,⟨fun b o e n hb hx=> ?_,fun b o e n hb hx=> ?_,I.base.free,fun b o e hx=> ?_,I.base.tups,I.base.qM,I.base.u5⟩,⟨m,hn.sameBut hs (Ne.symm (Xe x c hc)),fun j y v' e1 e2 e3=> ?_⟩,fun y c' e=> ?_,I.free,I.jX,fun p hp=> ?_,tracked ⟨oc,hoc,I.jX x c hc⟩ hs,by simpa using I.len⟩ ⟨c,hs,.inr hc⟩
  ·exact (hs.2 b (Nat.ne_of_lt (Nat.lt_of_lt_of_le (Heap.lt_size e) (I.ok.cab x c hfn hc)))).trans (I.base.keep b o e n hb hx)
  ·obtain ⟨sl,e1⟩:=I.base.slot b o e n hb hx
   exact ⟨sl,(hs.2 b (Nat.ne_of_lt (Nat.lt_of_lt_of_le (Heap.lt_size e) (I.ok.cab x c hfn hc)))).trans e1⟩
  ·obtain ⟨o',e1⟩:=I.base.there b o e hx
   exact ⟨o',(hs.2 b (Nat.ne_of_lt (Nat.lt_of_lt_of_le (Heap.lt_size e) (I.ok.cab x c hfn hc)))).trans e1⟩
  ·by_cases hj:j=i
   ·subst hj
    rw [hi] at e1;cases e1;rw [List.getElem?_set_self aoZ] at e2;cases e2;exact ⟨u,r,.inr ⟨.inl hk,c,hc,hc'⟩⟩
   ·rw [List.getElem?_set_ne (Ne.symm hj)] at e2
    obtain ⟨u',r',q⟩:=hl j y v' e1 e2 e3;refine ⟨u',r', ?_⟩;rcases q with q|⟨k,c',e,z'⟩
    ·exact .inl q
    ·refine .inr ⟨k,c',e,z'.sameBut hs ?_⟩
     rintro rfl;exact hj (Bx hN e1 (I.ok.inj _ _ _ e hc▸hi))
  ·by_cases hcc:c'=c
   ·subst hcc;exact ⟨_,hc'⟩
   ·obtain ⟨w2,z2⟩:=I.cell y c' e
    exact ⟨w2,z2.sameBut hs hcc⟩
  ·obtain ⟨e,n,ne,nf,d⟩:=I.pin p hp
   refine ⟨(hs.2 p.1 ?_).trans e,n,ne,nf,d⟩;intro q;rw [q,hoc] at e;have q':oc=p.2:=Option.some.inj e;exact d w' (by rw [←q'];exact akQ)
theorem vM {M:Model} {A:Around} {E:Value->Shared->Prop} {i:Nat} {x:Str} {v:V} {u:Value} {Q:Unit->Shared->Prop} (I:Inv X pins σ H s) (hN:X.N.Nodup) (hi:X.N[i]? = some x) (hx:Loc X.env.scope x) (r:RelV v u)
 (h:∀s',Inv X pins (σ.set i (some v)) H s'->Q () s') (hf:X.fn x=true\/X.env.scope.names.lookup x=some .local:=by first |exact .inl rfl|exact .inr rfl|assumption):wpAny M A (storeName X.env x u) Q E s:=
 DW I hN hi hx r (fun s' I' _=>h s' I') hf
theorem Inv.call' {s':Shared} {ch:List Addr} (I:Inv X pins σ H s) (ho:s'.os=s.os) (u:Un (frs X.stack) ch H H' s.heap s'.heap) (hok:nY X.prog X.w H' s'.heap) (hg:AllBare s'.gens)
 (hch:∀b∈ch,(b∈X.ex\/X.s₀.heap.objs.size<=b)/\b≠X.env.locals/\(∀x c,X.env.cells.lookup x=some c->c≠b) /\ ∀p∈X.pn++pins,p.1≠b):Inv X pins σ H' s':=by
 obtain ⟨h',g',d',t',o'⟩:=s';have e:o'=s.os:=ho;subst e;exact I.call (g':=g') (t':=t') (d':=d') u hok hg hch
end
abbrev XK:=Value->Option Addr->Hp->Prop
abbrev St:=List (Option V)
abbrev VK:=V->Hp->Prop
abbrev TE:=St->Hp->VK->Prop
abbrev TT:=St->Hp->(Bool->Hp->Prop)->Prop
abbrev TA:=St->Hp->(List V->Hp->Prop)->Prop
structure Ends where
 nx:St->Hp->Prop
 rt:VK
 bk:St->Hp->Prop:=fun _ _=>False
 ct:St->Hp->Prop:=fun _ _=>False
abbrev TS:=Ends->St->Hp->Prop
def EP (X:Cx) (pins:List (Addr×Obj)) (σ:St) (Q:VK) (u:Value) (s':Shared):Prop:=∃v H',Inv X pins σ H' s'/\RelV v u/\Q v H'
def TP (X:Cx) (pins:List (Addr×Obj)) (σ:St) (Q:Bool->Hp->Prop) (b:Bool) (s':Shared):Prop:=∃H',Inv X pins σ H' s'/\Q b H'
def AP (X:Cx) (pins:List (Addr×Obj)) (σ:St) (Q:List V->Hp->Prop) (us:List Value) (s':Shared):Prop:=∃vs H',Inv X pins σ H' s'/\Vals vs us/\Q vs H'
def SP (X:Cx) (pins:List (Addr×Obj)) (D:Ends) (f:Flow) (s':Shared):Prop:=
 match f with
 | .next=>∃σ' H',Inv X pins σ' H' s'/\D.nx σ' H'
 | .brk=>∃σ' H',Inv X pins σ' H' s'/\D.bk σ' H'
 | .cont=>∃σ' H',Inv X pins σ' H' s'/\D.ct σ' H'
 | .ret u=>∃v σ' H',Inv X pins σ' H' s'/\RelV v u/\D.rt v H'
def PE (X:Cx) (e:Expr) (t:TE):Prop:=
 ∀(pins:List (Addr×Obj)) (s:Shared) (σ:St) (H:Hp) (Q:VK),Inv X pins σ H s->t σ H Q->wpAny (model X.prog X.w) X.A (eval e X.env) (EP X pins σ Q) X.xe s
def PT (X:Cx) (e:Expr) (t:TT):Prop:=
 ∀(pins:List (Addr×Obj)) (s:Shared) (σ:St) (H:Hp) (Q:Bool->Hp->Prop),Inv X pins σ H s->t σ H Q->wpAny (model X.prog X.w) X.A (isTrue e X.env (eval e X.env)) (TP X pins σ Q) X.xe s
def PW (X:Cx) (e:Expr) (t:TT):Prop:=
 ∀(whole:Sem Value) (pins:List (Addr×Obj)) (s:Shared) (σ:St) (H:Hp) (Q:Bool->Hp->Prop),Inv X pins σ H s->t σ H Q->wpAny (model X.prog X.w) X.A (isTrue e X.env whole) (TP X pins σ Q) X.xe s
theorem PW.pt {X:Cx} {e:Expr} {t:TT} (h:PW X e t):PT X e t:=h _
def PA (X:Cx) (es:List Expr) (t:TA):Prop:=
 ∀(pos:Pos) (pins:List (Addr×Obj)) (s:Shared) (σ:St) (H:Hp) (Q:List V->Hp->Prop),Inv X pins σ H s->t σ H Q->wpAny (model X.prog X.w) X.A (spliced (backTo pos (starEach es X.env))) (AP X pins σ Q) X.xe s
def PS (X:Cx) (st:Stmt) (t:TS):Prop:=
 ∀(pins:List (Addr×Obj)) (s:Shared) (σ:St) (H:Hp) (D:Ends),Inv X pins σ H s->t D σ H->wpAny (model X.prog X.w) X.A (exec st X.env) (SP X pins D) X.xe s
def HJ (X:Cx) (st:List Stmt) (t:TS):Prop:=
 ∀(pins:List (Addr×Obj)) (s:Shared) (σ:St) (H:Hp) (D:Ends),Inv X pins σ H s->t D σ H->wpAny (model X.prog X.w) X.A (execs st X.env) (SP X pins D) X.xe s
theorem d9 {α:Type} {t:Sem α} {Q Q':α->Shared->Prop} {M:Model} {A:Around} {E:Value->Shared->Prop} {s:Shared} (h:wpAny M A t Q E s) (hQ:∀a s,Q a s->Q' a s):wpAny M A t Q' E s:=wpAny_mono h hQ fun _ _ x=>x
end L2
namespace L2
open PySem PySem.Spec PyProof.Rows
section
variable {X:Cx}
def Y0 (i:Nat):TE:=fun σ H Q=>∃v,σ[i]? = some (some v)/\Q v H
def tC (v:V):TE:=fun _ H Q=>Q v H
theorem ZJ {i:Nat} {x:Str} {pos:Pos} (hN:X.N[i]? = some x) (hv:Vis X.env.scope x) (hd:(x==("__debug__" :Str))=false:=by decide) (hcd:(x==("__classdict__" :Str))=false:=by decide):PE X (.Name x pos) (Y0 i):=by
 intro pins s σ H Q I h;obtain ⟨v,e,h⟩:=h;obtain ⟨m,hn,hl⟩:=I.loc;obtain ⟨u,r,l⟩:=hl i x v hN e hv;have fin:EP X pins σ Q u s:=⟨v,H,I,r,h⟩;rcases l with ⟨hk,hm⟩|⟨hk,c,hc,hcell⟩
 ·exact wpAny_Name (wpAny_loadName_local I.ok.kind hk hn hm fin) hd
 ·rcases hk with hk|hk
  ·exact wpAny_Name (wpAny_loadName_cell I.ok.kind hk hc hcell fin) hd
  ·exact wpAny_Name (wpAny_loadName_free I.ok.kind hk hc hcell fin hcd) hd
theorem aG {i j pos}:PE X (.Constant (.int i) j pos) (tC (.int i)):=fun _ _ _ H _ I h=>wpAny_Constant_int ⟨.int i,H,I.tok _,⟨_,rfl⟩,h⟩
theorem wu {b j pos}:PE X (.Constant (.bool b) j pos) (tC (.bl b)):=fun _ _ _ H _ I h=>Constant_bool ⟨.bl b,H,I,rfl,h⟩
theorem jq {j pos}:PE X (.Constant .none j pos) (tC .non):=fun _ _ _ H _ I h=>Constant_none ⟨.non,H,I,rfl,h⟩
theorem cT {x j pos}:PE X (.Constant (.str x) j pos) (tC (.str x)):=fun _ _ _ H _ I h=>Calls.Constant_str ⟨.str x,H,I.tok _,⟨_,rfl⟩,h⟩
def Gl (X:Cx) (x:Str):Prop:=X.env.kindOf x=some .globalImplicit
theorem oA {E:Value->Shared->Prop} {pins:List (Addr×Obj)} {s:Shared} {σ:St} {H:Hp} {x:Str} {u:Value} {pos:Pos} {Q:Value->Shared->Prop} (I:Inv X pins σ H s) (hg:Gl X x) (hm:X.mg x=some u) (h:Q u s)
 (hd:(x==("__debug__" :Str))=false:=by decide):wpAny (model X.prog X.w) X.A (eval (.Name x pos) X.env) Q E s:=
 Calls.Name_function_global I.ok.kind hg (Calls.loadGlobal_global (by rw [I.ok.glob];exact I.mod.glob.keeps I.bk) hm h) hd
theorem vm {E:Value->Shared->Prop} {pins:List (Addr×Obj)} {s:Shared} {σ:St} {H:Hp} {x:Str} {u:Value} {pos:Pos} {Q:Value->Shared->Prop} (I:Inv X pins σ H s) (hg:Gl X x) (hm:X.mg x=none) (hv:bootBuiltins x=some u) (h:Q u s)
 (hn:x ≠ "__name__" :=by decide) (hd:(x==("__debug__" :Str))=false:=by decide):wpAny (model X.prog X.w) X.A (eval (.Name x pos) X.env) Q E s:=by
 obtain ⟨mb,h1,h2⟩:=I.mod.blt;exact Calls.Name_function_global I.ok.kind hg (Calls.loadGlobal_builtin (by rw [I.ok.glob];exact I.mod.glob.keeps I.bk) hm (by rw [I.ok.blt];exact h1.keeps I.bk) ((h2 x hn).trans hv) h) hd
theorem jc {x:Str} {v:V} {u:Value} {pos:Pos} (hg:Gl X x) (hm:X.mg x=some u) (r:RelV v u) (hd:(x==("__debug__" :Str))=false:=by decide):PE X (.Name x pos) (tC v):=
 fun _ _ _ H _ I h=>oA I hg hm ⟨v,H,I,r,h⟩ hd
theorem fJ {x:Str} {v:V} {u:Value} {pos:Pos} (hg:Gl X x) (hm:X.mg x=none) (hv:bootBuiltins x=some u) (r:RelV v u) (hn:x ≠ "__name__" :=by decide) (hd:(x==("__debug__" :Str))=false:=by decide):PE X (.Name x pos) (tC v):=
 fun _ _ _ H _ I h=>vm I hg hm hv ⟨v,H,I,r,h⟩ hn hd
variable {a b:Expr} {ta tb:TE} {pos:Pos}
def tB (t:TE):TT:=fun σ H Q=>t σ H fun x H1=>∃c,x = .bl c/\Q c H1
theorem eO {e:Expr} {t:TE} (h:PE X e t) (he:∀whole,isTrue e X.env whole=(do let v ←whole;standAt e.pos;holding [v] (truthy v)):=by intro _;rfl):PT X e (tB t):=by
 intro pins s σ H Q I hw;refine isTrue_plain (d9 (h pins s σ H _ I hw) fun v s1 ⟨x,H1,I1,r1,q1⟩=> ?_) (he _);obtain ⟨d,rfl,q⟩:=q1;cases r1;exact wpAny_truthy_bool ⟨H1,I1,q⟩
variable {tA tB':TT} {rest:List Expr}
def agp (t u:TT):TT:=fun σ H Q=>t σ H fun c H1=>if c=true then u σ H1 Q else Q false H1
def tOr (t u:TT):TT:=fun σ H Q=>t σ H fun c H1=>if c=true then Q true H1 else u σ H1 Q
def agi (t:TT):TT:=fun σ H Q=>t σ H fun c H1=>Q (!c) H1
theorem Gb (ha:PT X a tA):PW X (.BoolOp .And [a] pos) tA:=by
 intro wh pins s σ H Q I h;refine isTrue_and (d9 (ha pins s σ H Q I h) fun c s1 e=> ?_);cases c with
 | true=>exact isTrue_and_nil e
 | false=>exact e
theorem mG (ha:PT X a tA):PW X (.BoolOp .Or [a] pos) tA:=by
 intro wh pins s σ H Q I h;refine isTrue_or (d9 (ha pins s σ H Q I h) fun c s1 e=> ?_);cases c with
 | false=>exact isTrue_or_nil e
 | true=>exact e
theorem Ko (ha:PT X a tA) (hb:PW X (.BoolOp .And (b::rest) pos) tB'):PW X (.BoolOp .And (a::b::rest) pos) (agp tA tB'):=by
 intro wh pins s σ H Q I h;refine isTrue_and (d9 (ha pins s σ H _ I h) fun c s1 ⟨H1,I1,q1⟩=> ?_);cases c with
 | true=>exact hb wh pins s1 σ H1 Q I1 q1
 | false=>exact ⟨H1,I1,q1⟩
theorem oh (ha:PT X a tA) (hb:PW X (.BoolOp .Or (b::rest) pos) tB'):PW X (.BoolOp .Or (a::b::rest) pos) (tOr tA tB'):=by
 intro wh pins s σ H Q I h;refine isTrue_or (d9 (ha pins s σ H _ I h) fun c s1 ⟨H1,I1,q1⟩=> ?_);cases c with
 | true=>exact ⟨H1,I1,q1⟩
 | false=>exact hb wh pins s1 σ H1 Q I1 q1
theorem gB (ha:PT X a tA):PT X (.UnaryOp .Not a pos) (agi tA):=by
 intro pins s σ H Q I h;exact isTrue_not (ha pins s σ H (fun c H1=>Q (!c) H1) I h)
def abT (ta tb:TE):TE:=fun σ H Q=>ta σ H fun x H1=>∃c,x = .bl c/\if c=true then tb σ H1 Q else Q (.bl false) H1
def agh (ta tb:TE):TE:=fun σ H Q=>ta σ H fun x H1=>∃c,x = .bl c/\if c=true then Q (.bl true) H1 else tb σ H1 Q
def abO (ta:TE):TE:=fun σ H Q=>ta σ H fun x H1=>∃c,x = .bl c/\Q (.bl (!c)) H1
theorem qD {op} {t:TE} (h:PE X a t):PE X (.BoolOp op [a] pos) t:=fun pins s σ H Q I hw=>BoolOp_one (h pins s σ H Q I hw)
theorem nH (ha:PE X a ta) (hb:PE X (.BoolOp .And (b::rest) pos) tb):PE X (.BoolOp .And (a::b::rest) pos) (abT ta tb):=by
 intro pins s σ H Q I h;refine BoolOp_and (d9 (ha pins s σ H _ I h) fun v s1 ⟨x,H1,I1,r1,q1⟩=> ?_);obtain ⟨c,rfl,q1⟩:=q1;cases r1;refine wpAny_truthy_bool ?_;cases c with
 | true=>exact hb pins s1 σ H1 Q I1 q1
 | false=>exact ⟨.bl false,H1,I1,rfl,q1⟩
theorem acg (ha:PE X a ta) (hb:PE X (.BoolOp .Or (b::rest) pos) tb):PE X (.BoolOp .Or (a::b::rest) pos) (agh ta tb):=by
 intro pins s σ H Q I h;refine BoolOp_or (d9 (ha pins s σ H _ I h) fun v s1 ⟨x,H1,I1,r1,q1⟩=> ?_);obtain ⟨c,rfl,q1⟩:=q1;cases r1;refine wpAny_truthy_bool ?_;cases c with
 | false=>exact hb pins s1 σ H1 Q I1 q1
 | true=>exact ⟨.bl true,H1,I1,rfl,q1⟩
theorem RD (ha:PE X a ta):PE X (.UnaryOp .Not a pos) (abO ta):=by
 intro pins s σ H Q I h;refine UnaryOp_ (d9 (ha pins s σ H _ I h) fun v s1 ⟨x,H1,I1,r1,q1⟩=> ?_);obtain ⟨c,rfl,q1⟩:=q1;cases r1;exact not_of (wpAny_truthy_bool ⟨.bl (!c),H1,I1,rfl,q1⟩)
def tIf (t:TT) (ta tb:TE):TE:=fun σ H Q=>t σ H fun c H1=>if c=true then ta σ H1 Q else tb σ H1 Q
theorem pI {c:Expr} (hc:PT X c tA) (ha:PE X a ta) (hb:PE X b tb):PE X (.IfExp c a b pos) (tIf tA ta tb):=by
 intro pins s σ H Q I h;refine wpAny_IfExp (d9 (hc pins s σ H _ I h) fun d s1 ⟨H1,I1,q1⟩=> ?_);cases d with
 | true=>exact ha pins s1 σ H1 Q I1 q1
 | false=>exact hb pins s1 σ H1 Q I1 q1
end
end L2
namespace L2
open PySem PySem.Spec PyProof.Rows
def bL (K:PySem.W.Frag) (H:Hp) (a:Addr) (xs:List V):Prop:=
 Rd H a (.lst xs) \/
  ∃(o:Obj) (its:Array Value) (n:Nat),K.lookup a=some o/\o.cls = .type "list" /\ o.dict=none/\o.data = .seq its n/\its.size<=sizeLine/\Vals xs its.toList
def cQ (K:PySem.W.Frag) (H:Hp) (a:Addr) (xs:List V):Prop:=
 Rd H a (.tup xs) \/
  ∃(o:Obj) (its:Array Value) (n:Nat),K.lookup a=some o/\o.cls = .type "tuple" /\ o.data = .seq its n/\its.size<=sizeLine/\Vals xs its.toList
def anF:Value->Option V
 | .none=>some .non
 | .bool b=>some (.bl b)
 | .int i _=>some (.int i)
 | .str x _=>some (.str x)
 | .bytes b _=>some (.Lf b)
 | .float b _=>some (.flt b)
 | .ref a=>some (.ref a)
 | .type n=>some (.ty n)
 | _=>none
theorem RelV.abs {x:V} {u:Value} (r:RelV x u):anF u=some x:=by
 cases x with
 | non=>cases r;rfl
 | bl _=>cases r;rfl
 | int _=>obtain ⟨t,rfl⟩:=r;rfl
 | str _=>obtain ⟨t,rfl⟩:=r;rfl
 | Lf _=>obtain ⟨t,rfl⟩:=r;rfl
 | flt _=>obtain ⟨t,rfl⟩:=r;rfl
 | ref _=>cases r;rfl
 | ty _=>cases r;rfl
theorem RelV.inj {x y:V} {u:Value} (r:RelV x u) (q:RelV y u):x=y:=Option.some.inj (r.abs.symm.trans q.abs)
theorem Vals.inj {xs ys:List V} {us:List Value} (h:Vals xs us) (h':Vals ys us):xs=ys:=by
 induction h generalizing ys with
 | nil=>cases h';rfl
 | cons r t ih=>cases h' with
   | cons r' t'=>rw [r.inj r',ih t']
section
variable {X:Cx} {pins:List (Addr×Obj)} {σ:St} {H:Hp} {s:Shared} {a:Addr} {xs ys:List V}
theorem bL.of {K:PySem.W.Frag} (h:H a=some (.lst xs)):bL K H a xs:= .inl (.inl h)
theorem cQ.of {K:PySem.W.Frag} (h:H a=some (.tup xs)):cQ K H a xs:= .inl (.inl h)
theorem Inv.list (I:Inv X pins σ H s) (h:bL X.K H a xs):∃its:List Value,Vals xs its/\PlainL s.heap a its.toArray/\xs.length<=sizeLine:=by
 rcases h with h|⟨o,its,n,hk,hc,hd,hs,hz,r⟩
 ·obtain ⟨z,its,n,r,e⟩:=h.ok I.hok
  exact ⟨its,r,⟨_,n,e,rfl,rfl,rfl⟩,z⟩
 ·refine ⟨its.toList,r,⟨o,n,I.qK a o hk,hc,hd,by simpa using hs⟩, ?_⟩
  have e:=r.length;simp only [Array.length_toList] at e;omega
theorem Inv.tuple (I:Inv X pins σ H s) (h:cQ X.K H a xs):∃its:List Value,Vals xs its/\IsTup s.heap a its.toArray/\xs.length<=sizeLine:=by
 rcases h with h|⟨o,its,n,hk,hc,hs,hz,r⟩
 ·obtain ⟨z,its,r,p⟩:=h.ok I.hok
  exact ⟨its,r,p,z⟩
 ·refine ⟨its.toList,r,⟨o,I.qK a o hk,hc,n,by simpa using hs⟩, ?_⟩
  have e:=r.length;simp only [Array.length_toList] at e;omega
theorem Inv.wD (I:Inv X pins σ H s) (h:bL X.K H a xs) (h':bL X.K H a ys):xs=ys:=by
 obtain ⟨its,r,⟨o,n,e,_,_,d⟩,_⟩:=I.list h;obtain ⟨its',r',⟨o',n',e',_,_,d'⟩,_⟩:=I.list h';rw [e] at e';cases e';rw [d] at d';injection d' with d1 _
 have:its=its':=by simpa using congrArg Array.toList d1
 subst this;exact r.inj r'
theorem Inv.xW (I:Inv X pins σ H s) (h:cQ X.K H a xs) (h':cQ X.K H a ys):xs=ys:=by
 obtain ⟨its,r,⟨o,e,_,n,d⟩,_⟩:=I.tuple h;obtain ⟨its',r',⟨o',e',_,n',d'⟩,_⟩:=I.tuple h';rw [e] at e';cases e';rw [d] at d';injection d' with d1 _
 have:its=its':=by simpa using congrArg Array.toList d1
 subst this;exact r.inj r'
end
abbrev Cx.wish (X:Cx) (E:Value->Shared->Prop):Cx:={X with xe:=E}
abbrev Cx.Qq (X:Cx):Cx:=X.wish fun _ _=>False
theorem Cx.Ok.wish {X:Cx} (ok:X.Ok) (E:Value->Shared->Prop):(X.wish E).Ok:=
 ⟨ok.mod,ok.kind,ok.glob,ok.blt,ok.above,ok.inj,ok.has,ok.cab,ok.hd,ok.frames,ok.stk,ok.exf,ok.bs,ok.HF,ok.Gm,ok.Jj,ok.pB,ok.K_⟩
theorem Cx.Ok.rK {X:Cx} {E:Value->Shared->Prop} (ok:(X.wish E).Ok):X.Ok:=
 ⟨ok.mod,ok.kind,ok.glob,ok.blt,ok.above,ok.inj,ok.has,ok.cab,ok.hd,ok.frames,ok.stk,ok.exf,ok.bs,ok.HF,ok.Gm,ok.Jj,ok.pB,ok.K_⟩
section
variable {X:Cx} {pins:List (Addr×Obj)} {σ:St} {H:Hp} {s:Shared} {E:Value->Shared->Prop}
theorem Inv.wish (I:Inv X pins σ H s) (E:Value->Shared->Prop):Inv (X.wish E) pins σ H s:=⟨I.ok.wish E,I.os,I.bare,I.base,I.loc,I.cell,I.free,I.jX,I.pin,I.hok,I.len⟩
theorem Inv.rK (I:Inv (X.wish E) pins σ H s):Inv X pins σ H s:=⟨I.ok.rK,I.os,I.bare,I.base,I.loc,I.cell,I.free,I.jX,I.pin,I.hok,I.len⟩
theorem SP.rK {D:Ends} {f:Flow} {s':Shared} (h:SP (X.wish E) pins D f s'):SP X pins D f s':=by
 cases f with
 | next=>obtain ⟨σ',H',I,q⟩:=h;exact ⟨σ',H',I.rK,q⟩
 | brk=>obtain ⟨σ',H',I,q⟩:=h;exact ⟨σ',H',I.rK,q⟩
 | cont=>obtain ⟨σ',H',I,q⟩:=h;exact ⟨σ',H',I.rK,q⟩
 | ret u=>obtain ⟨v,σ',H',I,r,q⟩:=h;exact ⟨v,σ',H',I.rK,r,q⟩
theorem HJ.Qq {st:List Stmt} {t:TS} (h:HJ X.Qq st t):HJ X st t:=fun pins s σ H D I hw=>
 wpAny_mono (h pins s σ H D (I.wish _) hw) (fun _ _ q=>q.rK) fun _ _ z=>False.elim z
end
section
variable {X:Cx} {st:Stmt} {rest:List Stmt} {t u:TS} {e:Expr} {te:TE} {pos:Pos}
def XM:TS:=fun D σ H=>D.nx σ H
def Y4 (t u:TS):TS:=fun D σ H=>t {D with nx:=u D} σ H
theorem bN:HJ X [] XM:=fun _ _ σ H _ I h=>wpAny_execs_nil ⟨σ,H,I,h⟩
theorem aF (h1:PS X st t) (h2:HJ X rest u):HJ X (st::rest) (Y4 t u):=by
 intro pins s σ H D I h;refine wpAny_execs_cons (d9 (h1 pins s σ H {D with nx:=u D} I h) fun f s1 q=> ?_);cases f with
 | next=>
   obtain ⟨σ',H',I',q⟩:=q;exact h2 pins s1 σ' H' D I' q
 | ret v=>exact q
 | brk=>exact q
 | cont=>exact q
theorem aL (h1:PS X st t):HJ X [st] t:=by
 intro pins s σ H D I h;refine wpAny_execs_cons (d9 (h1 pins s σ H D I h) fun f s1 q=> ?_);cases f with
 | next=>exact wpAny_execs_nil q
 | ret v=>exact q
 | brk=>exact q
 | cont=>exact q
theorem Inv.quiet {pins:List (Addr×Obj)} {σ:St} {H:Hp} {s:Shared} (I:Inv X pins σ H s):interactive X.env=false:=by simp [interactive,I.ok.kind]
def XS (te:TE):TS:=fun D σ H=>te σ H fun _ H1=>D.nx σ H1
theorem fH (he:PE X e te) (hs:swapsWith e none pos.line X.env=pure false:=by rfl):PS X (.Expr e pos) (XS te):=by
 intro pins s σ H D I h;exact wpAny_Expr_any (d9 (he pins s σ H _ I h) fun v s1 ⟨x,H1,I1,r1,q1⟩=>⟨σ,H1,I1,q1⟩) I.quiet hs
def agg (te:TE):TS:=fun D σ H=>te σ H D.rt
theorem bF (he:PE X e te):PS X (.Return (some e) pos) (agg te):=by
 intro pins s σ H D I h;exact wpAny_Return_some (d9 (he pins s σ H _ I h) fun v s1 ⟨x,H1,I1,r1,q1⟩=>⟨x,σ,H1,I1,r1,q1⟩)
def abM:TS:=fun D _ H=>D.rt .non H
theorem V0:PS X (.Return none pos) abM:=fun _ _ σ H _ I h=>wpAny_Return_none ⟨.non,σ,H,I,rfl,h⟩
def agl (c:TT) (t u:TS):TS:=fun D σ H=>c σ H fun b H1=>if b=true then t D σ H1 else u D σ H1
theorem cJ {c:Expr} {a b:List Stmt} {tc:TT} (hc:PT X c tc) (ha:HJ X a t) (hb:HJ X b u):PS X (.If c a b pos) (agl tc t u):=by
 intro pins s σ H D I h;refine wpAny_If (d9 (hc pins s σ H _ I h) fun d s1 ⟨H1,I1,q1⟩=> ?_);cases d with
 | true=>exact ha pins s1 σ H1 D I1 q1
 | false=>exact hb pins s1 σ H1 D I1 q1
def Y6:TS:=fun _ _ _=>False
theorem Rv:PS X st Y6:=fun _ _ _ _ _ _ h=>h.elim
end
abbrev TG:=V->St->Hp->(St->Hp->Prop)->Prop
abbrev Yx:=List V->St->Hp->(St->Hp->Prop)->Prop
def PG (X:Cx) (target:Expr) (t:TG):Prop:=
 ∀(pins:List (Addr×Obj)) (s:Shared) (σ:St) (H:Hp) (v:V) (u:Value) (Q:St->Hp->Prop),Inv X pins σ H s->RelV v u->t v σ H Q ->
  wpAny (model X.prog X.w) X.A (assign target X.env u) (fun _ s'=>∃σ' H',Inv X pins σ' H' s'/\Q σ' H') X.xe s
def PGs (X:Cx) (ts:List Expr) (t:Yx):Prop:=
 ∀(pins:List (Addr×Obj)) (s:Shared) (σ:St) (H:Hp) (vs:List V) (us:List Value) (Q:St->Hp->Prop),Inv X pins σ H s->Vals vs us->t vs σ H Q ->
  wpAny (model X.prog X.w) X.A (assignInOrder ((assignEach ts X.env).map (·.2)) us) (fun _ s'=>∃σ' H',Inv X pins σ' H' s'/\Q σ' H') X.xe s
abbrev Uz:=V->V->V->Hp->(Hp->Prop)->Prop
def aaV (X:Cx) (t:Uz):Prop:=
 ∀(pins:List (Addr×Obj)) (s:Shared) (σ:St) (H:Hp) (o i v:V) (ov iv u:Value) (Q:Hp->Prop),Inv X pins σ H s->RelV o ov->RelV i iv->RelV v u->t o i v H Q ->
  wpAny (model X.prog X.w) X.A (setItem ov iv u) (fun _ s'=>∃H',Inv X pins σ H' s'/\Q H') X.xe s
abbrev TIp:=V->V->Hp->VK->Prop
def PIp (X:Cx) (op:Operator) (t:TIp):Prop:=
 ∀(pins:List (Addr×Obj)) (s:Shared) (σ:St) (H:Hp) (x y:V) (v u:Value) (Q:VK),Inv X pins σ H s->RelV x v->RelV y u->t x y H Q ->
  wpAny (model X.prog X.w) X.A (inplaceOp op v u) (EP X pins σ Q) X.xe s
section
variable {X:Cx} {pos:Pos}
def gO (i:Nat):TG:=fun v σ H Q=>Q (σ.set i (some v)) H
theorem bY {i:Nat} {x:Str} (hN:X.N.Nodup) (hi:X.N[i]? = some x) (hx:Loc X.env.scope x) (hf:X.fn x=true\/X.env.scope.names.lookup x=some .local:=by first |exact .inl rfl|exact .inr rfl|assumption):PG X (.Name x pos) (gO i):=by
 intro pins s σ H v u Q I r h;exact wpAny_assign_Name (vM I hN hi hx r (fun s' I'=>⟨_,H,I',h⟩) hf)
def aav:Yx:=fun vs σ H Q=>vs=[]/\Q σ H
def Jh (t:TG) (u:Yx):Yx:=fun vs σ H Q=>∃v r,vs=v::r/\t v σ H fun σ' H'=>u r σ' H' Q
theorem Ge:PGs X [] aav:=by
 intro pins s σ H vs us Q I r h;obtain ⟨e,h⟩:=h;subst e;cases r;exact assignInOrder_nil ⟨σ,H,I,h⟩
theorem lG {e:Expr} {es:List Expr} {t:TG} {u:Yx} (h1:PG X e t) (h2:PGs X es u)
 (hs:(assignEach (e::es) X.env).map (·.2)=assign e X.env::(assignEach es X.env).map (·.2):=by rfl):PGs X (e::es) (Jh t u):=by
 intro pins s σ H vs us Q I r h;obtain ⟨v,vr,e1,h⟩:=h;subst e1;cases r with
 | cons r rr=>
   rw [hs];refine assignInOrder_cons (d9 (h1 pins s σ H _ _ _ I r h) fun _ s1 ⟨σ1,H1,I1,q1⟩=> ?_);exact h2 pins s1 σ1 H1 _ _ Q I1 rr q1
def W5 (K:PySem.W.Frag) (n:Nat) (t:Yx):TG:=fun v σ H Q=>∃a xs,v = .ref a/\cQ K H a xs/\xs.length=n/\t xs σ H Q
theorem ZG {es:List Expr} {k:Nat} {t:Yx} {n:Nat} (hc:X.calm=true) (h:PGs X es t)
 (hn:(assignEach es X.env).length=n:=by rfl) (hst:(assignEach es X.env).findIdx? (·.1)=none:=by rfl):PG X (.Tuple es k pos) (W5 X.K n t):=by
 intro pins s σ H v u Q I r hw;obtain ⟨a,xs,e1,hq,hl,hw⟩:=hw;subst e1;cases r;obtain ⟨its,rv,ht,hz⟩:=I.tuple hq;refine assign_Tuple_tuple (I.ok.hd hc) ht (by simp [hn,←hl,rv.length]) hst fun h' hx=> ?_;have I1:Inv X pins σ H {s with heap:=h'}:=I.kept (t':=s.toks) fun b o e=>hx b o (Nat.ne_of_lt (Heap.lt_size e)) e;exact h pins _ σ H xs _ Q I1 (by simpa using rv) hw
def akZ (to ti:TE) (t:Uz):TG:=fun v σ H Q=>to σ H fun o H1=>ti σ H1 fun i H2=>t o i v H2 fun H3=>Q σ H3
theorem o9 {o i:Expr} {to ti:TE} {t:Uz} (ho:PE X o to) (hi:PE X i ti) (hs:aaV X t)
 (ha:∀v,assign (.Subscript o i pos) X.env v=(do
   let ov ←holding [v] (eval o X.env)
   let iv ←holding [v,ov] (eval i X.env)
   standAt pos
   holding [v,ov,iv] (setItem ov iv v)
   release [v,ov,iv] []):=by intro _;rfl):PG X (.Subscript o i pos) (akZ to ti t):=by
 intro pins s σ H v u Q I r h;rw [ha];refine wpAny_bind (wpAny_holding (d9 (ho pins s σ H _ I h) fun ov s1 ⟨x,H1,I1,r1,q1⟩=> ?_));refine wpAny_bind (wpAny_holding (d9 (hi pins s1 σ H1 _ I1 q1) fun iv s2 ⟨y,H2,I2,r2,q2⟩=> ?_));refine wpAny_bind (wpAny_standAt (wpAny_bind (wpAny_holding (d9 (hs pins s2 σ H2 x y v ov iv u _ I2 r1 r2 r q2) fun _ s3 ⟨H3,I3,q3⟩=> ?_))));exact wpAny_release ⟨σ,H3,I3,q3⟩
def Ze (te:TE) (g:TG):TS:=fun D σ H=>te σ H fun x H1=>g x σ H1 D.nx
theorem o8 {tg e:Expr} {te:TE} {g:TG} (he:PE X e te) (hg:PG X tg g) (hs:swapsWithSole [tg] e pos.line X.env=pure false:=by rfl) (hw:swappedStores [tg] e X.env=pure none:=by rfl)
 (h1:(assignEach [tg] X.env).map (·.2)=[assign tg X.env]:=by rfl):PS X (.Assign [tg] e pos) (Ze te g):=by
 intro pins s σ H D I h;refine wpAny_Assign_stores (d9 (he pins s σ H _ I h) fun v s1 ⟨x,H1,I1,r1,q1⟩=> ?_) hs hw;rw [h1];exact d9 (hg pins s1 σ H1 x v _ I1 r1 q1) fun _ s2 q=>q
theorem bM {i:Nat} {x:Str} {e:Expr} {te:TE} {pos':Pos} (hN:X.N.Nodup) (hi:X.N[i]? = some x) (hx:Loc X.env.scope x) (he:PE X e te) (hs:swapsWith e (some (.Name x pos')) pos.line X.env=pure false:=by rfl) (hf:X.fn x=true\/X.env.scope.names.lookup x=some .local:=by first |exact .inl rfl|exact .inr rfl|assumption):
 PS X (.Assign [.Name x pos'] e pos) (Ze te (gO i)):=by
 intro pins s σ H D I h;refine wpAny_Assign_Name (d9 (he pins s σ H _ I h) fun v s1 ⟨y,H1,I1,r1,q1⟩=> ?_) hs;exact vM I1 hN hi hx r1 (fun s2 I2=>⟨_,H1,I2,q1⟩) hf
def ago (i:Nat) (te:TE) (ti:TIp):TS:=fun D σ H=>∃x,σ[i]? = some (some x)/\te σ H fun y H1=>ti x y H1 fun z H2=>D.nx (σ.set i (some z)) H2
theorem Zz {i:Nat} {x:Str} {e:Expr} {te:TE} {op:Operator} {ti:TIp} {pos':Pos} (hN:X.N.Nodup) (hi:X.N[i]? = some x) (hx:Loc X.env.scope x) (he:PE X e te) (ho:PIp X op ti) (hf:X.fn x=true\/X.env.scope.names.lookup x=some .local:=by first |exact .inl rfl|exact .inr rfl|assumption):
 PS X (.AugAssign (.Name x pos') op e pos) (ago i te ti):=by
 intro pins s σ H D I h;obtain ⟨v,e1,h⟩:=h;obtain ⟨m,hn,hl⟩:=I.loc;have vis:Vis X.env.scope x:=by rcases hx with k|k;exact .inl k;exact .inr (.inl k)
 obtain ⟨u,r,l⟩:=hl i x v hi e1 vis;refine wpAny_AugAssign_Name ?_
 have go:wpAny (model X.prog X.w) X.A (eval e X.env) (fun w s₂=>wpAny (model X.prog X.w) X.A (inplaceOp op u w) (fun r s₃=>wpAny (model X.prog X.w) X.A (storeName X.env x r) (fun _=>SP X pins D .next) X.xe s₃) X.xe s₂) X.xe s:=by
  refine d9 (he pins s σ H _ I h) fun w s1 ⟨y,H1,I1,r1,q1⟩=> ?_;refine d9 (ho pins s1 σ H1 v y u w _ I1 r r1 q1) fun z s2 ⟨zv,H2,I2,r2,q2⟩=> ?_;exact vM I2 hN hi hx r2 (fun s3 I3=>⟨_,H2,I3,q2⟩) hf
 rcases l with ⟨hk,hm⟩|⟨hk,c,hc,hcell⟩
 ·exact wpAny_loadName_local I.ok.kind hk hn hm go
 ·rcases hk with hk|hk
  ·exact wpAny_loadName_cell I.ok.kind hk hc hcell go
  ·rcases hx with k|k
   ·have:X.env.scope.names.lookup x=some .free:=hk
    rw [k] at this;cases this
   ·have:X.env.scope.names.lookup x=some .free:=hk
    rw [k] at this;cases this
def abS (to ti te:TE) (Vn:V->V->Hp->VK->Prop) (tip:TIp) (Vk:Uz):TS:=fun D σ H=>to σ H fun o H1=>ti σ H1 fun i H2=>Vn o i H2 fun x H3=>te σ H3 fun y H4=>tip x y H4 fun z H5=>Vk o i z H5 fun H6=>D.nx σ H6
def aee (X:Cx) (t:V->V->Hp->VK->Prop):Prop:=
 ∀(pins:List (Addr×Obj)) (s:Shared) (σ:St) (H:Hp) (o i:V) (ov iv:Value) (Q:VK),Inv X pins σ H s->RelV o ov->RelV i iv->t o i H Q ->
  wpAny (model X.prog X.w) X.A (getItem ov iv) (EP X pins σ Q) X.xe s
theorem V1 {o i e:Expr} {to ti te:TE} {Vn:V->V->Hp->VK->Prop} {tip:TIp} {Vk:Uz} {op:Operator} {tpos:Pos} (ho:PE X o to) (hi:PE X i ti) (hg:aee X Vn) (he:PE X e te) (hp:PIp X op tip) (hs:aaV X Vk)
 (ha:∀ov iv new,augStore i ov iv new=(do holding [new,ov,iv] (setItem ov iv new);release [new,ov,iv] [];pure .next):=by intros;rfl):PS X (.AugAssign (.Subscript o i tpos) op e pos) (abS to ti te Vn tip Vk):=by
 intro pins s σ H D I h;refine wpAny_AugAssign_SubscriptAny (d9 (ho pins s σ H _ I h) fun ov s1 ⟨x1,H1,I1,r1,q1⟩=> ?_) ha;refine d9 (hi pins s1 σ H1 _ I1 q1) fun iv s2 ⟨x2,H2,I2,r2,q2⟩=> ?_;refine d9 (hg pins s2 σ H2 x1 x2 ov iv _ I2 r1 r2 q2) fun old s3 ⟨x3,H3,I3,r3,q3⟩=> ?_;refine d9 (he pins s3 σ H3 _ I3 q3) fun v s4 ⟨x4,H4,I4,r4,q4⟩=> ?_;refine d9 (hp pins s4 σ H4 x3 x4 old v _ I4 r3 r4 q4) fun new s5 ⟨x5,H5,I5,r5,q5⟩=> ?_;exact d9 (hs pins s5 σ H5 x1 x2 x5 ov iv new _ I5 r1 r2 r5 q5) fun _ s6 ⟨H6,I6,q6⟩=>⟨σ,H6,I6,q6⟩
def ipI (f:Int->Int->Int):TIp:=fun x y H Q=>∃i j,x = .int i/\y = .int j/\Q (.int (f i j)) H
theorem Gw:PIp X .Add (ipI fun i j=>i+j):=by
 intro pins s σ H x y v u Q I r1 r2 h;obtain ⟨i,j,e1,e2,q⟩:=h;subst e1;subst e2;obtain ⟨t,rfl⟩:=r1;obtain ⟨t',rfl⟩:=r2;exact iadd_int ⟨.int _,H,I.tok _,⟨_,rfl⟩,q⟩
end
section
variable {X:Cx} {pos:Pos}
def YZ (c:TT) (tb:TS):TS:=fun D σ H=>∃W:Nat->St->Hp->Prop,(∃m,W m σ H) /\ ∀m σ H,W m σ H ->
 c σ H fun b H1=>if b=true then ∃N:St->Hp->Prop,(∀σ' H',N σ' H' -> ∃m',m'<m/\W m' σ' H')/\tb {D with nx:=N,ct:=N,bk:=D.nx} σ H1 else D.nx σ H1
theorem Ig {c:Expr} {body:List Stmt} {tc:TT} {tb:TS} (hp:PassesOwn (model X.prog X.w) X.A X.env X.xe) (hc:PT X c tc) (hb:HJ X body tb):PS X (.While c body [] pos) (YZ tc tb):=by
 intro pins s σ H D I h;obtain ⟨W,⟨m0,w0⟩,turn⟩:=h;refine wpAny_While (codeAny_whileLoop (fun n s'=>∃σ' H',Inv X pins σ' H' s'/\W n σ' H') ?_ m0 ⟨σ,H,I,w0⟩);rintro n s1 ⟨σ1,H1,I1,w1⟩;refine wpAny_passesOwn hp (d9 (hc pins s1 σ1 H1 _ I1 (turn n σ1 H1 w1)) fun b s2 ⟨H2,I2,q2⟩=> ?_);cases b with
 | true=>
   obtain ⟨N,hN,q2⟩:=q2;rw [if_pos rfl];refine wpAny_passesOwn hp (d9 (hb pins s2 σ1 H2 _ I2 q2) fun f s3 q3=> ?_);cases f with
   | next=>
     obtain ⟨σ3,H3,I3,n3⟩:=q3;obtain ⟨m',hm,w3⟩:=hN σ3 H3 n3;exact ⟨m',hm,σ3,H3,I3,w3⟩
   | cont=>
     obtain ⟨σ3,H3,I3,n3⟩:=q3;obtain ⟨m',hm,w3⟩:=hN σ3 H3 n3;exact ⟨m',hm,σ3,H3,I3,w3⟩
   | brk=>exact q3
   | ret v=>exact q3
 | false=>
   rw [if_neg Bool.false_ne_true];exact wpAny_execs_nil ⟨σ1,H2,I2,q2⟩
end
structure It where
 go:Nat->Hp->Prop
 yld:Nat->Hp->V->Hp->Prop
 stop:Nat->Hp->Prop
def sZ (X:Cx) (pins:List (Addr×Obj)) (H:Hp) (b:Addr):Prop:=
 H b=none/\b≠X.env.locals/\b∉X.fs/\(b∈X.ex\/X.s₀.heap.objs.size<=b)/\(∀x c,X.env.cells.lookup x=some c->c≠b) /\ ∀p∈X.pn++pins,p.1≠b
theorem Inv.Ca {X:Cx} {pins:List (Addr×Obj)} {σ:St} {H H':Hp} {s:Shared} {b:Addr} (I:Inv X pins σ H s) (hb:s.heap.objs.size<=b) (hn:H' b=none):sZ X pins H' b:=by
 refine ⟨hn,Nat.ne_of_gt (Nat.lt_of_lt_of_le I.lt hb),I.ajh hb,.inr (Nat.le_trans I.sz hb),fun x c e z=> ?_,fun p hp z=> ?_⟩
 ·obtain ⟨v,q⟩:=I.cell x c e
  exact absurd (Nat.lt_of_lt_of_le q.lt (by rw [z];exact hb)) (Nat.lt_irrefl _)
 ·exact absurd (Nat.lt_of_lt_of_le (Heap.lt_size (I.pin p hp).1) (by rw [z];exact hb)) (Nat.lt_irrefl _)
structure Turn (P:Program) (w:World) (K:PySem.W.Frag) (tg:Expr) (J:It) (fp:List Addr) (it:Addr) (tn:Nat->Heap->Prop):Prop where
 mem:it∈fp
 obj:∀i h,tn i h -> ∀b∈fp,∃o,h.get? b=some o /\ ∀v,o.data ≠ .cell v
 keep:∀i h h',tn i h->(∀b∈fp,∀o,h.get? b=some o->h'.get? b=some o)->tn i h'
 item:∀(X:Cx),X.prog=P->X.w=w->X.K=K->X.calm=true -> ∀(i:Nat) (pins:List (Addr×Obj)) (s:Shared) (σ:St) (H:Hp) (E:Value->Shared->Prop),Inv X pins σ H s->(∀b∈fp,sZ X pins H b)->tn i s.heap->J.go i H ->
  wpAny (model P w) X.A (pyNext (.ref it)) (fun r s1=>∃u,r=some u /\
   wpAny (model P w) X.A (letOwnedTupleGo tg (.ref it) u) (fun _ s2=>∃x H',Inv X pins σ H' s2/\RelV x u/\J.yld i H x H'/\tn (i+1) s2.heap /\ ∀b∈fp,H' b=none) E s1) E s
 done:∀(X:Cx),X.prog=P->X.w=w->X.K=K->X.calm=true -> ∀(i:Nat) (pins:List (Addr×Obj)) (s:Shared) (σ:St) (H:Hp) (E:Value->Shared->Prop),Inv X pins σ H s->(∀b∈fp,sZ X pins H b)->tn i s.heap->J.stop i H ->
  wpAny (model P w) X.A (pyNext (.ref it)) (fun r s1=>r=none/\Inv X pins σ H s1) E s
 self:∀(A:Around) (i:Nat) (s:Shared) (Q:Value->Shared->Prop) (E:Value->Shared->Prop),tn i s.heap->Q (.ref it) s->wpAny (model P w) A (pyIter (.ref it)) Q E s
abbrev TI:=St->Hp->(It->Hp->Prop)->Prop
def PIE (X:Cx) (pins:List (Addr×Obj)) (σ:St) (tg:Expr) (R:It->Hp->Prop) (itv:Value) (s2:Shared):Prop:=
 ∃(it:Addr) (fp:List Addr) (tn:Nat->Heap->Prop) (J:It) (H':Hp),itv = .ref it/\Inv X pins σ H' s2/\Turn X.prog X.w X.K tg J fp it tn/\tn 0 s2.heap/\(∀b∈fp,sZ X pins H' b)/\R J H'
def PI (X:Cx) (tg iter:Expr) (wi:TI):Prop:=
 ∀(pins:List (Addr×Obj)) (s:Shared) (σ:St) (H:Hp) (R:It->Hp->Prop),Inv X pins σ H s->wi σ H R ->
  wpAny (model X.prog X.w) X.A (eval iter X.env) (fun v s1=>wpAny (model X.prog X.w) X.A (pyIter v) (PIE X pins σ tg R) X.xe s1) X.xe s
theorem Jg {M:Model} {A:Around} {E:Value->Shared->Prop} {s:Shared} {tg:Expr} {it:Addr} {u:Value} {o:Obj} {n:String} {vs:Array Value} {Q:Unit->Shared->Prop} (ho:s.heap.get? it=some o) (hc:o.cls = .type n) (hd:o.data = .fields vs)
 (hn:["enumerate","zip","dict_itemiterator","dict_reverseitemiterator","odict_iterator","itertools.zip_longest","itertools.pairwise"].contains n=false) (hQ:Q () s):wpAny M A (letOwnedTupleGo tg (.ref it) u) Q E s:=by
 unfold letOwnedTupleGo
 cases tg<;>first
  | exact wpAny_pure hQ
  | (cases u<;>first
      | exact wpAny_pure hQ
      | (refine wpAny_bind (wpAny_load ho ?_)
         rw [hc,hd];show wpAny M A (if (["enumerate","zip","dict_itemiterator","dict_reverseitemiterator","odict_iterator","itertools.zip_longest","itertools.pairwise"].contains n&&vs[0]? == some (rawInt _))=true then _ else _) Q E s;rw [if_neg (by intro h;rw [hn,Bool.false_and] at h;cases h)];exact wpAny_pure hQ))
def Yy (K:PySem.W.Frag) (a:Addr):It:=
 ⟨fun i H=>∃xs x,bL K H a xs/\xs[i]? = some x,fun i H x H'=>H'=H /\ ∀xs,bL K H a xs->xs[i]? = some x,fun i H=>∃xs,bL K H a xs/\xs.length<=i⟩
def Itt (K:PySem.W.Frag) (a:Addr):It:=
 ⟨fun i H=>∃xs x,cQ K H a xs/\xs[i]? = some x,fun i H x H'=>H'=H /\ ∀xs,cQ K H a xs->xs[i]? = some x,fun i H=>∃xs,cQ K H a xs/\xs.length<=i⟩
def Vh (lo:Int) (n:Nat):It:=⟨fun i _=>i<n,fun i H x H'=>H'=H/\x = .int (lo+i),fun i _=>n<=i⟩
theorem NP {P:Program} {w:World} {K:PySem.W.Frag} {tg:Expr} (a it:Addr):Turn P w K tg (Yy K a) [it] it (fun i h=>h.IsListIter it a i) where
 mem:=by simp
 obj:=fun i h st b hb=>by
  have e:b=it:=by simpa using hb
  subst e;obtain ⟨o,e,c,d⟩:=st;exact ⟨o,e,fun v z=>by rw [d] at z;cases z⟩
 keep:=fun i h h' st k=>st.at fun o e=>k it (by simp) o e
 item:=by
  intro X hP hw hK hc i pins s σ H E I hf st hg;subst hP hw hK;obtain ⟨xs,x,hq,hx⟩:=hg;obtain ⟨its,rv,p,hz⟩:=I.list hq;obtain ⟨u,hu,ru⟩:=rv.get hx;obtain ⟨f0,f1,f2,f3,f4,f5⟩:=hf it (by simp);refine wpAny_pyNext_list_item st p.isList (x:=u) (by simpa using hu) fun h' st' sb=> ?_;have I1:Inv X pins σ H {s with heap:=h'}:=I.turned (t':=s.toks) (fun b o hb e=>(sb.2 b hb).trans e) f0 f1 f3 f4 f5;obtain ⟨o,e,c,d⟩:=id st';exact ⟨u,rfl,Jg (s:={s with heap:=h'}) e c d (by decide) ⟨x,H,I1,ru,⟨rfl,fun ys hy=>by rw [I.wD hy hq];exact hx⟩,st',fun b hb=>(hf b hb).1⟩⟩
 done:=by
  intro X hP hw hK hc i pins s σ H E I hf st hg;subst hP hw hK;obtain ⟨xs,hq,hx⟩:=hg;obtain ⟨its,rv,p,hz⟩:=I.list hq;obtain ⟨f0,f1,f2,f3,f4,f5⟩:=hf it (by simp);have hl:=rv.length;exact wpAny_pyNext_list_end (I.ok.hd hc) st p.isList (by simp;omega) fun h' eb=>⟨rfl,I.turned (t':=s.toks) (fun b o hb e=>eb b o hb e) f0 f1 f3 f4 f5⟩
 self:=fun _ _ _ _ _ st h=>wpAny_pyIter_listiter st h
theorem J0 {P:Program} {w:World} {K:PySem.W.Frag} {tg:Expr} (a it:Addr):Turn P w K tg (Itt K a) [it] it (fun i h=>h.IsTupleIter it a i) where
 mem:=by simp
 obj:=fun i h st b hb=>by
  have e:b=it:=by simpa using hb
  subst e;obtain ⟨o,e,c,d⟩:=st;exact ⟨o,e,fun v z=>by rw [d] at z;cases z⟩
 keep:=fun i h h' st k=>st.at fun o e=>k it (by simp) o e
 item:=by
  intro X hP hw hK hc i pins s σ H E I hf st hg;subst hP hw hK;obtain ⟨xs,x,hq,hx⟩:=hg;obtain ⟨its,rv,p,hz⟩:=I.tuple hq;obtain ⟨u,hu,ru⟩:=rv.get hx;obtain ⟨f0,f1,f2,f3,f4,f5⟩:=hf it (by simp);refine wpAny_pyNext_tuple_item st (show s.heap.IsTuple a its.toArray from p) (x:=u) (by simpa using hu) fun h' st' sb=> ?_;have I1:Inv X pins σ H {s with heap:=h'}:=I.turned (t':=s.toks) (fun b o hb e=>(sb.2 b hb).trans e) f0 f1 f3 f4 f5;obtain ⟨o,e,c,d⟩:=id st';exact ⟨u,rfl,Jg (s:={s with heap:=h'}) e c d (by decide) ⟨x,H,I1,ru,⟨rfl,fun ys hy=>by rw [I.xW hy hq];exact hx⟩,st',fun b hb=>(hf b hb).1⟩⟩
 done:=by
  intro X hP hw hK hc i pins s σ H E I hf st hg;subst hP hw hK;obtain ⟨xs,hq,hx⟩:=hg;obtain ⟨its,rv,p,hz⟩:=I.tuple hq;obtain ⟨f0,f1,f2,f3,f4,f5⟩:=hf it (by simp);have hl:=rv.length;exact wpAny_pyNext_tuple_end (I.ok.hd hc) st (show s.heap.IsTuple a its.toArray from p) (by simp;omega) fun h' eb=>⟨rfl,I.turned (t':=s.toks) (fun b o hb e=>eb b o hb e) f0 f1 f3 f4 f5⟩
 self:=fun _ _ _ _ _ st h=>wpAny_pyIter_tupleiter st h
theorem J1 {P:Program} {w:World} {K:PySem.W.Frag} {tg:Expr} (it:Addr) (lo:Int) (n:Nat):Turn P w K tg (Vh lo n) [it] it (fun i h=>IsRangeIter h it (lo+(i:Nat)*1) ((n:Int) - (i:Nat)) 1) where
 mem:=by simp
 obj:=fun i h st b hb=>by
  have e:b=it:=by simpa using hb
  subst e
  exact ⟨_,st,fun v z=>by
   have z':Data.fields _=Data.cell v:=z;cases z'⟩
 keep:=fun i h h' st k=>k it (by simp) _ st
 item:=by
  intro X hP hw hK hc i pins s σ H E I hf st hg;subst hP hw hK;obtain ⟨f0,f1,f2,f3,f4,f5⟩:=hf it (by simp);have W:=Walks.range (prog:=X.prog) (w:=X.w) (I.ok.hd hc) it lo 1 n;refine W.item i s _ _ hg st fun v h' tk hv st' kk=> ?_;obtain ⟨t,rfl⟩:=hv;have I1:Inv X pins σ H {s with heap:=h',toks:=tk}:=I.turned (fun b o hb e=>kk b o (by simpa using hb) e) f0 f1 f3 f4 f5;refine ⟨_,rfl,Jg (s:={s with heap:=h',toks:=tk}) (n:= "range_iterator") st' rfl rfl (by decide) ⟨.int (lo+i),H,I1,⟨t, ?_⟩,⟨rfl,rfl⟩,st',fun b hb=>(hf b hb).1⟩⟩;rw [Int.mul_one]
 done:=by
  intro X hP hw hK hc i pins s σ H E I hf st hg;subst hP hw hK;obtain ⟨f0,f1,f2,f3,f4,f5⟩:=hf it (by simp);exact wpAny_pyNext_range_end (I.ok.hd hc) st (by have:n<=i:=hg;omega) fun h' eb=>⟨rfl,I.turned (t':=s.toks) (fun b o hb e=>eb b o hb e) f0 f1 f3 f4 f5⟩
 self:=fun _ _ _ _ _ st h=>wpAny_pyIter_rangeiter st h
end L2
namespace L2
open PySem PySem.Spec PyProof.Rows
section
variable {X:Cx} {tg:Expr}
def Yi (K:PySem.W.Frag) (tl:TE):TI:=fun σ H R=>tl σ H fun x H1=>∃a,x = .ref a/\(∃xs,bL K H1 a xs)/\R (Yy K a) H1
def acI (K:PySem.W.Frag) (tl:TE):TI:=fun σ H R=>tl σ H fun x H1=>∃a,x = .ref a/\(∃xs,cQ K H1 a xs)/\R (Itt K a) H1
theorem V6 {l:Expr} {tl:TE} (hl:PE X l tl):PI X tg l (Yi X.K tl):=by
 intro pins s σ H R I h;refine d9 (hl pins s σ H _ I h) fun v s1 ⟨x,H1,I1,r1,q1⟩=> ?_;obtain ⟨a,e,⟨xs,hq⟩,q⟩:=q1;subst e;cases r1;obtain ⟨its,rv,p,hz⟩:=I1.list hq;refine wpAny_pyIter_list p.isList ?_;refine ⟨s1.heap.objs.size,[s1.heap.objs.size],_,_,H1,rfl,I1.kept (t':=s1.toks) fun b o e=>Heap.get?_push_of_some _ e,NP a _,⟨_,Heap.get?_push_size _ rfl,rfl,rfl⟩,fun b hb=> ?_,q⟩;have e:b=s1.heap.objs.size:=by simpa using hb
 subst e;exact I1.Ca (Nat.le_refl _) (I1.hok.fresh (Nat.le_refl _))
theorem ZD {l:Expr} {tl:TE} (hl:PE X l tl):PI X tg l (acI X.K tl):=by
 intro pins s σ H R I h;refine d9 (hl pins s σ H _ I h) fun v s1 ⟨x,H1,I1,r1,q1⟩=> ?_;obtain ⟨a,e,⟨xs,hq⟩,q⟩:=q1;subst e;cases r1;obtain ⟨its,rv,p,hz⟩:=I1.tuple hq;refine wpAny_pyIter_tuple (show s1.heap.IsTuple a its.toArray from p) ?_;refine ⟨s1.heap.objs.size,[s1.heap.objs.size],_,_,H1,rfl,I1.kept (t':=s1.toks) fun b o e=>Heap.get?_push_of_some _ e,J0 a _,⟨_,Heap.get?_push_size _ rfl,rfl,rfl⟩,fun b hb=> ?_,q⟩;have e:b=s1.heap.objs.size:=by simpa using hb
 subst e;exact I1.Ca (Nat.le_refl _) (I1.hok.fresh (Nat.le_refl _))
theorem Ie {pins:List (Addr×Obj)} {σ:St} {H:Hp} {s:Shared} {R:It->Hp->Prop} {E:Value->Shared->Prop} {lo hi:Int} {t u v:Tok} {tk:Nat} (I:Inv X pins σ H s) (h1: -(2 ^ 62)<=lo) (h2:lo<2 ^ 62) (h3: -(2 ^ 62)<=hi) (h4:hi<2 ^ 62)
 (q:R (Vh lo (hi - lo).toNat) H):wpAny (model X.prog X.w) X.A (pyIter (.ref s.heap.objs.size)) (PIE X pins σ tg R) E {s with heap:=s.heap.push {cls:= .type "range",data:= .fields #[.int lo t,.int hi u,.int 1 v]},toks:=tk}:=by
 refine wpAny_pyIter_range (IsRange.new ..) (small_one h1 h2 h3 h4) ?_;have I1:Inv X pins σ H {s with heap:=s.heap.push {cls:= .type "range",data:= .fields #[.int lo t,.int hi u,.int 1 v]},toks:=tk}:=I.kept fun b o e=>Heap.get?_push_of_some _ e
 refine ⟨(s.heap.push {cls:= .type "range",data:= .fields #[.int lo t,.int hi u,.int 1 v]}).objs.size,[(s.heap.push {cls:= .type "range",data:= .fields #[.int lo t,.int hi u,.int 1 v]}).objs.size],_,_,H,rfl,
  I1.kept (t':=tk) fun b o e=>Heap.get?_push_of_some _ e,J1 _ lo (hi - lo).toNat, ?_,fun b hb=> ?_,q⟩
 ·have e1:lo+((0:Nat):Int)*1=lo:=by simp
  have e2:(((hi - lo).toNat:Nat):Int) - ((0:Nat):Int)=Builtin.Range.rangeSize lo hi 1:=by rw [rangeSize_one];split<;>omega
  show IsRangeIter _ _ (lo+((0:Nat):Int)*1) ((((hi - lo).toNat:Nat):Int) - ((0:Nat):Int)) 1;rw [e1,e2];exact Heap.get?_push_size _ rfl
 ·have e:b=(s.heap.push {cls:= .type "range",data:= .fields #[.int lo t,.int hi u,.int 1 v]}).objs.size:=by simpa using hb
  subst e;exact I1.Ca (Nat.le_refl _) (I1.hok.fresh (Nat.le_refl _))
def acK (ta:TA):TI:=fun σ H R=>ta σ H fun vs H1=>∃j:Int,vs=[.int j] /\ -(2 ^ 62)<=j/\j<2 ^ 62/\R (Vh 0 j.toNat) H1
def acJ (ta:TA):TI:=fun σ H R=>ta σ H fun vs H1=>∃i j:Int,vs=[.int i,.int j]/\(-(2 ^ 62)<=i/\i<2 ^ 62 /\ -(2 ^ 62)<=j/\j<2 ^ 62)/\R (Vh i (j - i).toNat) H1
theorem jt {a:Expr} {ta:TA} {p pos:Pos} (hg:Gl X "range") (hm:X.mg "range" = none) (ha:PA X [a] ta) (hs:starEach [a] X.env=[(false,eval a X.env)]:=by rfl):PI X tg (.Call (.Name "range" p) [a] [] pos) (acK ta):=by
 intro pins s σ H R I h;refine Call_ (vm I hg hm boot_range (PyProof.Rows.callWith_type1 (d9 (ha pos pins s σ H _ I h) fun us s1 ⟨vs,H1,I1,r1,q1⟩=> ?_) hs rfl));obtain ⟨j,e,q1,q2,q⟩:=q1;subst e;cases r1 with
 | cons r rr=>
   cases rr;obtain ⟨t,rfl⟩:=r;exact call_range_1 (Ie I1 (by omega) (by omega) q1 q2 (by simpa using q))
theorem Og {a b:Expr} {ta:TA} {p pos:Pos} (hg:Gl X "range") (hm:X.mg "range" = none) (ha:PA X [a,b] ta) (hs:starEach [a,b] X.env=[(false,eval a X.env),(false,eval b X.env)]:=by rfl) (hs2:starEach [b] X.env=[(false,eval b X.env)]:=by rfl):
 PI X tg (.Call (.Name "range" p) [a,b] [] pos) (acJ ta):=by
 intro pins s σ H R I h;refine Call_ (vm I hg hm boot_range (PyProof.Rows.callWith_type1 (d9 (ha pos pins s σ H _ I h) fun us s1 ⟨vs,H1,I1,r1,q1⟩=> ?_) (by rw [hs,hs2]) (by rw [hs2];rfl)));obtain ⟨i,j,e,⟨q1,q2,q3,q4⟩,q⟩:=q1;subst e;cases r1 with
 | cons r rr=>
   cases rr with
   | cons r' rr=>
     cases rr;obtain ⟨t,rfl⟩:=r;obtain ⟨t',rfl⟩:=r';exact call_range_2 (Ie I1 q1 q2 q3 q4 q)
def agm (wi:TI) (g:TG) (tb:TS):TS:=fun D σ H=>wi σ H fun J H1=>∃W:Nat->Nat->St->Hp->Prop,(∃m,W 0 m σ H1) /\ ∀i m σ H,W i m σ H ->
 (J.stop i H/\D.nx σ H)\/(J.go i H /\ ∃N:St->Hp->Prop,(∀σ' H',N σ' H' -> ∃m',m'<m/\W (i+1) m' σ' H') /\ ∀x H',J.yld i H x H'->g x σ H' fun σ2 H2=>tb {D with nx:=N,ct:=N,bk:=D.nx} σ2 H2)
def Bp (fp:List Addr) (h:Heap):List (Addr×Obj):=fp.filterMap fun b=>(h.get? b).map fun o=>(b,o)
theorem qH {fp:List Addr} {h:Heap} {b:Addr} {o:Obj} (hb:b∈fp) (e:h.get? b=some o):(b,o)∈Bp fp h:=List.mem_filterMap.mpr ⟨b,hb,by rw [e];rfl⟩
theorem Ox {fp:List Addr} {h:Heap} {p:Addr×Obj} (hp:p∈Bp fp h):p.1∈fp/\h.get? p.1=some p.2:=by
 obtain ⟨b,hb,e⟩:=List.mem_filterMap.mp hp;cases q:h.get? b with
 | none=>rw [q] at e;cases e
 | some o=>
   rw [q] at e;have e':(b,o)=p:=Option.some.inj e;subst e';exact ⟨hb,q⟩
theorem Inv.pinned {pins:List (Addr×Obj)} {σ:St} {H:Hp} {s:Shared} {fp:List Addr} (I:Inv X pins σ H s) (hf:∀b∈fp,sZ X pins H b) (ho:∀b∈fp,∃o,s.heap.get? b=some o /\ ∀v,o.data ≠ .cell v):Inv X (pins++Bp fp s.heap) σ H s:=
 I.Mp fun p hp=>(List.mem_append.mp hp).elim (fun z=>I.pin p (List.mem_append_right _ z)) fun z=>by
  obtain ⟨hb,e⟩:=Ox z;obtain ⟨f0,f1,f2,_⟩:=hf p.1 hb;obtain ⟨o,e',d⟩:=ho p.1 hb;rw [e] at e';cases e';exact ⟨e,f0,f1,f2,d⟩
theorem Inv.vK {pins pl:List (Addr×Obj)} {σ:St} {H:Hp} {s:Shared} (I:Inv X (pins++pl) σ H s):Inv X pins σ H s:=I.Mp fun p hp=>I.pin p (List.mem_append_right _ (List.mem_append_left _ hp))
theorem yx {iter:Expr} {body:List Stmt} {wi:TI} {g:TG} {tb:TS} {pos:Pos} (hp:PassesOwn (model X.prog X.w) X.A X.env X.xe) (hc:X.calm=true) (hi:PI X tg iter wi) (hg:PG X tg g) (hb:HJ X body tb)
 (hs:∀x,foldedSetIterable iter X.env x=pure x:=by intro _;rfl):PS X (.For tg iter body [] pos) (agm wi g tb):=by
 intro pins s σ H D I h;refine wpAny_For (d9 (hi pins s σ H _ I h) fun v s1 h1=>d9 h1 fun itv s2 h2=> ?_) hs;obtain ⟨it,fp,tn,J,H2,e,I2,T,st2,f2,W,⟨m0,w0⟩,turn⟩:=h2;subst e;have stat:∀{H':Hp},(∀b∈fp,H' b=none) -> ∀b∈fp,sZ X pins H' b:=fun hn b hb=>⟨hn b hb,(f2 b hb).2⟩;refine codeAny_forLoop_any (fun n s'=>∃i σ' H',Inv X pins σ' H' s'/\tn i s'.heap/\(∀b∈fp,H' b=none)/\W i n σ' H') ?_ m0 ⟨0,σ,H2,I2,st2,fun b hb=>(f2 b hb).1,w0⟩;rintro n s3 ⟨i,σ3,H3,I3,st3,fr3,w3⟩;rcases turn i n σ3 H3 w3 with ⟨stop,qn⟩|⟨go,N,hN,step⟩
 ·refine wpAny_passesOwn hp (d9 (T.done X rfl rfl rfl hc i pins s3 σ3 H3 X.xe I3 (stat fr3) st3 stop) fun r s4 ⟨hr,I4⟩=> ?_)
  subst hr;exact wpAny_execs_nil ⟨σ3,H3,I4,qn⟩
 ·refine wpAny_passesOwn hp (d9 (T.item X rfl rfl rfl hc i pins s3 σ3 H3 X.xe I3 (stat fr3) st3 go) fun r s4 ⟨u,hr,h4⟩=> ?_)
  subst hr;refine wpAny_passesOwn hp (d9 h4 fun _ s5 ⟨x,H5,I5,r5,y5,JR,fr5⟩=> ?_);have I5':=I5.pinned (stat fr5) (T.obj _ _ JR);refine wpAny_passesOwn hp (d9 (hg _ s5 σ3 H5 x u _ I5' r5 (step x H5 y5)) fun _ s6 ⟨σ6,H6,I6,q6⟩=> ?_);refine wpAny_passesOwn hp (d9 (hb _ s6 σ6 H6 _ I6 q6) fun f s7 q7=> ?_)
  have again:∀{σ7:St} {H7:Hp},Inv X (pins++Bp fp s5.heap) σ7 H7 s7->N σ7 H7 -> ∃m,m<n /\ ∃i σ' H',Inv X pins σ' H' s7/\tn i s7.heap/\(∀b∈fp,H' b=none)/\W i m σ' H':=fun {σ7 H7} I7 n7=>by
   obtain ⟨m',hm,w7⟩:=hN σ7 H7 n7;refine ⟨m',hm,i+1,σ7,H7,I7.vK,T.keep _ _ _ JR fun b hb o e=>(I7.pin (b,o) (List.mem_append_right _ (List.mem_append_right _ (qH hb e)))).1,fun b hb=> ?_,w7⟩;obtain ⟨o,e,d⟩:=T.obj _ _ JR b hb;exact (I7.pin (b,o) (List.mem_append_right _ (List.mem_append_right _ (qH hb e)))).2.1
  cases f with
  | next=>obtain ⟨σ7,H7,I7,n7⟩:=q7;exact again I7 n7
  | cont=>obtain ⟨σ7,H7,I7,n7⟩:=q7;exact again I7 n7
  | brk=>obtain ⟨σ7,H7,I7,q7⟩:=q7;exact ⟨σ7,H7,I7.vK,q7⟩
  | ret v=>obtain ⟨x7,σ7,H7,I7,r7,q7⟩:=q7;exact ⟨x7,σ7,H7,I7.vK,r7,q7⟩
end
theorem wO {K:PySem.W.Frag} {a:Addr} {xs:List V} {g:TG} {tb:TS} {D:Ends} {σ:St} {H:Hp} (Pv:Nat->St->Hp->Prop) (h0:Pv 0 σ H) (hl:∀i σ H,i<=xs.length->Pv i σ H->bL K H a xs)
 (hs:∀i x σ H,xs[i]? = some x->Pv i σ H->g x σ H fun σ2 H2=>tb {D with nx:=Pv (i+1),ct:=Pv (i+1),bk:=D.nx} σ2 H2) (hd:∀σ H,Pv xs.length σ H->D.nx σ H):
 ∃W:Nat->Nat->St->Hp->Prop,(∃m,W 0 m σ H) /\ ∀i m σ H,W i m σ H ->
  ((Yy K a).stop i H/\D.nx σ H)\/((Yy K a).go i H /\ ∃N:St->Hp->Prop,(∀σ' H',N σ' H' -> ∃m',m'<m/\W (i+1) m' σ' H') /\ ∀x H',(Yy K a).yld i H x H'->g x σ H' fun σ2 H2=>tb {D with nx:=N,ct:=N,bk:=D.nx} σ2 H2):=by
 refine ⟨fun i m σ H=>m=xs.length - i/\i<=xs.length/\Pv i σ H,⟨xs.length,by simp,Nat.zero_le _,h0⟩, ?_⟩;rintro i m σ H ⟨rfl,hi,p⟩;have q:=hl i σ H hi p
 by_cases hlt:i<xs.length
 ·refine .inr ⟨⟨xs,xs[i],q,by simp [hlt]⟩,Pv (i+1),fun σ' H' p'=>⟨xs.length - (i+1),by omega,rfl,hlt,p'⟩,fun x H' y=> ?_⟩
  obtain ⟨e,y⟩:=y;subst e;exact hs i x σ _ (y xs q) p
 ·have e:i=xs.length:=by omega
  subst e;exact .inl ⟨⟨xs,q,Nat.le_refl _⟩,hd σ H p⟩
theorem Px {lo:Int} {n:Nat} {g:TG} {tb:TS} {D:Ends} {σ:St} {H:Hp} (Pv:Nat->St->Hp->Prop) (h0:Pv 0 σ H)
 (hs:∀i σ H,i<n->Pv i σ H->g (.int (lo+i)) σ H fun σ2 H2=>tb {D with nx:=Pv (i+1),ct:=Pv (i+1),bk:=D.nx} σ2 H2) (hd:∀σ H,Pv n σ H->D.nx σ H):
 ∃W:Nat->Nat->St->Hp->Prop,(∃m,W 0 m σ H) /\ ∀i m σ H,W i m σ H ->
  ((Vh lo n).stop i H/\D.nx σ H)\/((Vh lo n).go i H /\ ∃N:St->Hp->Prop,(∀σ' H',N σ' H' -> ∃m',m'<m/\W (i+1) m' σ' H') /\ ∀x H',(Vh lo n).yld i H x H'->g x σ H' fun σ2 H2=>tb {D with nx:=N,ct:=N,bk:=D.nx} σ2 H2):=by
 refine ⟨fun i m σ H=>m=n - i/\i<=n/\Pv i σ H,⟨n,by simp,Nat.zero_le _,h0⟩, ?_⟩;rintro i m σ H ⟨rfl,hi,p⟩
 by_cases hlt:i<n
 ·refine .inr ⟨hlt,Pv (i+1),fun σ' H' p'=>⟨n - (i+1),by omega,rfl,hlt,p'⟩,fun x H' y=> ?_⟩
  obtain ⟨e,y⟩:=y;subst e y;exact hs i σ _ hlt p
 ·have e:i=n:=by omega
  subst e;exact .inl ⟨Nat.le_refl _,hd σ H p⟩
end L2
namespace L2
open PySem PySem.Spec PyProof.Rows
abbrev R2:=V->V->Hp->VK->Prop
def rB (X:Cx) (f:Value->Value->Sem Value) (r:R2):Prop:=
 ∀(pins:List (Addr×Obj)) (s:Shared) (σ:St) (H:Hp) (x y:V) (v u:Value) (Q:VK),Inv X pins σ H s->RelV x v->RelV y u->r x y H Q ->
  wpAny (model X.prog X.w) X.A (f v u) (EP X pins σ Q) X.xe s
def UnR (X:Cx) (f:Value->Sem Value) (r:V->Hp->VK->Prop):Prop:=
 ∀(pins:List (Addr×Obj)) (s:Shared) (σ:St) (H:Hp) (x:V) (v:Value) (Q:VK),Inv X pins σ H s->RelV x v->r x H Q ->
  wpAny (model X.prog X.w) X.A (f v) (EP X pins σ Q) X.xe s
def jZ (X:Cx) (f:Value) (r:List V->Hp->VK->Prop):Prop:=
 ∀(pins:List (Addr×Obj)) (s:Shared) (σ:St) (H:Hp) (xs:List V) (us:List Value) (Q:VK),Inv X pins σ H s->Vals xs us->r xs H Q ->
  wpAny (model X.prog X.w) X.A (call f us) (EP X pins σ Q) X.xe s
def anI (X:Cx) (r:V->Hp->(Bool->Hp->Prop)->Prop):Prop:=
 ∀(pins:List (Addr×Obj)) (s:Shared) (σ:St) (H:Hp) (x:V) (v:Value) (Q:Bool->Hp->Prop),Inv X pins σ H s->RelV x v->r x H Q ->
  wpAny (model X.prog X.w) X.A (truthy v) (TP X pins σ Q) X.xe s
def tOp (r:R2) (ta tb:TE):TE:=fun σ H Q=>ta σ H fun x H1=>tb σ H1 fun y H2=>r x y H2 Q
def tUn (r:V->Hp->VK->Prop) (ta:TE):TE:=fun σ H Q=>ta σ H fun x H1=>r x H1 Q
def rI (C:Int->Int->Prop) (g:Int->Int->V):R2:=fun x y H Q=>∃i j,x = .int i/\y = .int j/\C i j/\Q (g i j) H
def X7 (g:Int->Int->V):R2:=fun x y H Q=>∃i j,x = .int i/\y = .int j/\Q (g i j) H
def rU (g:Int->V):V->Hp->VK->Prop:=fun x H Q=>∃i,x = .int i/\Q (g i) H
section
variable {X:Cx} {a b c:Expr} {ta tb tc:TE} {pos:Pos}
theorem aaO (ha:PE X a ta) (hb:PE X b tb) {pins:List (Addr×Obj)} {s:Shared} {σ:St} {H:Hp} {R:V->V->Hp->Prop} (I:Inv X pins σ H s)
 (h:ta σ H fun x H1=>tb σ H1 fun y H2=>R x y H2) {Q:Value->Shared->Prop} {f:Value->Value->Sem Value}
 (hf:∀v u s2 x y H2,Inv X pins σ H2 s2->RelV x v->RelV y u->R x y H2->wpAny (model X.prog X.w) X.A (f v u) Q X.xe s2):
 wpAny (model X.prog X.w) X.A (eval a X.env) (fun v s₁=>wpAny (model X.prog X.w) X.A (eval b X.env) (fun u s₂=>wpAny (model X.prog X.w) X.A (f v u) Q X.xe s₂) X.xe s₁) X.xe s:=by
 refine d9 (ha pins s σ H _ I h) fun v s1 ⟨x,H1,I1,r1,q1⟩=> ?_;refine d9 (hb pins s1 σ H1 _ I1 q1) fun u s2 ⟨y,H2,I2,r2,q2⟩=> ?_;exact hf v u s2 x y H2 I2 r1 r2 q2
theorem bR {op:Operator} {r:R2} (ho:rB X (binaryOp op) r) (ha:PE X a ta) (hb:PE X b tb):PE X (.BinOp a op b pos) (tOp r ta tb):=by
 intro pins s σ H Q I h;exact wpAny_BinOp (aaO ha hb I h fun v u s2 x y H2 I2 rx ry q=>ho pins s2 σ H2 x y v u Q I2 rx ry q)
theorem RB {op:UnaryOp} {r:V->Hp->VK->Prop} (ho:UnR X (unaryOp op) r) (ha:PE X a ta):PE X (.UnaryOp op a pos) (tUn r ta):=by
 intro pins s σ H Q I h;exact UnaryOp_ (d9 (ha pins s σ H _ I h) fun v s1 ⟨x,H1,I1,r1,q1⟩=>ho pins s1 σ H1 x v Q I1 r1 q1)
theorem opI {f:Value->Value->Sem Value} {C:Int->Int->Prop} {g:Int->Int->Int}
 (rule:∀(i j:Int) (t u:Tok) (s:Shared) (Q:Value->Shared->Prop) (E:Value->Shared->Prop),C i j->Q (.int (g i j) s.toks) {s with toks:=s.toks+1}->wpAny (model X.prog X.w) X.A (f (.int i t) (.int j u)) Q E s):
 rB X f (rI C fun i j=> .int (g i j)):=by
 intro pins s σ H x y v u Q I rx ry h;obtain ⟨i,j,rfl,rfl,hc,q⟩:=h;obtain ⟨t,rfl⟩:=rx;obtain ⟨t',rfl⟩:=ry;exact rule i j t t' s _ _ hc ⟨.int (g i j),H,I.tok _,⟨_,rfl⟩,q⟩
theorem aci {f:Value->Value->Sem Value} {g:Int->Int->Int}
 (rule:∀(i j:Int) (t u:Tok) (s:Shared) (Q:Value->Shared->Prop) (E:Value->Shared->Prop),Q (.int (g i j) s.toks) {s with toks:=s.toks+1}->wpAny (model X.prog X.w) X.A (f (.int i t) (.int j u)) Q E s):
 rB X f (X7 fun i j=> .int (g i j)):=by
 intro pins s σ H x y v u Q I rx ry h;obtain ⟨i,j,rfl,rfl,q⟩:=h;obtain ⟨t,rfl⟩:=rx;obtain ⟨t',rfl⟩:=ry;exact rule i j t t' s _ _ ⟨.int (g i j),H,I.tok _,⟨_,rfl⟩,q⟩
theorem Wc {f:Value->Value->Sem Value} {g:Int->Int->Bool}
 (rule:∀(i j:Int) (t u:Tok) (s:Shared) (Q:Value->Shared->Prop) (E:Value->Shared->Prop),Q (.bool (g i j)) s->wpAny (model X.prog X.w) X.A (f (.int i t) (.int j u)) Q E s):
 rB X f (X7 fun i j=> .bl (g i j)):=by
 intro pins s σ H x y v u Q I rx ry h;obtain ⟨i,j,rfl,rfl,q⟩:=h;obtain ⟨t,rfl⟩:=rx;obtain ⟨t',rfl⟩:=ry;exact rule i j t t' s _ _ ⟨.bl (g i j),H,I,rfl,q⟩
def Hw (i j:Int):Prop:=0<=j/\j<=1000000/\i.natAbs<2 ^ 64
def aaZ (i j:Int):Prop:=(-(2 ^ 64)<i/\i<2 ^ 64)\/(-(2 ^ 64)<j/\j<2 ^ 64)
theorem aaZ.ok {i j:Int} (h:aaZ i j):IntMulOk i j:=by
 rcases h with ⟨h1,h2⟩|⟨h1,h2⟩
 ·exact .of_left (intBits_le_64 h1 h2)
 ·exact .of_right (intBits_le_64 h1 h2)
theorem kZ:rB X (binaryOp .Add) (X7 fun i j=> .int (i+j)):=aci fun _ _ _ _ _ _ _ q=>add_int q
theorem vg:rB X (binaryOp .Sub) (X7 fun i j=> .int (i - j)):=aci fun _ _ _ _ _ _ _ q=>sub_int q
theorem Bu:rB X (binaryOp .Mult) (rI aaZ fun i j=> .int (i*j)):=opI fun _ _ _ _ _ _ _ hc q=>mul_int q hc.ok
theorem mH:rB X (binaryOp .Mod) (rI (fun _ j=>0<j) fun i j=> .int (i % j)):=opI fun i j _ _ _ _ _ hc q=>by
 have h1:(0:Int)<j:=hc;exact mod_int' (by omega) (by rw [Int.fmod_eq_emod_of_nonneg i (by omega)];exact q)
theorem qF:rB X (binaryOp .Pow) (rI Hw fun i j=> .int (i ^ j.toNat)):=opI fun _ _ _ _ _ _ _ hc q=>pow_int_small hc.1 hc.2.1 hc.2.2 q
theorem unI {f:Value->Sem Value} {g:Int->Int}
 (rule:∀(i:Int) (t:Tok) (s:Shared) (Q:Value->Shared->Prop) (E:Value->Shared->Prop),Q (.int (g i) s.toks) {s with toks:=s.toks+1}->wpAny (model X.prog X.w) X.A (f (.int i t)) Q E s):
 UnR X f (rU fun i=> .int (g i)):=by
 intro pins s σ H x v Q I rx h;obtain ⟨i,rfl,q⟩:=h;obtain ⟨t,rfl⟩:=rx;exact rule i t s _ _ ⟨.int (g i),H,I.tok _,⟨_,rfl⟩,q⟩
theorem JZ:UnR X (unaryOp .USub) (rU fun i=> .int (-i)):=unI fun _ _ _ _ _ q=>neg_int q
end
def abY:V->V->Bool
 | .non,.non=>true | .non,.int _=>true | .int _,.non=>true | .non,.bl _=>true | .bl _,.non=>true | .non,.str _=>true | .str _,.non=>true
 | .int _,.int _=>true | .bl _,.bl _=>true | .str _,.str _=>true | .Lf _,.Lf _=>true
 | .int _,.str _=>true | .str _,.int _=>true | .bl _,.str _=>true | .str _,.bl _=>true
 | _,_=>false
def rEq:R2:=fun x y H Q=>abY x y=true/\Q (.bl (decide (x=y))) H
def rNe:R2:=fun x y H Q=>abY x y=true/\Q (.bl (!decide (x=y))) H
theorem M9 {i j:Int}:decide (V.int i=V.int j)=(i==j):=by
 rw [Bool.eq_iff_iff];simp
theorem Ub {i j:Bool}:decide (V.bl i=V.bl j)=(i==j):=by
 rw [Bool.eq_iff_iff];simp
theorem M8 {i j:Str}:decide (V.str i=V.str j)=(i==j):=by
 rw [Bool.eq_iff_iff];simp
theorem M_ {i j:Array UInt8}:decide (V.Lf i=V.Lf j)=(i.toList==j.toList):=by
 rw [Bool.eq_iff_iff];cases i;cases j;simp
section
variable {X:Cx} {a b c:Expr} {ta tb tc:TE} {pos:Pos}
theorem cM {pins:List (Addr×Obj)} {σ:St} {H:Hp} {s:Shared} {Q:VK} {k k':Bool} (I:Inv X pins σ H s) (q:Q (.bl k) H) (e:k=k'):EP X pins σ Q (.bool k') s:=by
 subst e;exact ⟨.bl k,H,I,rfl,q⟩
theorem gj:rB X (compareOp .Eq) rEq:=by
 intro pins s σ H x y v u Q I rx ry h;obtain ⟨hs,q⟩:=h;cases x with
 | non=>
   cases rx;cases y with
   | non=>cases ry;exact PySem.EqNone.eq_none_none (cM I q (by simp))
   | bl j=>cases ry;exact PySem.EqNone.eq_none_bool (cM I q (by simp))
   | int j=>obtain ⟨t',rfl⟩:=ry;exact PySem.EqNone.eq_none_int (cM I q (by simp))
   | str j=>obtain ⟨t',rfl⟩:=ry;exact PySem.EqNone.eq_none_str (cM I q (by simp))
   | _=>exact absurd (show false=true from hs) Bool.false_ne_true
 | bl i=>
   cases rx;cases y with
   | non=>cases ry;exact PySem.EqNone.eq_bool_none (cM I q (by simp))
   | bl j=>cases ry;exact eq_bool (cM I q Ub)
   | str j=>obtain ⟨t',rfl⟩:=ry;exact PySem.EqMixed.eq_bool_str (cM I q (by simp))
   | _=>exact absurd (show false=true from hs) Bool.false_ne_true
 | int i=>
   obtain ⟨t,rfl⟩:=rx;cases y with
   | non=>cases ry;exact PySem.EqNone.eq_int_none (cM I q (by simp))
   | int j=>obtain ⟨t',rfl⟩:=ry;exact eq_int (cM I q M9)
   | str j=>obtain ⟨t',rfl⟩:=ry;exact PySem.EqMixed.eq_int_str (cM I q (by simp))
   | _=>exact absurd (show false=true from hs) Bool.false_ne_true
 | str i=>
   obtain ⟨t,rfl⟩:=rx;cases y with
   | non=>cases ry;exact PySem.EqNone.eq_str_none (cM I q (by simp))
   | bl j=>cases ry;exact PySem.EqMixed.eq_str_bool (cM I q (by simp))
   | int j=>obtain ⟨t',rfl⟩:=ry;exact PySem.EqMixed.eq_str_int (cM I q (by simp))
   | str j=>obtain ⟨t',rfl⟩:=ry;exact eq_str (cM I q M8)
   | _=>exact absurd (show false=true from hs) Bool.false_ne_true
 | Lf i=>
   obtain ⟨t,rfl⟩:=rx;cases y with
   | Lf j=>obtain ⟨t',rfl⟩:=ry;exact PySem.W.eq_bytes (cM I q M_)
   | _=>exact absurd (show false=true from hs) Bool.false_ne_true
 | _=>cases y<;>exact absurd (show false=true from hs) Bool.false_ne_true
theorem pJ:rB X (compareOp .NotEq) rNe:=by
 intro pins s σ H x y v u Q I rx ry h;obtain ⟨hs,q⟩:=h;cases x with
 | non=>
   cases rx;cases y with
   | non=>cases ry;exact PySem.EqNone.ne_none_none (cM I q (by simp))
   | bl j=>cases ry;exact PySem.EqNone.ne_none_bool (cM I q (by simp))
   | int j=>obtain ⟨t',rfl⟩:=ry;exact PySem.EqNone.ne_none_int (cM I q (by simp))
   | str j=>obtain ⟨t',rfl⟩:=ry;exact PySem.EqNone.ne_none_str (cM I q (by simp))
   | _=>exact absurd (show false=true from hs) Bool.false_ne_true
 | bl i=>
   cases rx;cases y with
   | non=>cases ry;exact PySem.EqNone.ne_bool_none (cM I q (by simp))
   | bl j=>cases ry;exact ne_bool (cM I q (congrArg not Ub))
   | str j=>obtain ⟨t',rfl⟩:=ry;exact PySem.EqMixed.ne_bool_str (cM I q (by simp))
   | _=>exact absurd (show false=true from hs) Bool.false_ne_true
 | int i=>
   obtain ⟨t,rfl⟩:=rx;cases y with
   | non=>cases ry;exact PySem.EqNone.ne_int_none (cM I q (by simp))
   | int j=>obtain ⟨t',rfl⟩:=ry;exact ne_int (cM I q (congrArg not M9))
   | str j=>obtain ⟨t',rfl⟩:=ry;exact PySem.EqMixed.ne_int_str (cM I q (by simp))
   | _=>exact absurd (show false=true from hs) Bool.false_ne_true
 | str i=>
   obtain ⟨t,rfl⟩:=rx;cases y with
   | non=>cases ry;exact PySem.EqNone.ne_str_none (cM I q (by simp))
   | bl j=>cases ry;exact PySem.EqMixed.ne_str_bool (cM I q (by simp))
   | int j=>obtain ⟨t',rfl⟩:=ry;exact PySem.EqMixed.ne_str_int (cM I q (by simp))
   | str j=>obtain ⟨t',rfl⟩:=ry;exact ne_str (cM I q (congrArg not M8))
   | _=>exact absurd (show false=true from hs) Bool.false_ne_true
 | Lf i=>
   obtain ⟨t,rfl⟩:=rx;cases y with
   | Lf j=>obtain ⟨t',rfl⟩:=ry;exact PySem.W.ne_bytes (cM I q (congrArg not M_))
   | _=>exact absurd (show false=true from hs) Bool.false_ne_true
 | _=>cases y<;>exact absurd (show false=true from hs) Bool.false_ne_true
theorem yW:rB X (compareOp .Lt) (X7 fun i j=> .bl (decide (i<j))):=Wc fun _ _ _ _ _ _ _ q=>lt_int q
theorem RX:rB X (compareOp .LtE) (X7 fun i j=> .bl (decide (i<=j))):=Wc fun _ _ _ _ _ _ _ q=>le_int q
theorem ach:rB X (compareOp .Gt) (X7 fun i j=> .bl (decide (j<i))):=Wc fun _ _ _ _ _ _ _ q=>gt_int q
theorem X_:rB X (compareOp .GtE) (X7 fun i j=> .bl (decide (j<=i))):=Wc fun _ _ _ _ _ _ _ q=>ge_int q
theorem Bv:rB X (compareOp .Is) (fun x y H Q=>y = .non/\Q (.bl (decide (x = .non))) H):=by
 intro pins s σ H x y v u Q I rx ry h;obtain ⟨rfl,q⟩:=h;cases ry;refine is_none_gen (cM I q ?_)
 cases x<;>first
  | (cases rx;rfl)
  | (obtain ⟨t,rfl⟩:=rx;rfl)
theorem Gg:rB X (compareOp .IsNot) (fun x y H Q=>y = .non/\Q (.bl (!decide (x = .non))) H):=by
 intro pins s σ H x y v u Q I rx ry h;obtain ⟨rfl,q⟩:=h;cases ry;refine isnot_none_gen (cM I q ?_)
 cases x<;>first
  | (cases rx;rfl)
  | (obtain ⟨t,rfl⟩:=rx;rfl)
def isObj:HO->Bool
 | .lst _=>true
 | .ins _ _ _=>true
 | _=>false
theorem bA (b:Expr) {op:CmpOp} (h:op ≠ .In:=by decide) (h2:op ≠ .NotIn:=by decide):behindInMarks op b=false:=by
 have e1:(op==CmpOp.In)=false:=by cases op<;>first |rfl|exact absurd rfl h
 have e2:(op==CmpOp.NotIn)=false:=by cases op<;>first |rfl|exact absurd rfl h2
 cases b<;>simp [behindInMarks,e1,e2]
theorem dU {op:CmpOp} {r:R2} (ho:rB X (compareOp op) r) (ha:PE X a ta) (hb:PE X b tb) (hm:behindInMarks op b=false):PE X (.Compare a [op] [b] pos) (tOp r ta tb):=by
 intro pins s σ H Q I h;exact wpAny_Compare1 (aaO ha hb I h fun v u s2 x y H2 I2 rx ry q=>ho pins s2 σ H2 x y v u Q I2 rx ry q) hm
def abL (t:TE):TT:=fun σ H Q=>t σ H fun x H'=>∃k,x = .bl k/\Q k H'
theorem bG {op:CmpOp} {r:R2} (ho:rB X (compareOp op) r) (ha:PE X a ta) (hb:PE X b tb) (hm:behindInMarks op b=false):PT X (.Compare a [op] [b] pos) (abL (tOp r ta tb)):=by
 intro pins s σ H Q I h
 refine wpAny_isTrue_Compare1 (d9 (ha pins s σ H _ I h) fun v s1 ⟨x,H1,I1,r1,q1⟩=>d9 (hb pins s1 σ H1 _ I1 q1) fun u s2 ⟨y,H2,I2,r2,q2⟩=>
  d9 (ho pins s2 σ H2 x y v u _ I2 r1 r2 q2) fun c s3 ⟨z,H3,I3,r3,k,e,q3⟩=> ?_) hm
 subst e;cases r3;exact wpAny_truthy_bool ⟨H3,I3,q3⟩
def Zb (r r':R2) (ta tb tc:TE):TE:=fun σ H Q=>ta σ H fun x H1=>tb σ H1 fun y H2=>r x y H2 fun z H3=>∃k,z = .bl k /\
 (if k=true then tc σ H3 fun w' H4=>r' y w' H4 Q else Q (.bl false) H3)
theorem RQ {op op':CmpOp} {r r':R2} (ho:rB X (compareOp op) r) (ho':rB X (compareOp op') r') (ha:PE X a ta) (hb:PE X b tb) (hc:PE X c tc)
 (hm:lastMarks [op,op'] [b,c]=false:=by with_unfolding_all rfl):PE X (.Compare a [op,op'] [b,c] pos) (Zb r r' ta tb tc):=by
 intro pins s σ H Q I h
 refine Compare_chain (d9 (ha pins s σ H _ I h) fun v s1 ⟨x,H1,I1,r1,q1⟩=>chain_link (d9 (hb pins s1 σ H1 _ I1 q1) fun u s2 ⟨y,H2,I2,r2,q2⟩=>
  d9 (ho pins s2 σ H2 x y v u _ I2 r1 r2 q2) fun d s3 ⟨z,H3,I3,r3,k,e,q3⟩=> ?_)) hm
 subst e;cases r3;refine wpAny_truthy_bool ?_;cases k with
 | false=>exact ite_ff ⟨.bl false,H3,I3,rfl,q3⟩
 | true=>exact ite_tt (chain_last (d9 (hc pins s3 σ H3 _ I3 q3) fun w' s4 ⟨z',H4,I4,r4,q4⟩=>ho' pins s4 σ H4 y z' u w' Q I4 r2 r4 q4))
def aaR (K:PySem.W.Frag) (x:V) (H:Hp) (k:Bool):Prop:=
 match x with
 | .non=>k=false
 | .bl b=>k=b
 | .int i=>k=(i != 0)
 | .str y=>y.length<=sizeLine/\k=((y.length:Int) != 0)
 | .Lf y=>y.size<=sizeLine/\k=((y.size:Int) != 0)
 | .ref p=>(∃xs,bL K H p xs/\k = !xs.isEmpty)\/(∃xs,cQ K H p xs/\k = !xs.isEmpty) \/ ∃kvs,H p=some (.dK kvs)/\k = !kvs.isEmpty
 | _=>False
theorem K8 {κ:Type} {kvs:List (κ×V)} {vs:List (κ×Value)} (r:KV kvs vs):(!vs.isEmpty) = !kvs.isEmpty:=by
 cases r<;>rfl
theorem BP {xs:List V} {its:List Value} (r:Vals xs its):(!its.toArray.isEmpty) = !xs.isEmpty:=by
 cases r<;>simp
theorem yF:(sizeLine:Nat)<2 ^ 63:=by rw [sizeLine_eq];decide
theorem YQ:anI X (fun x H Q=>∃k,aaR X.K x H k/\Q k H):=by
 intro pins s σ H x v Q I rx h;obtain ⟨k,e,q⟩:=h;have hl:=yF;have hs:sizeLine=16777216:=sizeLine_eq;cases x with
 | non=>
   cases rx;have e':k=false:=e;subst e';exact truthy_none ⟨H,I,q⟩
 | bl b=>
   cases rx;have e':k=b:=e;subst e';exact wpAny_truthy_bool ⟨H,I,q⟩
 | int i=>
   obtain ⟨t,rfl⟩:=rx;have e':k=(i != 0):=e;subst e';exact PySem.P.truthy_int ⟨H,I,q⟩
 | str y=>
   obtain ⟨t,rfl⟩:=rx;obtain ⟨hy,e'⟩:y.length<=sizeLine/\k=((y.length:Int) != 0):=e;subst e';exact PySem.P.truthy_str (by omega) ⟨H,I.tok _,q⟩
 | Lf y=>
   obtain ⟨t,rfl⟩:=rx;obtain ⟨hy,e'⟩:y.size<=sizeLine/\k=((y.size:Int) != 0):=e;subst e';exact PySem.W.truthy_bytes (by omega) ⟨H,I.tok _,q⟩
 | ref p=>
   cases rx;have e':(∃xs,bL X.K H p xs/\k = !xs.isEmpty)\/(∃xs,cQ X.K H p xs/\k = !xs.isEmpty) \/ ∃kvs,H p=some (.dK kvs)/\k = !kvs.isEmpty:=e;rcases e' with ⟨xs,hx,e'⟩|⟨xs,hx,e'⟩|⟨kvs,hx,e'⟩
   ·subst e'
    obtain ⟨its,r,pl,hz⟩:=I.list hx;have hlen:=r.length;exact wpAny_truthy_list pl.isList (by simp only [List.size_toArray];omega) ⟨H,I.tok _,by rw [BP r];exact q⟩
   ·subst e'
    obtain ⟨its,r,pl,hz⟩:=I.tuple hx;have hlen:=r.length;exact truthy_tuple pl (by simp only [List.size_toArray];omega) ⟨H,I.tok _,by rw [BP r];exact q⟩
   ·subst e'
    obtain ⟨hz,hS,vs,r,m⟩:kvs.length<=sizeLine/\(p==sysModules)=false /\ ∃vs,KV kvs vs/\s.heap.DictOf (gD X.prog X.w) p vs:=I.hok p _ hx;have hlen:kvs.length=vs.length:=Paired.length r;exact wpAny_truthy_dict hS m (by omega) ⟨H,I.tok _,by rw [K8 r];exact q⟩
 | _=>exact (show False from e).elim
theorem Rt (ha:PE X a ta) (he:∀whole,isTrue a X.env whole=(do let v ←whole;standAt a.pos;holding [v] (truthy v))):
 PT X a (fun σ H Q=>ta σ H fun x H'=>∃k,aaR X.K x H' k/\Q k H'):=by
 intro pins s σ H Q I h;exact isTrue_plain (d9 (ha pins s σ H _ I h) fun v s1 ⟨x,H1,I1,r1,q1⟩=>YQ pins s1 σ H1 x v Q I1 r1 q1) (he _)
theorem vals1 {x:V} {us:List Value} (r:Vals [x] us):∃u,us=[u]/\RelV x u:=by
 cases r with
 | cons r1 r2=>cases r2;exact ⟨_,rfl,r1⟩
theorem vals2 {x y:V} {us:List Value} (r:Vals [x,y] us):∃u w',us=[u,w']/\RelV x u/\RelV y w':=by
 cases r with
 | cons r1 r2=>
   cases r2 with
   | cons r3 r4=>cases r4;exact ⟨_,_,rfl,r1,r3⟩
theorem Qa (hc:X.calm=true):jZ X (.builtin "min") (fun xs H Q=>∃i j,xs=[.int i,.int j]/\Q (.int (if j<i then j else i)) H):=by
 intro pins s σ H xs us Q I r h;obtain ⟨i,j,rfl,q⟩:=h;obtain ⟨u,w',rfl,⟨t,rfl⟩,⟨t',rfl⟩⟩:=vals2 r;refine min_two_ints (I.ok.hd hc) fun h' tk k=>⟨_,H,I.kept k, ?_,q⟩
 by_cases hj:j<i
 ·rw [if_pos hj,if_pos hj];exact ⟨_,rfl⟩
 ·rw [if_neg hj,if_neg hj];exact ⟨_,rfl⟩
theorem pN:jZ X (.type "int") (fun xs H Q=>(∃i,xs=[.int i]/\Q (.int i) H) \/ ∃k,xs=[.bl k]/\Q (.int (if k then 1 else 0)) H):=by
 intro pins s σ H xs us Q I r h;rcases h with ⟨i,rfl,q⟩|⟨k,rfl,q⟩
 ·obtain ⟨u,rfl,t,rfl⟩:=vals1 r
  exact call_int_int ⟨.int i,H,I,⟨_,rfl⟩,q⟩
 ·obtain ⟨u,rfl,r1⟩:=vals1 r
  cases r1;exact call_int_bool ⟨.int (if k then 1 else 0),H,I.tok _,⟨_,rfl⟩,q⟩
end
end L2
namespace L2
open PySem PySem.Spec PyProof.Rows
structure Lq (h:Heap) (x dx C:Addr) (mA:Str->Option Value):Prop where
 obj:h.get? x=some (PySem.W.instObj C dx)
 ns:h.Ns1 dx mA
 ne:dx≠x
theorem O8 {h:Heap} {dx:Addr} {mA:Str->Option Value} (n:h.Ns1 dx mA):∃od,h.get? dx=some od /\ ∀name,PySem.W.lookIn name od=some (mA name):=by
 obtain ⟨o,es,ep,ho,hd,hk,_,hm⟩:=n;refine ⟨o,ho,fun name=> ?_⟩;have e:=hm name;unfold nsFind findBy at e;rw [←Array.find?_toList] at e;unfold PySem.W.lookIn;rw [hd];dsimp only;split
 ·rename_i y q
  rw [q] at e;exact congrArg some e
 ·rename_i q
  rw [q] at e
  have a:es.toList.any (·.refKey)=false:=by
   rw [List.any_eq_false];intro y hy;obtain ⟨z,t,hkey⟩:=hk y (Array.mem_toList_iff.mp hy);simp [DictEntry.refKey,hkey]
  have a':¬es.toList.any (·.refKey)=true:=by rw [a];exact Bool.false_ne_true
  rw [if_neg a'];exact congrArg some e
theorem Lq.look {h:Heap} {x dx C:Addr} {mA:Str->Option Value} (I:Lq h x dx C mA):∃od,PySem.W.InstAt h x (PySem.W.instObj C dx) C (some od) /\ ∀name,PySem.W.lookIn name od=some (mA name):=
 let ⟨od,ho,hl⟩:=O8 I.ns
 ⟨od,⟨I.obj,rfl,rfl,ho⟩,hl⟩
section
variable {prog:Program} {w:World} {A:Around} {E:Value->Shared->Prop} {s:Shared} {K:PySem.W.Frag} {x dx C f:Addr} {mA:Str->Option Value} {name:Str} {v:Value}
theorem get_map {expr:Bool} {Q:Value->Shared->Prop} (X:K.In s.heap) (I:Lq s.heap x dx C mA) (hg:PySem.W.plainGet K C name=true) (hh:PySem.W.hasDictIn K C=true)
 (ha:PySem.W.findIn K (.ref C) name=some none) (hv:mA name=some v) (hv':PySem.W.handedIn v=true) (h:Q v {s with toks:=s.toks+1}):
 wpAny (model prog w) A (getAttr (.ref x) name expr) Q E s:=by
 obtain ⟨od,J,hl⟩:=I.look;exact PySem.W.get_value X J (PySem.W.plainGet_of hg).1 (PySem.W.findObj_own hh ha rfl (by rw [hl,hv])) hv' h
theorem Tt {pl:Sem Bool} {Q:Value×List Value->Shared->Prop} (X:K.In s.heap) (I:Lq s.heap x dx C mA) (hg:PySem.W.plainGet K C name=true)
 (hf:PySem.W.findIn K (.ref C) name=some (some (.ref f))) (ht:PySem.W.isFn K (.ref f)=true) (hv:mA name=none) (h:Q (.ref f,[.ref x]) s):
 wpAny (model prog w) A (getMethod (.ref x) name pl) Q E s:=by
 obtain ⟨od,J,hl⟩:=I.look;exact PySem.W.method_fn X J (PySem.W.plainGet_of hg).1 (PySem.W.plainGet_of hg).2 hf (beq_iff_eq.mp ht) (by show (PySem.W.lookIn name od).map (·.isSome)=some false;rw [hl,hv];rfl) h
theorem Vy {ns:List Str} {Q:Unit->Shared->Prop} (X:K.In s.heap) (I:Lq s.heap x dx C mA)
 (hs:PySem.W.findIn K (.ref C) "__setattr__" = some (some (.builtin "object.__setattr__"))) (hp:PySem.W.plainOver K C=true) (ht:PySem.W.takerIn K C name=some none) (hh:PySem.W.hasDictIn K C=true)
 (hw:PySem.Within mA ns) (hsz:ns.length<=sizeLine)
 (h:∀h',Lq h' x dx C (fun y=>if y=name then some v else mA y)->Heap.SameBut dx s.heap h'->Q () {s with heap:=h',toks:=s.toks+2}):
 wpAny (model prog w) A (setAttr (.ref x) name v) Q E s:=by
 obtain ⟨od,J,hl⟩:=I.look;refine PySem.W.set_plain X J hs (PySem.W.osa_open (s:={s with toks:=s.toks+1}) (r:=none) X J hp ht fun b=> ?_);obtain ⟨cd,hc,hd'⟩:=PySem.W.any_some hh;have hx:s.heap.get? x=some ⟨.ref C,some dx,.plain, #[]⟩:=I.obj;refine wpAny_bind (wpAny_pure (wpAny_bind (wpAny_bind (wpAny_loadPart hx (wpAny_bind (PySem.W.Looks.here (s:={s with toks:=s.toks+1}) (PySem.W.looks_clsIn X hc) ?_))))));rw [hd'];refine wpAny_pure (a:=some dx) (wpAny_bind (wpAny_pure (wpAny_bind ?_)));refine wpAny_nsSet1 (s:={s with toks:=s.toks+1}) I.ns fun h' hn2 hs2=> ?_;obtain ⟨oD,esD,epD,hoD,hdD,hcD⟩:=hn2.count (PySem.Within.cons name v hw);refine wpAny_bind (wpAny_lookBehind hoD (by rw [hdD];exact pastItsLine_dict (Nat.le_trans hcD (by rw [List.length_cons];omega))) ?_);exact wpAny_pure (h _ ⟨(hs2.2 _ (Ne.symm I.ne)).trans I.obj,hn2,I.ne⟩ hs2)
theorem IK {R:Result->Shared->Prop} {vs:List Value} {kw:List (Str×Value)} (X:K.In s.heap) (hm:PySem.W.makesIn K C=true)
 (hi:PySem.W.findIn K (.ref C) "__init__" = some (some (.ref f))) (hf:PySem.W.typeIn K (.ref f)=some (.type "function"))
 (h:codeAny (model prog w) (A.under (.builtin "type.__call__" ⟨.ref C::vs,kw⟩)) (.call (.ref f) ⟨.ref (s.heap.objs.size+1)::vs,kw⟩) (PySem.W.InitBack (s.heap.objs.size+1) R)
   {s with heap:=(s.heap.push PySem.W.emptyDict).push (PySem.W.instObj C s.heap.objs.size)}):
 codeAny (model prog w) A (.call (.ref C) ⟨vs,kw⟩) R s:=by
 obtain ⟨hh,g,d,t,os⟩:=s;exact PySem.W.make_core (PySem.W.makes_of X hm) (PySem.W.looks_findIn X hi) (fun self=>PySem.W.bind_fn X self hf) (.inl rfl) h
end
def cL (f:Str) (v:V):List (Str×V)->List (Str×V)
 | []=>[(f,v)]
 | (g,x)::r=>if g=f then (g,v)::r else (g,x)::cL f v r
theorem yZ (f g:Str) (v:V):∀fs:List (Str×V),(cL f v fs).lookup g=if g=f then some v else fs.lookup g
 | []=>by
   show List.lookup g [(f,v)]=_
   by_cases h:g=f
   ·have hb:(g==f)=true:=beq_iff_eq.mpr h
    simp only [List.lookup,hb,if_pos h]
   ·have hb:(g==f)=false:=beq_eq_false_iff_ne.mpr h
    simp only [List.lookup,hb,if_neg h]
 | (k,x)::r=>by
   have ih:=yZ f g v r;rw [show cL f v ((k,x)::r)=(if k=f then (k,v)::r else (k,x)::cL f v r) from rfl]
   by_cases hk:k=f
   ·rw [if_pos hk]
    by_cases h:g=k
    ·have hb:(g==k)=true:=beq_iff_eq.mpr h
     simp only [List.lookup,hb,if_pos (h.trans hk)]
    ·have hb:(g==k)=false:=beq_eq_false_iff_ne.mpr h
     simp only [List.lookup,hb,if_neg (fun e:g=f=>h (e.trans hk.symm))]
   ·rw [if_neg hk]
    by_cases h:g=k
    ·have hb:(g==k)=true:=beq_iff_eq.mpr h
     simp only [List.lookup,hb,if_neg (fun e:g=f=>hk (h.symm.trans e))]
    ·have hb:(g==k)=false:=beq_eq_false_iff_ne.mpr h
     simp only [List.lookup,hb];exact ih
theorem yG (f:Str) (v:V):∀fs:List (Str×V),f∈(cL f v fs).map (·.1) /\ ∀g,g∈fs.map (·.1)->g∈(cL f v fs).map (·.1)
 | []=>⟨by simp [cL],fun g h=>by simp at h⟩
 | (k,x)::r=>by
   obtain ⟨i1,i2⟩:=yG f v r;rw [show cL f v ((k,x)::r)=(if k=f then (k,v)::r else (k,x)::cL f v r) from rfl]
   by_cases hk:k=f
   ·rw [if_pos hk]
    subst hk;exact ⟨by simp,fun g h=>by simpa using h⟩
   ·rw [if_neg hk]
    refine ⟨?_,fun g h=> ?_⟩
    ·rw [List.map_cons]
     exact List.mem_cons_of_mem _ i1
    ·rw [List.map_cons] at h ⊢
     rcases List.mem_cons.mp h with e|e
     ·exact List.mem_cons.mpr (.inl e)
     ·exact List.mem_cons_of_mem _ (i2 g e)
theorem zc (f:Str) (v:V):∀fs:List (Str×V),(cL f v fs).length<=fs.length+1
 | []=>by simp [cL]
 | (k,x)::r=>by
   have ih:=zc f v r;rw [show cL f v ((k,x)::r)=(if k=f then (k,v)::r else (k,x)::cL f v r) from rfl]
   by_cases hk:k=f
   ·rw [if_pos hk,List.length_cons,List.length_cons];omega
   ·rw [if_neg hk,List.length_cons,List.length_cons];omega
theorem rA.some_of {v:V} {o:Option Value} (r:rA (some v) o):∃u,o=some u/\RelV v u:=by
 cases o with
 | none=>exact (show False from r).elim
 | some u=>exact ⟨u,rfl,r⟩
theorem rA.none_of {o:Option Value} (r:rA none o):o=none:=by
 cases o with
 | none=>rfl
 | some u=>exact (show False from r).elim
theorem Pr {v:V} {u:Value} (r:RelV v u):PySem.W.handedIn u=true:=by
 cases v with
 | non=>cases (show u=Value.none from r);rfl
 | bl b=>cases (show u=Value.bool b from r);rfl
 | int i=>obtain ⟨t,e⟩:=(show ∃t,u=Value.int i t from r);cases e;rfl
 | str x=>obtain ⟨t,e⟩:=(show ∃t,u=Value.str x t from r);cases e;rfl
 | Lf b=>obtain ⟨t,e⟩:=(show ∃t,u=Value.bytes b t from r);cases e;rfl
 | flt b=>obtain ⟨t,e⟩:=(show ∃t,u=Value.float b t from r);cases e;rfl
 | ref a=>cases (show u=Value.ref a from r);rfl
 | ty n=>cases (show u=Value.type n from r);rfl
section
variable {P:Program} {w:World} {H H':Hp} {h h':Heap} {a C dx:Addr} {fs fs':List (Str×V)}
theorem wJ (hok:nY P w H h) (e:H a=some (.ins C dx fs)):∃mA,Lq h a dx C mA/\(∀f,rA (fs.lookup f) (mA f))/\PySem.Within mA (fs.map (·.1))/\fs.length<=1000/\H dx=some (.own a):=by
 obtain ⟨d,z,ne,ob,mA,n,r,q⟩:=(show dG P w H h a (.ins C dx fs) from hok a _ e);exact ⟨mA,⟨ob,n,ne⟩,r,q,z,d⟩
end
structure Cls (K:PySem.W.Frag) (C:Addr):Prop where
 pg:PySem.W.plainGet K C Str.empty=true
 hd:PySem.W.hasDictIn K C=true
 po:PySem.W.plainOver K C=true
 sa:PySem.W.findIn K (.ref C) "__setattr__" = some (some (.builtin "object.__setattr__"))
theorem Cls.get {K:PySem.W.Frag} {C:Addr} (c:Cls K C) (f:Str):PySem.W.plainGet K C f=true:=c.pg
def fZ (K:PySem.W.Frag) (C:Addr) (f:Str):Prop:=PySem.W.findIn K (.ref C) f=some none
theorem fZ.taker {K:PySem.W.Frag} {C:Addr} {f:Str} (n:fZ K C f):PySem.W.takerIn K C f=some none:=by
 unfold PySem.W.takerIn;rw [show PySem.W.findIn K (.ref C) f=some none from n];rfl
structure Meth (K:PySem.W.Frag) (C:Addr) (m:Str) (f:Addr):Prop where
 at_:PySem.W.findIn K (.ref C) m=some (some (.ref f))
 fn:PySem.W.isFn K (.ref f)=true
 kp:PySem.W.keepIn K (.ref f)=true
section
variable {X:Cx} {pins:List (Addr×Obj)} {σ:St} {H:Hp} {s:Shared} {a C dx:Addr} {fs:List (Str×V)} {f:Str} {v:V} {A:Around} {E:Value->Shared->Prop}
theorem BZ {b:Bool} {Q:Value->Shared->Prop} (I:Inv X pins σ H s) (e:H a=some (.ins C dx fs)) (c:Cls X.K C) (n:fZ X.K C f) (l:fs.lookup f=some v)
 (h:∀u s',Inv X pins σ H s'->RelV v u->Q u s'):wpAny (model X.prog X.w) A (getAttr (.ref a) f b) Q E s:=by
 obtain ⟨mA,O,r,_,_,_⟩:=wJ I.hok e;obtain ⟨u,hu,ru⟩:=rA.some_of (v:=v) (o:=mA f) (by rw [←l];exact r f);exact get_map I.qK O (c.get f) c.hd n hu (Pr ru) (h u _ (I.tok _) ru)
theorem vA {m:Str} {g:Addr} {pl:Sem Bool} {Q:Value×List Value->Shared->Prop} (I:Inv X pins σ H s) (e:H a=some (.ins C dx fs)) (c:Cls X.K C) (k:Meth X.K C m g) (l:fs.lookup m=none)
 (h:Q (.ref g,[.ref a]) s):wpAny (model X.prog X.w) A (getMethod (.ref a) m pl) Q E s:=by
 obtain ⟨mA,O,r,_,_,_⟩:=wJ I.hok e;have hn:mA m=none:=rA.none_of (by rw [←l];exact r m);exact Tt I.qK O (c.get m) k.at_ k.fn hn h
theorem Az {y:V} {u:Value} {Q:Unit->Shared->Prop} (I:Inv X pins σ H s) (e:H a=some (.ins C dx fs)) (c:Cls X.K C) (n:fZ X.K C f) (hl:fs.length<1000) (ry:RelV y u)
 (h:∀s',Inv X pins σ (upd H a (.ins C dx (cL f y fs))) s'->Q () s'):wpAny (model X.prog X.w) A (setAttr (.ref a) f u) Q E s:=by
 obtain ⟨mA,O,r,wi,_,ho⟩:=wJ I.hok e;have hz:(fs.map (·.1)).length<=sizeLine:=by rw [List.length_map,sizeLine_eq];omega
 refine Vy I.qK O c.sa c.po n.taker c.hd wi hz fun h' O' sb=>h _ ?_;have hd:∃o,h'.get? dx=some o:=let ⟨o,_,_,e',_⟩:=O'.ns;⟨o,e'⟩
 refine I.write (x:=a) (e:=dx) (by rw [e];exact True.intro) (.inr ho) (fun b q hb z=>(sb.2 b hb).trans z) hd ?_;refine ⟨by rw [aD O.ne];exact ho, ?_,O.ne,O'.obj,_,O'.ns,fun g=> ?_,fun g hg=> ?_⟩
 ·have:=zc f y fs;omega
 ·show rA ((cL f y fs).lookup g) (if g=f then some u else mA g)
  rw [yZ]
  by_cases q:g=f
  ·rw [if_pos q,if_pos q];exact ry
  ·rw [if_neg q,if_neg q];exact r g
 ·by_cases q:g=f
  ·rw [q];exact (yG f y fs).1
  ·refine (yG f y fs).2 g (wi g fun z=>hg ?_)
   show (if g=f then some u else mA g)=none;rw [if_neg q];exact z
theorem Inv.made (I:Inv X pins σ H s):Inv X pins σ (upd (upd H s.heap.objs.size (.own (s.heap.objs.size+1))) (s.heap.objs.size+1) (.ins C s.heap.objs.size []))
 {s with heap:=(s.heap.push PySem.W.emptyDict).push (PySem.W.instObj C s.heap.objs.size)}:=by
 have e1:(s.heap.push PySem.W.emptyDict).get? s.heap.objs.size=some PySem.W.emptyDict:=Heap.get?_push_size s.heap rfl
 have e2:((s.heap.push PySem.W.emptyDict).push (PySem.W.instObj C s.heap.objs.size)).get? (s.heap.objs.size+1)=some (PySem.W.instObj C s.heap.objs.size):=by
  have:=Heap.get?_push_size (s.heap.push PySem.W.emptyDict) (o:=PySem.W.instObj C s.heap.objs.size) rfl;rwa [Heap.size_push] at this
 have e3:(s.heap.push PySem.W.emptyDict).Ns s.heap.objs.size (fun _=>none):=⟨PySem.W.emptyDict, #[],_,e1,rfl,(fun e he=>absurd he (by simp)),fun _=>rfl⟩;have I1:=I.laid (a:=s.heap.objs.size) (o:= .own (s.heap.objs.size+1)) (h':=s.heap.push PySem.W.emptyDict) (t':=s.toks) (fun b u q=>Heap.get?_push_of_some _ q) (Nat.le_refl _) ⟨_,e1⟩;refine I1.laid (a:=s.heap.objs.size+1) (o:= .ins C s.heap.objs.size []) (t':=s.toks) (fun b u q=>Heap.get?_push_of_some _ q) (Nat.le_of_eq (Heap.size_push _ _)) ?_;have ne:s.heap.objs.size≠s.heap.objs.size+1:=Nat.ne_of_lt (Nat.lt_succ_self _);refine ⟨by rw [aD ne,ak],Nat.zero_le _,ne,e2,fun _=>none,(Heap.Ns1.of_empty e3).at fun o q=>Heap.get?_push_of_some _ q,fun _=>True.intro,fun y hy=>absurd rfl hy⟩
theorem Xm {prog:Program} {w:World} {env:Env} {e:Expr} {f:Str} {pos:Pos} {s:Shared} {Q:Value->Shared->Prop} (hb:attributeBase e f env (eval e env)=eval e env)
 (h:wpAny (model prog w) A (eval e env) (fun o s₁=>wpAny (model prog w) A (getAttr o f true) Q E s₁) E s):wpAny (model prog w) A (eval (.Attribute e f pos) env) Q E s:=
 Attribute_any_ h (by rw [arm_eval_Attribute,hb])
end
def abQ (K:PySem.W.Frag) (ta:TE) (f:Str):TE:=fun σ H Q=>ta σ H fun x H1=>∃a C dx fs v,x = .ref a/\H1 a=some (.ins C dx fs)/\Cls K C/\fZ K C f/\fs.lookup f=some v/\Q v H1
def abZ (K:PySem.W.Frag) (ta tv:TE) (f:Str):TS:=fun D σ H=>tv σ H fun y H1=>ta σ H1 fun x H2=>∃a C dx fs,x = .ref a/\H2 a=some (.ins C dx fs)/\Cls K C/\fZ K C f/\fs.length<1000 /\
 D.nx σ (upd H2 a (.ins C dx (cL f y fs)))
def aei (X:Cx) (op:Operator) (rd:V->V->Hp->VK->Prop):Prop:=
 ∀(pins:List (Addr×Obj)) (s:Shared) (σ:St) (H:Hp) (x y:V) (u v:Value) (Q:VK),Inv X pins σ H s->RelV x u->RelV y v->rd x y H Q->wpAny (model X.prog X.w) X.A (inplaceOp op u v) (EP X pins σ Q) X.xe s
def Mh (K:PySem.W.Frag) (ta tv:TE) (rd:V->V->Hp->VK->Prop) (f:Str):TS:=fun D σ H=>ta σ H fun x H1=>∃a C dx fs v,x = .ref a/\H1 a=some (.ins C dx fs)/\Cls K C/\fZ K C f/\fs.lookup f=some v /\
 tv σ H1 fun y H2=>rd v y H2 fun z H3=>∃dx' fs',H3 a=some (.ins C dx' fs')/\fs'.length<1000/\D.nx σ (upd H3 a (.ins C dx' (cL f z fs')))
section
variable {X:Cx} {o e value:Expr} {f:Str} {pos pos' tpos:Pos} {ta tv:TE}
theorem ZK (he:PE X e ta) (hb:attributeBase e f X.env (eval e X.env)=eval e X.env):PE X (.Attribute e f pos) (abQ X.K ta f):=by
 intro pins s σ H Q I h;refine Xm hb (d9 (he pins s σ H _ I h) fun u s1 ⟨x,H1,I1,rx,a,C,dx,fs,v,ex,ea,c,n,l,q⟩=> ?_);subst ex;obtain rfl:u=Value.ref a:=rx;exact BZ I1 ea c n l fun u' s2 I2 ru=>⟨v,H1,I2,ru,q⟩
theorem Zy (ha:PE X o ta) (hv:PE X value tv) (hs:swapsWith value (some (.Attribute o f pos')) pos.line X.env=pure false):PS X (.Assign [.Attribute o f pos'] value pos) (abZ X.K ta tv f):=by
 intro pins s σ H D I h;refine plainObj_wpAny_Assign_Attribute (d9 (hv pins s σ H _ I h) fun u s1 ⟨y,H1,I1,ry,q⟩=>d9 (ha pins s1 σ H1 _ I1 q) fun ov s2 ⟨x,H2,I2,rx,a,C,dx,fs,ex,ea,c,n,l,q2⟩=> ?_) hs;subst ex;obtain rfl:ov=Value.ref a:=rx;exact Az I2 ea c n l ry fun s3 I3=>⟨σ,_,I3,q2⟩
theorem Od {op:Operator} {rd:V->V->Hp->VK->Prop} (ha:PE X o ta) (hv:PE X value tv) (hop:aei X op rd):PS X (.AugAssign (.Attribute o f tpos) op value pos) (Mh X.K ta tv rd f):=by
 intro pins s σ H D I h;refine wpAny_AugAssign_AttributeAny (d9 (ha pins s σ H _ I h) fun ov s1 ⟨x,H1,I1,rx,a,C,dx,fs,v,ex,ea,c,n,l,q⟩=> ?_);subst ex;obtain rfl:ov=Value.ref a:=rx;refine BZ I1 ea c n l fun u s2 I2 ru=>d9 (hv pins s2 σ H1 _ I2 q) fun w3 s3 ⟨y,H2,I3,ry,q3⟩=>d9 (hop pins s3 σ H2 v y u w3 _ I3 ru ry q3) fun w4 s4 ⟨z,H3,I4,rz,dx',fs',ea',l',q4⟩=> ?_;exact Az I4 ea' c n l' rz fun s5 I5=>⟨σ,_,I5,q4⟩
end
section
variable {X:Cx} {pins:List (Addr×Obj)} {σ:St} {H:Hp} {s:Shared} {A:Around} {E:Value->Shared->Prop} {Q:Value->Shared->Prop} {c:Value} {b:Bool}
inductive wZ (K:PySem.W.Frag) (H:Hp):V->Value->Prop where
 | non:wZ K H .non (.type "NoneType")
 | bl (x:Bool):wZ K H (.bl x) (.type "bool")
 | int (i:Int):wZ K H (.int i) (.type "int")
 | str (x:Str):wZ K H (.str x) (.type "str")
 | flt (x:UInt64):wZ K H (.flt x) (.type "float")
 | lst {a:Addr} {xs:List V} (e:H a=some (.lst xs)):wZ K H (.ref a) (.type "list")
 | Df {a:Addr} {o:Obj} {xs:List V} (e:H a=some (.Df o (.lst xs))):wZ K H (.ref a) (.type "list")
 | tup {a:Addr} {xs:List V} (e:H a=some (.tup xs)):wZ K H (.ref a) (.type "tuple")
 | dK {a:Addr} {kvs:List (Key×V)} (e:H a=some (.dK kvs)):wZ K H (.ref a) (.type "dict")
 | dT {a:Addr} {kvs:List (List Key×V)} (e:H a=some (.dT kvs)):wZ K H (.ref a) (.type "dict")
 | ins {a C dx:Addr} {fs:List (Str×V)} (e:H a=some (.ins C dx fs)) (cl:Cls K C) (ha:PySem.W.findIn K (.ref C) "__class__" = some (some (.builtin "object.__class__")))
    (hn:PySem.W.specialIn K (.builtin "object.__class__") "__get__" = some (some (.builtin "getset_descriptor.__get__"))) (htk:PySem.W.takesIn K (.builtin "object.__class__")=some true)
    (hm:PySem.W.mroIn K C (.type "object")=some true):wZ K H (.ref a) (.ref C)
theorem Pj {x:V} {u t:Value} (I:Inv X pins σ H s) (rx:RelV x u) (ty:wZ X.K H x t) (e:PySem.W.kitOne X.K t c=some b) (h:∀tk,Q (.bool b) {s with toks:=tk}):
 wpAny (model X.prog X.w) A (call (.builtin "isinstance") [u,c]) Q E s:=by
 cases ty with
 | non=>cases (show u=Value.none from rx);exact PySem.W.kia_one PySem.W.kitx_none I.qK True.intro e (fun z=>nomatch z) h
 | bl y=>cases (show u=Value.bool y from rx);exact PySem.W.kia_one PySem.W.kitx_bool I.qK True.intro e (fun z=>nomatch z) h
 | int i=>obtain ⟨t,q⟩:=(show ∃t,u=Value.int i t from rx);cases q;exact PySem.W.kia_one PySem.W.kitx_int I.qK True.intro e (fun z=>nomatch z) h
 | str y=>obtain ⟨t,q⟩:=(show ∃t,u=Value.str y t from rx);cases q;exact PySem.W.kia_one PySem.W.kitx_str I.qK True.intro e (fun z=>nomatch z) h
 | flt y=>obtain ⟨t,q⟩:=(show ∃t,u=Value.float y t from rx);cases q;exact PySem.W.kia_one PySem.W.kitx_float I.qK True.intro e (fun z=>nomatch z) h
 | @lst a xs ea=>
   cases (show u=Value.ref a from rx);obtain ⟨_,_,n,_,h1⟩:=(show dG X.prog X.w H s.heap a (.lst xs) from I.hok a _ ea);exact PySem.W.kia_one PySem.W.kitx_list I.qK ⟨_,h1,rfl⟩ e (fun z=>nomatch z) h
 | @Df a ob xs ea=>
   cases (show u=Value.ref a from rx);obtain ⟨_,_,_,n,_,h1⟩:=(show dG X.prog X.w H s.heap a (.Df ob (.lst xs)) from I.hok a _ ea);exact PySem.W.kia_one PySem.W.kitx_list I.qK ⟨_,h1,rfl⟩ e (fun z=>nomatch z) h
 | @tup a xs ea=>
   cases (show u=Value.ref a from rx);obtain ⟨_,_,_,p⟩:=(show dG X.prog X.w H s.heap a (.tup xs) from I.hok a _ ea);obtain ⟨o,h1,h2,_⟩:=p;exact PySem.W.kia_one PySem.W.kitx_tuple I.qK ⟨o,h1,h2⟩ e (fun z=>nomatch z) h
 | @dK a kvs ea=>
   cases (show u=Value.ref a from rx);obtain ⟨_,_,vs,_,p⟩:=(show dG X.prog X.w H s.heap a (.dK kvs) from I.hok a _ ea);obtain ⟨o,es,ep,h1,h2,_⟩:=p;exact PySem.W.kia_one PySem.W.kitx_dict I.qK ⟨o,h1,h2.1⟩ e (fun z=>nomatch z) h
 | @dT a kvs ea=>
   cases (show u=Value.ref a from rx);obtain ⟨_,_,xs,_,o,es,ep,h1,h2,_⟩:=(show dG X.prog X.w H s.heap a (.dT kvs) from I.hok a _ ea);exact PySem.W.kia_one PySem.W.kitx_dict I.qK ⟨o,h1,h2.1⟩ e (fun z=>nomatch z) h
 | @ins a C dx fs ea cl ha hn htk hm=>
   cases (show u=Value.ref a from rx);obtain ⟨mA,O,_⟩:=wJ I.hok ea;obtain ⟨od,J,_⟩:=O.look;exact PySem.W.kia_one (PySem.W.kitx_own (cl.get _) cl.hd ha hn htk hm) I.qK J e (fun z=>nomatch z) h
end
end L2
namespace L2
open PySem PySem.Spec PyProof.Rows
structure dZ (k:Nat) (A:Around):Prop where
 hd:A.handled=none
 dp:A.depth+3*k+5<recursionLimit
 un:A.units+16*k+200<cLine
theorem dZ.mono {j k:Nat} {A:Around} (r:dZ k A) (h:j<=k):dZ j A:=⟨r.hd,by have:=r.dp;omega,by have:=r.un;omega⟩
theorem dZ.deeper {k:Nat} {A:Around} (r:dZ (k+1) A) (env:Env):dZ k (A.deeper env):=
 ⟨r.hd,by have:=r.dp;show A.depth+1+3*k+5<_;omega,by have:=r.un;show A.units+3+16*k+200<_;omega⟩
theorem dZ.in1 {k:Nat} {A:Around} (r:dZ (k+1) A):dZ k A.in1:=
 ⟨r.hd,by have:=r.dp;show A.depth+3*k+5<_;omega,by have:=r.un;show A.units+1+16*k+200<_;omega⟩
theorem K1 {A:Around} {C:Addr} {us:List Value} {kw:List (Str×Value)}:(A.under (.builtin "type.__call__" ⟨.ref C::us,kw⟩)).depth=A.depth+1:=by
 first |rfl|simp [Around.under,Code.weight,Code.isCreation,Code.isGuard,Code.isCaller,Code.frames,Code.isFrame,guardIds]
theorem KZ {A:Around} {C:Addr} {us:List Value} {kw:List (Str×Value)}:(A.under (.builtin "type.__call__" ⟨.ref C::us,kw⟩)).units=A.units+1:=by
 first |rfl|simp [Around.under,Code.cUnits,Code.frames,Code.isFrame]
theorem dZ.make {k:Nat} {A:Around} (r:dZ (k+1) A) (C:Addr) (us:List Value) (kw:List (Str×Value)):dZ k (A.under (.builtin "type.__call__" ⟨.ref C::us,kw⟩)):=
 ⟨r.hd,by have:=r.dp;rw [K1];omega,by have:=r.un;rw [KZ];omega⟩
theorem dZ.depth {k:Nat} {A:Around} (r:dZ k A):A.depth<recursionLimit:=by have:=r.dp;omega
theorem dZ.units {k:Nat} {A:Around} (r:dZ k A):A.units+64<cLine:=by have:=r.un;omega
def Vs:TA:=fun _ H Q=>Q [] H
def abR (ta:TE) (tr:TA):TA:=fun σ H Q=>ta σ H fun x H1=>tr σ H1 fun xs H2=>Q (x::xs) H2
section
variable {X:Cx} {e:Expr} {es:List Expr} {te:TE} {t:TA} {pos:Pos}
theorem aB:PA X [] Vs:=fun _ _ _ _ H Q I h=>Calls.spliced_nil ⟨[],H,I,.nil,h⟩
theorem aj (ha:PE X e te) (hr:PA X es t) (hs:starEach (e::es) X.env=(false,eval e X.env)::starEach es X.env:=by rfl):PA X (e::es) (abR te t):=by
 intro pos pins s σ H Q I h;rw [hs];show wpAny _ _ (spliced ((false,eval e X.env)::backTo pos (starEach es X.env))) _ _ s;refine Calls.spliced_cons (d9 (ha pins s σ H _ I h) fun u s1 ⟨x,H1,I1,r1,q1⟩=> ?_);exact d9 (hr pos pins s1 σ H1 _ I1 q1) fun us s2 ⟨xs,H2,I2,r2,q2⟩=>⟨x::xs,H2,I2,.cons r1 r2,q2⟩
def agc (t:TA):TE:=fun σ H Q=>t σ H fun xs H1=>xs.length<=sizeLine /\ ∀p,H1 p=none->Q (.ref p) (upd H1 p (.tup xs))
def agj (t:TA):TE:=fun σ H Q=>t σ H fun xs H1=>xs.length<=sizeLine /\ ∀p,H1 p=none->Q (.ref p) (upd H1 p (.lst xs))
theorem jQ {x1} (h:PA X es t):PE X (.Tuple es x1 pos) (agc t):=by
 intro pins s σ H Q I hq;refine wpAny_Tuple_spliced (d9 (h pos pins s σ H _ I hq) fun us s1 ⟨xs,H1,I1,r,z,q⟩=>⟨by rw [←r.length];exact z, ?_⟩);have hf:H1 s1.heap.objs.size=none:=I1.hok.fresh (Nat.le_refl _);refine ⟨.ref s1.heap.objs.size,upd H1 s1.heap.objs.size (.tup xs),I1.laid (t':=s1.toks) (fun b u e=>Heap.get?_push_of_some _ e) (Nat.le_refl _) ?_,rfl,q _ hf⟩;exact ⟨z,us,r,⟨_,Heap.get?_push_size _ rfl,rfl,_,rfl⟩⟩
theorem fO (h:PA X es t):PE X (.List es pos) (agj t):=by
 intro pins s σ H Q I hq;refine wpAny_List_spliced (d9 (h pos pins s σ H _ I hq) fun us s1 ⟨xs,H1,I1,r,z,q⟩=>⟨by rw [←r.length];exact z, ?_⟩);have hf:H1 s1.heap.objs.size=none:=I1.hok.fresh (Nat.le_refl _);refine ⟨.ref s1.heap.objs.size,upd H1 s1.heap.objs.size (.lst xs),I1.laid (t':=s1.toks) (fun b u e=>Heap.get?_push_of_some _ e) (Nat.le_refl _) ?_,rfl,q _ hf⟩;exact ⟨z,us,0,r,Heap.get?_push_size _ rfl⟩
end
abbrev Sp:=List V->Hp->VK->XK->Prop
abbrev Nv:=List Env->Hp->Shared->XK->Value->Shared->Prop
structure xG (P:Program) (w:World) (K:PySem.W.Frag) (mg:Str->Option Value) (base:Heap) (A:Around) (outer:List Env) (s:Shared) (H:Hp):Prop where
 frames:A.frames=some outer
 mod:Mod K mg base
 bs:∀b o,base.get? b=some o->s.heap.get? b=some o/\H b=none
 HF:base.objs.size<=s.heap.objs.size
 pB:s.heap.FunFrames base outer
 K_:∀b∈frs outer,H b=none
 hok:nY P w H s.heap
 bare:AllBare s.gens
def CE (outer:List Env) (P:Program) (w:World) (H:Hp) (s:Shared) (Q:VK) (u:Value) (s':Shared):Prop:=
 ∃v H',s'.os=s.os/\AllBare s'.gens/\Un (frs outer) [] H H' s.heap s'.heap/\nY P w H' s'.heap/\RelV v u/\Q v H'
def CR (CX:Nv) (outer:List Env) (P:Program) (w:World) (H:Hp) (s:Shared) (Q:VK) (E:XK) (r:Result) (s':Shared):Prop:=
 match r with
 | .ok (.ret u)=>CE outer P w H s Q u s'
 | .ok _=>False
 | .error e=>CX outer H s E e s'
structure bV (P:Program) (w:World) (K:PySem.W.Frag) (mg:Str->Option Value) (base:Heap) (CX:Nv) (k:Nat) (f:Addr) (fd:FuncData) (ps:List Str) (sp:Sp):Prop where
 len:∀vs H Q E,sp vs H Q E->vs.length=ps.length
 run:∀(A:Around) (outer:List Env) (s:Shared) (H:Hp) (args:Args) (us:List Value) (vs:List V) (Q:VK) (E:XK),dZ k A->xG P w K mg base A outer s H->BindsTo s fd args (ps.zip us)->Vals vs us->sp vs H Q E ->
  codeAny (model P w) A (.call (.ref f) args) (CR CX outer P w H s Q E) s
theorem xG.make {P:Program} {w:World} {K:PySem.W.Frag} {mg:Str->Option Value} {base:Heap} {A:Around} {outer:List Env} {s:Shared} {H:Hp} (e:xG P w K mg base A outer s H) (C:Addr) (us:List Value) (kw:List (Str×Value)):
 xG P w K mg base (A.under (.builtin "type.__call__" ⟨.ref C::us,kw⟩)) outer s H:=⟨by first |exact e.frames|(simpa [Around.under,Code.envs,Code.isFrame,pushEnvs] using e.frames),e.mod,e.bs,e.HF,e.pB,e.K_,e.hok,e.bare⟩
theorem xG.in1 {P:Program} {w:World} {K:PySem.W.Frag} {mg:Str->Option Value} {base:Heap} {A:Around} {outer:List Env} {s:Shared} {H:Hp} (e:xG P w K mg base A outer s H):
 xG P w K mg base A.in1 outer s H:=⟨e.frames,e.mod,e.bs,e.HF,e.pB,e.K_,e.hok,e.bare⟩
section
variable {X:Cx} {pins:List (Addr×Obj)} {σ:St} {H:Hp} {s s':Shared}
theorem Inv.env0 (I:Inv X pins σ H s):xG X.prog X.w X.K X.mg X.base X.A X.stack s H:=
 ⟨I.ok.frames,I.ok.mod,I.bs,Nat.le_trans I.ok.HF I.sz,I.stack,I.Fl,I.hok,I.bare⟩
theorem Inv.after {Q:VK} {u:Value} (I:Inv X pins σ H s) (h:CE X.stack X.prog X.w H s Q u s'):EP X pins σ Q u s':=by
 obtain ⟨v,H',os,bare,un,hok,r,q⟩:=h;obtain ⟨hh,g,d,t,os'⟩:=s';obtain rfl:os'=s.os:=os;exact ⟨v,H',I.call (h':=hh) (g':=g) (d':=d) (t':=t) (ch:=[]) un hok bare (fun b z=>absurd z (by simp)),r,q⟩
end
def X3 (sp:Sp) (rE:List V) (E:XK) (t:TA):TE:=fun σ H Q=>t σ H fun vs H1=>sp (vs++rE) H1 Q E
def LQ (C:Addr) (m:Str) (sp:Sp) (rE:List V) (E:XK) (ta:TE) (t:TA):TE:=fun σ H Q=>ta σ H fun x H1=>∃a dx fs,x = .ref a/\H1 a=some (.ins C dx fs)/\fs.lookup m=none /\
 t σ H1 fun vs H2=>sp (x::(vs++rE)) H2 Q E
def XQ (C:Addr) (sp:Sp) (rE:List V) (E:XK) (t:TA):TE:=fun σ H Q=>t σ H fun vs H1=>∀x dx,H1 x=none->H1 dx=none->dx≠x ->
 sp (.ref x::(vs++rE)) (upd (upd H1 dx (.own x)) x (.ins C dx [])) (fun v H2=>v = .non/\Q (.ref x) H2) E
def Binds (K:PySem.W.Frag) (fd:FuncData) (ps:List Str) (ds:List Value):Prop:=
 ∀(s:Shared) (us:List Value),K.In s.heap->(us++ds).length=ps.length->BindsTo s fd ⟨us,[]⟩ (ps.zip (us++ds))
theorem Binds.all {K:PySem.W.Frag} {fd:FuncData} {ps:List Str} (h:∀us:List Value,us.length=ps.length->bindArgs fd ⟨us,[]⟩=pure (ps.zip us)):Binds K fd ps []:=fun s us _ hl=>by
 rw [List.append_nil] at hl ⊢;exact .of_eq (h us hl)
def Passes (CX:Nv) (X:Cx) (E:XK):Prop:=∀(pins:List (Addr×Obj)) (σ:St) (H:Hp) (s:Shared) (e:Value) (s':Shared),Inv X pins σ H s->CX X.stack H s E e s'->X.xe e s'
section
variable {X:Cx} {CX:Nv} {k:Nat} {f C:Addr} {fd:FuncData} {ps:List Str} {sp:Sp} {rE:List V} {ds:List Value} {E:XK} {x m:Str} {p pos apos:Pos} {e o:Expr} {es:List Expr} {ta:TE} {t:TA}
theorem Kh {pins:List (Addr×Obj)} {σ:St} {H:Hp} {s:Shared} {Q:VK} {us:List Value} {vs:List V} (F:bV X.prog X.w X.K X.mg X.base CX k f fd ps sp) (hr:dZ k X.A) (hb:Binds X.K fd ps ds) (hd:Vals rE ds) (hx:Passes CX X E)
 (I:Inv X pins σ H s) (r:Vals vs us) (h:sp (vs++rE) H Q E):wpAny (model X.prog X.w) X.A (call (.ref f) us) (EP X pins σ Q) X.xe s:=by
 have r2:Vals (vs++rE) (us++ds):=r.append hd;have hl:(us++ds).length=ps.length:=by rw [←r2.length];exact F.len _ _ _ _ h
 refine wpAny_call (codeAny_mono (F.run X.A X.stack s H ⟨us,[]⟩ (us++ds) (vs++rE) Q E hr I.env0 (hb s us I.qK hl) r2 h) fun r s' hq=> ?_);cases r with
 | error e=>exact hx pins σ H s e s' I hq
 | ok fl=>
   cases fl with
   | ret u=>exact I.after hq
   | next=>exact False.elim hq
   | brk=>exact False.elim hq
   | cont=>exact False.elim hq
theorem V_ (F:bV X.prog X.w X.K X.mg X.base CX k f fd ps sp) (hr:dZ k X.A) (hg:Gl X x) (hm:X.mg x=some (.ref f)) (hk:PySem.W.keepIn X.K (.ref f)=true) (hb:Binds X.K fd ps ds) (hd:Vals rE ds) (hx:Passes CX X E)
 (ha:PA X (e::es) t) (hdb:(x==("__debug__" :Str))=false:=by decide) (he:starEach (e::es) X.env=(false,eval e X.env)::starEach es X.env:=by rfl) (hpl:(backTo pos (starEach es X.env)).any (·.1)=false:=by rfl):
 PE X (.Call (.Name x p) (e::es) [] pos) (X3 sp rE E t):=by
 intro pins s σ H Q I h;refine wpAny_Call_Name_kw (oA I hg hm ?_ hdb);refine PySem.W.callWith_K (h₀:=X.base) I.ok.mod.Pb hk (d9 (ha pos pins s σ H _ I h) fun us s1 ⟨vs,H1,I1,r,q⟩=>⟨I1.qK, ?_⟩) he hpl;exact Kh F hr hb hd hx I1 r q
theorem V7 {pl:Sem Bool} (he:PE X o ta) (c:Cls X.K C) (hm:Meth X.K C m f) (F:bV X.prog X.w X.K X.mg X.base CX k f fd ps sp) (hr:dZ k X.A) (hb:Binds X.K fd ps ds) (hd:Vals rE ds) (hx:Passes CX X E) (ha:PA X (e::es) t)
 (hst:starEach (e::es) X.env=(false,eval e X.env)::starEach es X.env:=by rfl) (hpl:(backTo pos (starEach es X.env)).any (·.1)=false:=by rfl)
 (ht:eval (.Call (.Attribute o m apos) (e::es) [] pos) X.env=(do
   let ov ←eval o X.env
   standAt apos.atName
   let (f,first) ←holding [ov] (getMethod ov m pl)
   callWith pos f first (backTo pos (starEach (e::es) X.env)) (backToKw pos (keywordEach [] X.env))):=by rfl):
 PE X (.Call (.Attribute o m apos) (e::es) [] pos) (LQ C m sp rE E ta t):=by
 intro pins s σ H Q I h;refine PySem.W.methodCall_KW (pl:=pl) (d9 (he pins s σ H _ I h) fun u s1 ⟨x,H1,I1,rx,a,dx,fs,ex,ea,l,q⟩=> ?_) ht;subst ex;obtain rfl:u=Value.ref a:=rx;refine vA I1 ea c hm l ?_;refine PySem.W.callWith_K (first:=[.ref a]) (h₀:=X.base) I.ok.mod.Pb hm.kp (d9 (ha pos pins s1 σ H1 _ I1 q) fun us s2 ⟨vs,H2,I2,r,q2⟩=>⟨I2.qK, ?_⟩) hst hpl;exact Kh (us:= .ref a::us) (vs:= .ref a::vs) F hr hb hd hx I2 (.cons rfl r) q2
theorem RG {pl:Sem Bool} (he:PE X o ta) (c:Cls X.K C) (hm:Meth X.K C m f) (F:bV X.prog X.w X.K X.mg X.base CX k f fd ps sp) (hr:dZ k X.A) (hb:Binds X.K fd ps ds) (hd:Vals rE ds) (hx:Passes CX X E)
 (ht:eval (.Call (.Attribute o m apos) [] [] pos) X.env=(do
   let ov ←eval o X.env
   standAt apos.atName
   let (f,first) ←holding [ov] (getMethod ov m pl)
   callWith pos f first (backTo pos (starEach [] X.env)) (backToKw pos (keywordEach [] X.env))):=by rfl):
 PE X (.Call (.Attribute o m apos) [] [] pos) (LQ C m sp rE E ta Vs):=by
 intro pins s σ H Q I h;refine PySem.W.methodCall_KW (pl:=pl) (d9 (he pins s σ H _ I h) fun u s1 ⟨x,H1,I1,rx,a,dx,fs,ex,ea,l,q⟩=> ?_) ht;subst ex;obtain rfl:u=Value.ref a:=rx;refine vA I1 ea c hm l ?_;exact PySem.W.callWith_K0 (first:=[.ref a]) I1.qK hm.kp (Kh (us:=[.ref a]) (vs:=[.ref a]) F hr hb hd hx I1 (.cons rfl .nil) q)
structure Mk (K:PySem.W.Frag) (C f:Addr):Prop where
 makes:PySem.W.makesIn K C=true
 init:PySem.W.findIn K (.ref C) "__init__" = some (some (.ref f))
 fn:PySem.W.isFn K (.ref f)=true
 kp:PySem.W.keepIn K (.ref C)=true
theorem Ro {pins:List (Addr×Obj)} {σ:St} {H:Hp} {s:Shared} {Q:VK} {us:List Value} {vs:List V} (M:Mk X.K C f) (F:bV X.prog X.w X.K X.mg X.base CX k f fd ps sp) (hr:dZ (k+1) X.A) (hb:Binds X.K fd ps ds) (hd:Vals rE ds)
 (hx:Passes CX X E) (I:Inv X pins σ H s) (r:Vals vs us)
 (h:∀x dx,H x=none->H dx=none->dx≠x->sp (.ref x::(vs++rE)) (upd (upd H dx (.own x)) x (.ins C dx [])) (fun v H2=>v = .non/\Q (.ref x) H2) E):
 wpAny (model X.prog X.w) X.A (call (.ref C) us) (EP X pins σ Q) X.xe s:=by
 have hq:=h (s.heap.objs.size+1) s.heap.objs.size (I.hok.fresh (Nat.le_succ _)) (I.hok.fresh (Nat.le_refl _)) (Nat.ne_of_lt (Nat.lt_succ_self _));have I2:=Inv.made (C:=C) I;have r2:Vals (V.ref (s.heap.objs.size+1)::(vs++rE)) (Value.ref (s.heap.objs.size+1)::(us++ds)):= .cons rfl (r.append hd)
 have hl:(Value.ref (s.heap.objs.size+1)::us++ds).length=ps.length:=by
  have e:=r2.length;rw [F.len _ _ _ _ hq] at e;exact e.symm
 refine wpAny_call (IK (f:=f) I.qK M.makes M.init (beq_iff_eq.mp M.fn) (codeAny_mono (F.run _ X.stack _ _ ⟨Value.ref (s.heap.objs.size+1)::us,[]⟩ (Value.ref (s.heap.objs.size+1)::(us++ds)) _ _ E (hr.make C us [])
  (I2.env0.make C us []) (hb _ (Value.ref (s.heap.objs.size+1)::us) I2.qK hl) r2 hq) fun r s' hq'=> ?_))
 cases r with
 | error e=>exact hx pins σ _ _ e s' I2 hq'
 | ok fl=>
   cases fl with
   | ret u=>
     obtain ⟨v,H',I3,rv,ev,q3⟩:=I2.after hq';subst ev;exact ⟨rv,⟨V.ref (s.heap.objs.size+1),H',I3,rfl,q3⟩⟩
   | next=>exact False.elim hq'
   | brk=>exact False.elim hq'
   | cont=>exact False.elim hq'
theorem V8 (M:Mk X.K C f) (F:bV X.prog X.w X.K X.mg X.base CX k f fd ps sp) (hr:dZ (k+1) X.A) (hg:Gl X x) (hm:X.mg x=some (.ref C)) (hb:Binds X.K fd ps ds) (hd:Vals rE ds) (hx:Passes CX X E)
 (ha:PA X (e::es) t) (hdb:(x==("__debug__" :Str))=false:=by decide) (he:starEach (e::es) X.env=(false,eval e X.env)::starEach es X.env:=by rfl) (hpl:(backTo pos (starEach es X.env)).any (·.1)=false:=by rfl):
 PE X (.Call (.Name x p) (e::es) [] pos) (XQ C sp rE E t):=by
 intro pins s σ H Q I h;refine wpAny_Call_Name_kw (oA I hg hm ?_ hdb);refine PySem.W.callWith_K (h₀:=X.base) I.ok.mod.Pb M.kp (d9 (ha pos pins s σ H _ I h) fun us s1 ⟨vs,H1,I1,r,q⟩=>⟨I1.qK, ?_⟩) he hpl;exact Ro M F hr hb hd hx I1 r q
end
section
variable {X:Cx} {CX:Nv} {k:Nat} {f C:Addr} {fd:FuncData} {ps ks:List Str} {sp:Sp} {E:XK} {x m:Str} {p pos apos kpos:Pos} {e o:Expr} {es:List Expr} {kws:List Keyword} {te ta:TE} {t tk:TA} {nm:Option Str}
variable {g:List Value->List Value->List Value} {gV:List V->List V->List V}
end
structure bw (N P:List Str) (sc:Scope):Prop where
 kind:sc.kind = .function
 co:sc.isCoroutine=false
 gen:sc.isGenerator=false
 nd:N.Nodup
 pre:N.take P.length=P
 par:∀x∈P,sc.names.lookup x=some .local\/sc.names.lookup x=some .cell
 Z5:∀y∈sc.names,y.2 ≠ .free
theorem Ew {kindOf:Str->Option NameKind} {x:Str}:∀{binds:List (Str×Value)} {m:Str->Option Value},(∀v,(x,v)∉binds)->bindL kindOf binds m x=m x
 | [],_,_=>rfl
 | (n,v)::r,m,h=>by
   unfold bindL;rw [Ew fun w hw=>h w (List.mem_cons_of_mem _ hw)];split
   ·have:x≠n:=by rintro rfl;exact h v List.mem_cons_self
    simp [this]
   ·rfl
theorem Ez {kindOf:Str->Option NameKind} {x:Str}:∀{binds:List (Str×Value)} {m:Str->Option Value},(∀v,(x,v)∉binds)->bindC kindOf binds m x=m x
 | [],_,_=>rfl
 | (n,v)::r,m,h=>by
   unfold bindC;rw [Ez fun w hw=>h w (List.mem_cons_of_mem _ hw)];split
   ·rfl
   ·have:x≠n:=by rintro rfl;exact h v List.mem_cons_self
    simp [this]
theorem Ey {kindOf:Str->Option NameKind} {x:Str} {v:Value}:∀{P:List Str} {vs:List Value} {i:Nat} {m:Str->Option Value},P.Nodup->P[i]? = some x->vs[i]? = some v->kindOf x=some .local ->
 bindL kindOf (P.zip vs) m x=some v
 | [],_,_,_,_,h,_,_=>by simp at h
 | _::_,[],_,_,_,_,h,_=>by simp at h
 | p::P,w::vs,0,m,nd,h1,h2,hk=>by
   simp at h1 h2;subst h1;subst h2;show bindL kindOf ((p,w)::P.zip vs) m p=_;unfold bindL;rw [Ew fun v hv=>(List.nodup_cons.mp nd).1 (List.of_mem_zip hv).1,if_pos hk];simp
 | p::P,w::vs,i+1,m,nd,h1,h2,hk=>by
   show bindL kindOf ((p,w)::P.zip vs) m x=_;unfold bindL;exact Ey (i:=i) (List.nodup_cons.mp nd).2 (by simpa using h1) (by simpa using h2) hk
theorem EY {kindOf:Str->Option NameKind} {x:Str} {v:Value}:∀{P:List Str} {vs:List Value} {i:Nat} {m:Str->Option Value},P.Nodup->P[i]? = some x->vs[i]? = some v->kindOf x≠some .local ->
 bindC kindOf (P.zip vs) m x=some v
 | [],_,_,_,_,h,_,_=>by simp at h
 | _::_,[],_,_,_,_,h,_=>by simp at h
 | p::P,w::vs,0,m,nd,h1,h2,hk=>by
   simp at h1 h2;subst h1;subst h2;show bindC kindOf ((p,w)::P.zip vs) m p=_;unfold bindC;rw [Ez fun v hv=>(List.nodup_cons.mp nd).1 (List.of_mem_zip hv).1,if_neg hk];simp
 | p::P,w::vs,i+1,m,nd,h1,h2,hk=>by
   show bindC kindOf ((p,w)::P.zip vs) m x=_;unfold bindC;exact EY (i:=i) (List.nodup_cons.mp nd).2 (by simpa using h1) (by simpa using h2) hk
def start (N:List Str) (vs:List V):St:=vs.map some++List.replicate (N.length - vs.length) none
def qO (CX:Nv) (P:Program) (w:World) (K:PySem.W.Frag) (mg:Str->Option Value) (base:Heap) (N:List Str) (qual:Str) (scope:Scope) (f:Addr) (cd:Value) (A:Around) (outer:List Env) (s:Shared) (H:Hp) (E:XK):Cx where
 prog:=P
 w:=w
 K:=K
 mg:=mg
 base:=base
 A:=A.deeper (envOfC qual scope s.heap.objs.size f cd)
 N:=N
 s₀:=s
 H₀:=H
 env:=envOfC qual scope s.heap.objs.size f cd
 outer:=outer
 stack:=envOfC qual scope s.heap.objs.size f cd::outer
 ex:=[]
 calm:=true
 fn:=fun _=>true
 pn:=[]
 xe:=fun e s'=>wpAny (model P w) (A.deeper (envOfC qual scope s.heap.objs.size f cd)) (leaving (envOfC qual scope s.heap.objs.size f cd) e) (fun _ s''=>CX outer H s E e s'') (fun e' s''=>CX outer H s E e' s'') s'
theorem Jx {sc:Scope} {n:Nat} {x:Str} (h:sc.names.lookup x=some .cell):∃c,(cellsFrom n sc.names []).lookup x=some c:=by
 have q:=PySem.W.cellsFrom_some sc.names n [] (.inl h);exact Option.isSome_iff_exists.mp q
theorem Pn {CX:Nv} {P:Program} {w:World} {K:PySem.W.Frag} {mg:Str->Option Value} {base:Heap} {N ps:List Str} {qual:Str} {scope:Scope} {f:Addr} {cd:Value} {A:Around} {outer:List Env} {s s1:Shared} {H:Hp} {E:XK} {us:List Value} {vs:List V}
 (S:bw N ps scope) (hd:A.handled=none) (e0:xG P w K mg base A outer s H) (hl:vs.length=ps.length) (r:Vals vs us)
 (x:InCallC s s.heap.objs.size (bindL (envOfC qual scope s.heap.objs.size f cd).kindOf (ps.zip us) fun _=>none) (cellsFrom (s.heap.objs.size+1) scope.names []) (bindC (envOfC qual scope s.heap.objs.size f cd).kindOf (ps.zip us) fun _=>none) s1):
 Inv (qO CX P w K mg base N qual scope f cd A outer s H E) [] (start N vs) H s1:=by
 have hpl:ps.length<=N.length:=by have:=congrArg List.length S.pre;rw [List.length_take] at this;omega
 obtain ⟨h1,tk,rfl,hk⟩:=x.done;have SM:∀b:Addr,b∉(qO CX P w K mg base N qual scope f cd A outer s H E).ex:=fun b z=>absurd (show b∈([]:List Addr) from z) (by simp)
 refine ⟨⟨e0.mod,S.kind,rfl,rfl,Nat.le_refl _,fun y z c h1 h2=> ?_,fun y hy=> ?_,fun y c _ h=> ?_,fun _=>hd,Around.frames_deeper e0.frames,.inr ⟨rfl,rfl⟩,fun b z=>absurd z (SM b),e0.bs,e0.HF,fun b _ _=>SM b,fun b z=>absurd z (SM b),e0.pB,e0.K_⟩,
  rfl,e0.bare,Un.kept hk,⟨_,x.toInCall.ns,fun i y v h1 h2 h3=> ?_⟩,fun y c h=>⟨_,x.cell y c h⟩,e0.hok.fresh (Nat.le_refl _),fun y c h=> ?_,fun p hp=>absurd (show p∈([]:List (Addr×Obj)) from hp) (by simp),e0.hok.kept hk, ?_⟩
 ·exact name_of_addr x.apart (PySem.mem_of_lookup h1) (PySem.mem_of_lookup h2)
 ·have hy:scope.names.lookup y=some .cell\/scope.names.lookup y=some .free:=hy
  rcases hy with hy|hy
  ·exact Jx hy
  ·exact absurd rfl (S.Z5 _ (PySem.mem_of_lookup hy))
 ·exact Nat.le_of_lt (x.above y c (PySem.mem_of_lookup h))
 ·have hi:i<vs.length:=by
   unfold start at h2
   by_cases hi:i<vs.length
   ·exact hi
   ·rw [List.getElem?_append_right (by simpa using hi)] at h2
    rw [List.getElem?_replicate] at h2;split at h2<;>cases h2
  have ha:vs[i]? = some v:=by
   unfold start at h2;rw [List.getElem?_append_left (by simpa using hi),List.getElem?_map] at h2;cases e:vs[i]? with
   | none=>rw [e] at h2;cases h2
   | some a=>rw [e] at h2;cases h2;rfl
  obtain ⟨u,hu,rv⟩:=r.get ha
  have hp:ps[i]? = some y:=by
   rw [←S.pre,List.getElem?_take_of_lt (by omega)];exact h1
  have ndP:ps.Nodup:=by rw [←S.pre];exact S.nd.sublist (List.take_sublist _ _)
  refine ⟨u,rv, ?_⟩;rcases S.par y (List.mem_of_getElem? hp) with k|k
  ·exact .inl ⟨k,Ey ndP hp hu k⟩
  ·obtain ⟨c,e⟩:=Jx (n:=s.heap.objs.size+1) k
   refine .inr ⟨.inl k,c,e, ?_⟩;have q:=x.cell y c e;rw [EY ndP hp hu (by show scope.names.lookup y≠_;rw [k];decide)] at q;exact q
 ·exact e0.hok.fresh (Nat.le_of_lt (x.above y c (PySem.mem_of_lookup h)))
 ·unfold start
  show _=N.length;rw [List.length_append,List.length_map,List.length_replicate];omega
theorem M5 {CX:Nv} {P:Program} {w:World} {K:PySem.W.Frag} {mg:Str->Option Value} {base:Heap} {k:Nat} {f:Addr} {name qual:Str} {params:Arguments} {body:List Stmt} {scope:Scope} {dV kV doc pm cdv ct oc:Value} {an od:Option Addr}
 {osl:Array (Option Value)} {N ps:List Str} {sp:Sp} (lk:K.lookup f=some ⟨oc,od,.func (PySem.W.fnOf name qual params body scope dV kV doc pm an cdv ct),osl⟩) (hcd:PySem.W.codeIn K cdv qual=true) (S:bw N ps scope)
 (len:∀vs H Q E,sp vs H Q E->vs.length=ps.length)
 (hbody:∀(A:Around) (outer:List Env) (s:Shared) (H:Hp) (vs:List V) (Q:VK) (E:XK),dZ k (A.deeper (envOfC qual scope s.heap.objs.size f cdv))->sp vs H Q E ->
   ∃t,HJ (qO CX P w K mg base N qual scope f cdv A outer s H E) body t/\t {nx:=fun _ H'=>Q .non H',rt:=Q} (start N vs) H):
 bV P w K mg base CX (k+1) f (PySem.W.fnOf name qual params body scope dV kV doc pm an cdv ct) ps sp:=by
 refine ⟨len,fun A outer s H args us vs Q E hr e0 hb r hsp=> ?_⟩;have hl:=len _ _ _ _ hsp;have KX:K.In s.heap:=e0.mod.Pb.keeps fun b o e=>(e0.bs b o e).1;have lim:s.heap.NoLimit:=e0.mod.nolimit.keeps fun b o e=>(e0.bs b o e).1
 have hkind:∀y∈ps.zip us,scope.names.lookup y.1=some .local\/(scope.names.lookup y.1=some .cell/\((cellsFrom (s.heap.objs.size+1) scope.names []).lookup y.1).isSome=true):=fun ⟨n,v⟩ hy=>by
  rcases S.par n (List.of_mem_zip hy).1 with q|q
  ·exact .inl q
  ·exact .inr ⟨q,PySem.W.cellsFrom_some _ _ _ (.inl q)⟩
 refine codeAny_call_function hr.depth (KX _ _ lk) rfl S.co S.gen rfl (PySem.W.codeRec_of KX hcd) (hb _ _ _ _ ?_);refine wpAny_newFunctionEnv_cells S.kind hkind fun env he s1 x=> ?_;subst he;refine ⟨lim.keeps x.toInCall.keep,codeAny_func ?_⟩;obtain ⟨t,ht,hq⟩:=hbody A outer s H vs Q E (hr.deeper _) hsp;have I:Inv (qO CX P w K mg base N qual scope f cdv A outer s H E) [] (start N vs) H s1:=Pn S hr.hd e0 hl r x;refine wpAny_mono (ht [] s1 (start N vs) H _ I hq) (fun fl s' hs=> ?_) fun e s' hs=>hs
 have fin:∀{σ':St} {H':Hp} {v:V} {u:Value},Inv (qO CX P w K mg base N qual scope f cdv A outer s H E) [] σ' H' s'->RelV v u->Q v H'->CE outer P w H s Q u s':=
  fun {σ' H' v u} J rv q=>⟨v,H',J.os,J.bare,J.base,J.hok,rv,q⟩
 cases fl with
 | ret u=>
   obtain ⟨v,σ',H',J,rv,q⟩:=hs;exact fin J rv q
 | next=>
   obtain ⟨σ',H',J,q⟩:=hs;exact fin (v:=V.non) (u:=Value.none) J rfl q
 | brk=>
   obtain ⟨_,_,_,q⟩:=hs;exact False.elim q
 | cont=>
   obtain ⟨_,_,_,q⟩:=hs;exact False.elim q
end L2
namespace L2
open PySem PySem.Spec PyProof.Rows
section
variable {X:Cx} {x:Str} {p pos:Pos} {e:Expr} {es:List Expr} {t:TA} {id T:String} {r:List V->Hp->VK->Prop}
def tCB (r:List V->Hp->VK->Prop) (t:TA):TE:=fun σ H Q=>t σ H fun vs H1=>r vs H1 Q
theorem aX (hc:jZ X (.builtin id) r) (hg:Gl X x) (hm:X.mg x=none) (hv:bootBuiltins x=some (.builtin id)) (ha:PA X (e::es) t) (hn:x ≠ "__name__" :=by decide) (hdb:(x==("__debug__" :Str))=false:=by decide)
 (he:starEach (e::es) X.env=(false,eval e X.env)::starEach es X.env:=by rfl) (hpl:(backTo pos (starEach es X.env)).any (·.1)=false:=by rfl):PE X (.Call (.Name x p) (e::es) [] pos) (tCB r t):=by
 intro pins s σ H Q I h;refine wpAny_Call_Name_kw (vm I hg hm hv ?_ hn hdb);exact PyProof.Rows.callWith_builtin1 (d9 (ha pos pins s σ H _ I h) fun us s1 ⟨vs,H1,I1,r1,q1⟩=>hc pins s1 σ H1 vs us Q I1 r1 q1) he hpl
theorem cR (hc:jZ X (.type T) r) (hg:Gl X x) (hm:X.mg x=none) (hv:bootBuiltins x=some (.type T)) (ha:PA X (e::es) t) (hn:x ≠ "__name__" :=by decide) (hdb:(x==("__debug__" :Str))=false:=by decide)
 (he:starEach (e::es) X.env=(false,eval e X.env)::starEach es X.env:=by rfl) (hpl:(backTo pos (starEach es X.env)).any (·.1)=false:=by rfl):PE X (.Call (.Name x p) (e::es) [] pos) (tCB r t):=by
 intro pins s σ H Q I h;refine wpAny_Call_Name_kw (vm I hg hm hv ?_ hn hdb);exact PyProof.Rows.callWith_type1 (d9 (ha pos pins s σ H _ I h) fun us s1 ⟨vs,H1,I1,r1,q1⟩=>hc pins s1 σ H1 vs us Q I1 r1 q1) he hpl
end
end L2
namespace HT
open PySem PyProof.Rows
section
open PySem.SeqAt
open PySem.AutoSeq1 (wpAny_loadPart')
open PySem.MeetsSeq PySem.MeetsSeq2 PySem.MeetsSeq3
end
section
variable {prog:Program} {w:World} {A:Around} {E:Value->Shared->Prop} {s:Shared}
theorem Xh {t b:Addr} {vs ws:List Value} {Q:Value->Shared->Prop} (ht:IsTup s.heap t vs.toArray) (hb:IsTup s.heap b ws.toArray) (hv:vs≠[])
 (h1:ws=[]->Q (.ref t) s) (h2:ws≠[]->Q (.ref s.heap.objs.size) {s with heap:=s.heap.push {cls:= .type "tuple",data:= .seq (vs++ws).toArray}})
 (hsz:vs.length+ws.length<=sizeLine):wpAny (model prog w) A (binaryOp .Add (.ref t) (.ref b)) Q E s:=by
 obtain ⟨⟨cls,dd,data,sl⟩,ho,hc,n,hd⟩:=id ht;obtain ⟨⟨cls2,dd2,data2,sl2⟩,ho2,hc2,n2,hd2⟩:=id hb;simp only at hc hd hc2 hd2;subst hc hd hc2 hd2;have e:vs.toArray++ws.toArray=(vs++ws).toArray:=by simp
 by_cases hw:ws=[]
 ·exact concat_meets ⟨_,ho,rfl⟩ ⟨_,ho2,rfl⟩ noFill_tuple_add seq_tuple_add PySem.F.slot_tuple_add PySem.F.entry_tuple_add (PySem.F.args_tuple_add_2 _ _)
   (tuple_addW1 t b vs.toArray ws.toArray n n2 dd dd2 sl sl2 (by simpa using hv) (by simp [hw])) ⟨ho,ho2,h1 hw⟩
 ·refine concat_meets ⟨_,ho,rfl⟩ ⟨_,ho2,rfl⟩ noFill_tuple_add seq_tuple_add PySem.F.slot_tuple_add PySem.F.entry_tuple_add (PySem.F.args_tuple_add_2 _ _)
   (tuple_addW2 t b vs.toArray ws.toArray n n2 dd dd2 sl sl2 (by simpa using hv) (by simpa using hw) (by rw [List.size_toArray,List.size_toArray];exact hsz)) ⟨ho,ho2, ?_⟩
  rw [e];exact h2 hw
def jW (n d:Nat):Option Int->Nat
 | none=>d
 | some v=>if v<0 then (v+(n:Int)).toNat else min v.toNat n
theorem Bh (n d:Nat):jW n d none=d:=rfl
theorem Ga (n d k:Nat):jW n d (some (k:Int))=min k n:=by
 show (if (k:Int)<0 then ((k:Int)+(n:Int)).toNat else min (k:Int).toNat n)=min k n;rw [if_neg (by omega),Int.toNat_natCast]
theorem Zn (n d:Nat) (hd:d<=n) (o:Option Int):jW n d o<=n:=by
 cases o with
 | none=>exact hd
 | some v=>
   show (if v<0 then (v+(n:Int)).toNat else min v.toNat n)<=n
   by_cases hv:v<0
   ·rw [if_pos hv];omega
   ·rw [if_neg hv];exact Nat.min_le_right _ _
theorem Nh (v:Int) (n d:Nat):(if v<0 then max (v+(n:Int)) 0 else min v (n:Int))=((jW n d (some v):Nat):Int):=by
 show (if v<0 then max (v+(n:Int)) 0 else min v (n:Int))=(((if v<0 then (v+(n:Int)).toNat else min v.toNat n):Nat):Int)
 by_cases hv:v<0
 ·simp only [if_pos hv];omega
 ·simp only [if_neg hv];omega
theorem Lp (lo hi:Option Int) (n:Nat):Builtin.Slice.sliceAdjust lo hi 1 (n:Int)=(((jW n 0 lo:Nat):Int),((jW n n hi:Nat):Int)):=by
 have h1:¬((1:Int)<0):=by omega
 unfold Builtin.Slice.sliceAdjust;simp only [h1,if_false];refine Prod.ext ?_ ?_
 ·cases lo with
  | none=>rfl
  | some v=>exact Nh v n 0
 ·cases hi with
  | none=>rfl
  | some v=>exact Nh v n n
theorem Kq (i j:Nat):Builtin.Slice.slicePlaces (i:Int) (j:Int) 1=j - i:=by
 unfold Builtin.Slice.slicePlaces;have h1:(1:Int)>0:=by omega
 simp only [h1,if_true,Int.ediv_one];split<;>omega
theorem Ay {v:Value} {o:Option Int} {Q:Option Int->Shared->Prop} (p:IsPart v o) (h:Q o s):wpAny (model prog w) A (Builtin.Slice.slicePartIndex v) Q E s:=by
 cases p with
 | none=>exact slicePart_none h
 | int i t=>exact slicePart_int h
theorem yq {sl:Addr} {vl vu:Value} {lo hi:Option Int} {n:Nat} {Q:Int×Int×Nat->Shared->Prop} (hs:s.heap.IsSliceOf sl vl vu .none) (pl:IsPart vl lo) (pu:IsPart vu hi)
 (h:Q (((jW n 0 lo:Nat):Int),1,jW n n hi - jW n 0 lo) s):wpAny (model prog w) A (Builtin.Slice.sliceApplied (.ref sl) (pure (n:Int))) Q E s:=by
 obtain ⟨os,hos,hcs,hds⟩:=id hs;unfold Builtin.Slice.sliceApplied Builtin.Slice.sliceFields;refine wpAny_bind (wpAny_bind (wpAny_field hos hds (x:=vl) rfl (wpAny_bind (wpAny_field hos hds (x:=vu) rfl (wpAny_bind (wpAny_field hos hds (x:= .none) rfl (wpAny_pure ?_)))))));refine wpAny_bind (slicePart_none ?_);show wpAny _ _ (if ((1:Int)==0)=true then _ else _) _ _ s;rw [if_neg (by decide)];refine wpAny_bind (Ay pl (wpAny_bind (Ay pu (wpAny_bind (wpAny_pure ?_)))));show wpAny _ _ (match Builtin.Slice.sliceAdjust lo hi 1 (n:Int) with |(lo,hi)=>pure (lo,(1:Int),Builtin.Slice.slicePlaces lo hi 1)) _ _ s;rw [Lp lo hi n];show wpAny _ _ (pure (((jW n 0 lo:Nat):Int),(1:Int),Builtin.Slice.slicePlaces ((jW n 0 lo:Nat):Int) ((jW n n hi:Nat):Int) 1)) _ _ s;rw [Kq];exact wpAny_pure h
theorem Rx (xs:Array Value) (i k:Nat):((List.range k).filterMap fun (m:Nat)=>xs[((i:Int)+(m:Int)*1).toNat]?).toArray=((xs.toList.drop i).take k).toArray:=by
 have e:(fun (m:Nat)=>xs[((i:Int)+(m:Int)*1).toNat]?)=fun m=>xs[i+m]? :=by
  funext m;have:((i:Int)+(m:Int)*1).toNat=i+m:=by omega
  rw [this]
 rw [e];have:=pick_run xs i k;rw [List.filterMap_map] at this;have e2:((fun x=>xs[x]?)∘fun x=>i+x)=fun m=>xs[i+m]? :=rfl;rw [e2] at this;rw [this]
theorem wN {t sl:Addr} {items:Array Value} {vl vu:Value} {lo hi:Option Int} {Q:Value->Shared->Prop} (ht:IsTup s.heap t items) (hs:s.heap.IsSliceOf sl vl vu .none) (pl:IsPart vl lo) (pu:IsPart vu hi)
 (hw:¬(jW items.size 0 lo=0/\jW items.size items.size hi=items.size))
 (h:Q (.ref s.heap.objs.size) {s with heap:=s.heap.push {cls:= .type "tuple",data:= .seq ((items.toList.drop (jW items.size 0 lo)).take (jW items.size items.size hi - jW items.size 0 lo)).toArray}})
 (hsz:items.size<=sizeLine):wpAny (model prog w) A (getItem (.ref t) (.ref sl)) Q E s:=by
 have MP:sizeOk (.seq ((items.toList.drop (jW items.size 0 lo)).take (jW items.size items.size hi - jW items.size 0 lo)).toArray):=by
  show ((items.toList.drop (jW items.size 0 lo)).take (jW items.size items.size hi - jW items.size 0 lo)).toArray.size<=sizeLine;rw [List.size_toArray,List.length_take,List.length_drop,Array.length_toList];omega
 have hj:jW items.size items.size hi<=items.size:=Zn _ _ (Nat.le_refl _) hi;obtain ⟨os,hos,hcs,hds⟩:=id hs;have hTs:s.TypeIs (.ref sl) "slice" :=⟨os,hos,hcs⟩;unfold getItem
 try with_reducible refine wpAny_holding ?_
 first |refine wpAny_bind (wpAny_pure ?_)|skip
 refine wpAny_bind (wpAny_sequenceKey ht.typeIs (by decide) ?_)
 refine wpAny_bind (wpAny_callSpecial?_slot (name:=Str.ofString "__getitem__") ht.typeIs PyProof.Rows.slot_tuple_getitem
  (wpAny_call_entry PyProof.Rows.slot_tuple_getitem ht.typeIs entry_tuple_getitem ?_ (args_tuple_getitem _ _)))
 show wpAny _ _ (Builtin.Tuple.tupleItemsOf (.ref t) >>= _) _ _ s;refine wpAny_bind (tupleItemsOf_ ht ?_);refine wpAny_bind (wpAny_typeOf hTs ?_);rw [if_pos (by decide)];refine wpAny_bind (yq hs pl pu ?_)
 have hno:¬((((jW items.size 0 lo:Nat):Int)==0&&(1:Int)==1&&(jW items.size items.size hi - jW items.size 0 lo)==items.size)=true):=by
  intro q;rw [Bool.and_eq_true,Bool.and_eq_true] at q;have q1:((jW items.size 0 lo:Nat):Int)=0:=eq_of_beq q.1.1;have q2:jW items.size items.size hi - jW items.size 0 lo=items.size:=eq_of_beq q.2;exact hw ⟨by omega,by omega⟩
 show wpAny _ _ (if (((jW items.size 0 lo:Nat):Int)==0&&(1:Int)==1&&(jW items.size items.size hi - jW items.size 0 lo)==items.size)=true then _ else _) _ _ s;rw [if_neg hno,Rx]
 first
  | exact wpAny_bind (m:=Builtin.Tuple.tupleExact _) (wpAny_newObj_type (wpAny_pure ⟨_,rfl,wpAny_pure h⟩) MP)
  | exact wpAny_bind (m:=Builtin.Tuple.tupleExact _) (wpAny_newObj_type (wpAny_bind (wpAny_pure (wpAny_pure ⟨_,rfl,wpAny_pure h⟩))) MP)
  | exact wpAny_bind (wpAny_bind (m:=Builtin.Tuple.tupleExact _) (wpAny_newObj_type (wpAny_pure (wpAny_pure ⟨_,rfl,wpAny_pure h⟩)) MP))
  | exact wpAny_bind (wpAny_bind (m:=Builtin.Tuple.tupleExact _) (wpAny_newObj_type (wpAny_pure ⟨_,rfl,wpAny_pure h⟩) MP))
end
end HT
namespace L2
open PySem PySem.Spec PyProof.Rows
abbrev TO:=St->Hp->(Option Int->Hp->Prop)->Prop
def PO (X:Cx) (e:Option Expr) (t:TO):Prop:=
 ∀(pins:List (Addr×Obj)) (s:Shared) (σ:St) (H:Hp) (Q:Option Int->Hp->Prop),Inv X pins σ H s->t σ H Q ->
  wpAny (model X.prog X.w) X.A (evalPart e X.env) (fun u s'=>∃o H',Inv X pins σ H' s'/\IsPart u o/\Q o H') X.xe s
def Vr:TO:=fun _ H Q=>Q none H
def abN (t:TE):TO:=fun σ H Q=>t σ H fun x H1=>∃i,x = .int i/\Q (some i) H1
section
variable {X:Cx} {e:Expr} {te:TE} {lo hi:Option Expr} {tl th:TO} {pos p2:Pos}
theorem tV:PO X none Vr:=by
 intro pins s σ H Q I h;rw [evalPart_none];exact wpAny_pure ⟨none,H,I,.none,h⟩
theorem tU (h:PE X e te):PO X (some e) (abN te):=by
 intro pins s σ H Q I hw;rw [evalPart_some];refine d9 (h pins s σ H _ I hw) fun u s1 ⟨x,H1,I1,r1,q1⟩=> ?_;obtain ⟨i,rfl,q⟩:=q1;obtain ⟨t,rfl⟩:=r1;exact ⟨some i,H1,I1,.int i t,q⟩
def SlR (X:Cx) (r:V->Option Int->Option Int->Hp->VK->Prop):Prop:=
 ∀(pins:List (Addr×Obj)) (s:Shared) (σ:St) (H:Hp) (x:V) (v vl vu:Value) (lo hi:Option Int) (sl:Addr) (Q:VK),Inv X pins σ H s->RelV x v->s.heap.IsSliceOf sl vl vu .none->IsPart vl lo->IsPart vu hi->r x lo hi H Q ->
  ∃T id,typeLookup (.type T) "__getitem__" = pure (some (.builtin id))/\s.TypeIs v T/\wpAny (model X.prog X.w) X.A (getItem v (.ref sl)) (EP X pins σ Q) X.xe s
def tSl (r:V->Option Int->Option Int->Hp->VK->Prop) (te:TE) (tl th:TO):TE:=fun σ H Q=>te σ H fun x H1=>tl σ H1 fun l H2=>th σ H2 fun u H3=>r x l u H3 Q
theorem pH {r:V->Option Int->Option Int->Hp->VK->Prop} (hr:SlR X r) (he:PE X e te) (hl:PO X lo tl) (hu:PO X hi th):PE X (.Subscript e (.Slice lo hi none p2) pos) (tSl r te tl th):=by
 intro pins s σ H Q I h;refine Subscript_ (d9 (he pins s σ H _ I h) fun v s1 ⟨x,H1,I1,r1,q1⟩=> ?_);refine wpAny_Slice (d9 (hl pins s1 σ H1 _ I1 q1) fun vl s2 ⟨l,H2,I2,pl,q2⟩=>d9 (hu pins s2 σ H2 _ I2 q2) fun vu s3 ⟨u,H3,I3,pu,q3⟩=> ?_);rw [evalPart_none];refine wpAny_pure ?_;have I4:Inv X pins σ H3 {s3 with heap:=s3.heap.push {cls:= .type "slice",data:= .fields #[vl,vu,.none]}}:=I3.kept (t':=s3.toks) fun b ob q=>Heap.get?_push_of_some _ q;obtain ⟨T,id,hT,ht,hg⟩:=hr pins {s3 with heap:=s3.heap.push {cls:= .type "slice",data:= .fields #[vl,vu,.none]}} σ H3 x v vl vu l u s3.heap.objs.size Q I4 r1 (Heap.IsSliceOf.new ..) pl pu q3;show wpAny (model X.prog X.w) X.A (subscriptTail e (.Slice lo hi none p2) v (.ref s3.heap.objs.size)) (EP X pins σ Q) X.xe {s3 with heap:=s3.heap.push {cls:= .type "slice",data:= .fields #[vl,vu,.none]}};exact tail_any (ops:=[.ref s3.heap.objs.size,v]) ht hT hg (by with_unfolding_all rfl)
def sI (xs:List V) (lo hi:Option Int):List V:=(xs.drop (HT.jW xs.length 0 lo)).take (HT.jW xs.length xs.length hi - HT.jW xs.length 0 lo)
theorem zq (xs:List V) (lo hi:Option Int):(sI xs lo hi).length<=xs.length:=by
 unfold sI;rw [List.length_take,List.length_drop];omega
def ab4 (K:PySem.W.Frag):V->Option Int->Option Int->Hp->VK->Prop:=fun x lo hi H Q=>∃a xs,x = .ref a/\cQ K H a xs /\
 ¬(HT.jW xs.length 0 lo=0/\HT.jW xs.length xs.length hi=xs.length) /\ ∀p,H p=none->Q (.ref p) (upd H p (.tup (sI xs lo hi)))
theorem Zi:SlR X (ab4 X.K):=by
 intro pins s σ H x v vl vu lo hi sl Q I rx hs pl pu h;obtain ⟨a,xs,rfl,hx,hw,q⟩:=h;cases rx;obtain ⟨its,r,ht,hz⟩:=I.tuple hx;have hlen:its.toArray.size=xs.length:=by rw [List.size_toArray];exact r.length.symm
 refine ⟨"tuple",_,PyProof.Rows.slot_tuple_getitem.lookup,ht.typeIs, ?_⟩;refine HT.wN ht hs pl pu (by rw [hlen];exact hw) ?_ (by rw [hlen];exact hz);rw [hlen];refine ⟨.ref s.heap.objs.size,_,I.laid (t':=s.toks) (o:= .tup (sI xs lo hi)) (fun b ob q=>Heap.get?_push_of_some _ q) (Nat.le_refl _) ?_,rfl,q _ (I.hok.fresh (Nat.le_refl _))⟩;exact ⟨Nat.le_trans (zq xs lo hi) hz,_,(r.drop (HT.jW xs.length 0 lo)).take (HT.jW xs.length xs.length hi - HT.jW xs.length 0 lo),IsTup.new _ _⟩
theorem Vals.Mx {xs:List V} {us:List Value} (r:Vals xs us):us=[]↔xs=[]:=by
 cases r with
 | nil=>simp
 | cons _ _=>simp
end
end L2
namespace L2
open PySem PySem.Spec PyProof.Rows
def JT (n:Nat) (i:Int):Option Nat:=if 0<=i then (if i<n then some i.toNat else none) else if -(n:Int)<=i then some (i+n).toNat else none
def Np {α:Type} (xs:List α) (i:Int):Option α:=(JT xs.length i).bind fun j=>xs[j]?
theorem MK {n:Nat} {i:Int} {j:Nat} (h:JT n i=some j):seqIndex? i n=some j/\j<n /\ -(n:Int)<=i/\i<n:=by
 unfold JT at h
 by_cases h0:0<=i
 ·rw [if_pos h0] at h
  by_cases h1:i<n
  ·rw [if_pos h1] at h
   have e:i.toNat=j:=Option.some.inj h;exact ⟨by rw [seqIndex_of h0 h1,e],by omega,by omega,h1⟩
  ·rw [if_neg h1] at h;cases h
 ·rw [if_neg h0] at h
  by_cases h1: -(n:Int)<=i
  ·rw [if_pos h1] at h
   have e:(i+n).toNat=j:=Option.some.inj h;exact ⟨by rw [seqIndex_neg (by omega) h1,e],by omega,h1,by omega⟩
  ·rw [if_neg h1] at h;cases h
theorem Nm {α:Type} {xs:List α} {i:Int} {v:α} (h:Np xs i=some v):∃j,seqIndex? i xs.length=some j/\xs[j]? = some v/\j<xs.length /\ -(xs.length:Int)<=i/\i<xs.length:=by
 unfold Np at h;cases e:JT xs.length i with
 | none=>rw [e] at h;cases h
 | some j=>
   rw [e] at h;obtain ⟨h1,h2,h3,h4⟩:=MK e;exact ⟨j,h1,h,h2,h3,h4⟩
theorem gP {α:Type} {xs:List α} {j:Nat} {v:α} (h:xs[j]? = some v):Np xs (j:Int)=some v:=by
 have hj:j<xs.length:=(List.getElem?_eq_some_iff.mp h).1
 have e:JT xs.length (j:Int)=some j:=by
  unfold JT;rw [if_pos (by omega),if_pos (by omega)];simp
 unfold Np;rw [e];exact h
def Xq (b:Expr):Prop:=∀o i,subscripted b false o i=operate [o,i] (getItem o i)
def IxR (X:Cx) (r:R2):Prop:=
 ∀(value slice:Expr) (pins:List (Addr×Obj)) (s:Shared) (σ:St) (H:Hp) (x y:V) (v u:Value) (Q:VK),Inv X pins σ H s->RelV x v->RelV y u->r x y H Q ->
  subscripted slice false v u=operate [v,u] (getItem v u)->wpAny (model X.prog X.w) X.A (subscriptTail value slice v u) (EP X pins σ Q) X.xe s
def MtR (X:Cx) (id:String) (r:V->List V->Hp->VK->Prop):Prop:=
 ∀(pins:List (Addr×Obj)) (s:Shared) (σ:St) (H:Hp) (x:V) (xs:List V) (v:Value) (us:List Value) (Q:VK),Inv X pins σ H s->RelV x v->Vals xs us->r x xs H Q ->
  wpAny (model X.prog X.w) X.A (call (.builtin id) (v::us)) (EP X pins σ Q) X.xe s
section
variable {X:Cx} {a b:Expr} {ta tb:TE} {pos:Pos}
theorem aY {r:R2} (hr:IxR X r) (ha:PE X a ta) (hb:PE X b tb) (hs:Xq b):PE X (.Subscript a b pos) (tOp r ta tb):=by
 intro pins s σ H Q I h;exact Subscript_ (aaO ha hb I h fun v u s2 x y H2 I2 rx ry q=>hr a b pins s2 σ H2 x y v u Q I2 rx ry q (hs _ _))
def ab_ (K:PySem.W.Frag):R2:=fun x y H Q=>∃p xs i v,x = .ref p/\y = .int i/\bL K H p xs/\Np xs i=some v/\Q v H
def ab9 (K:PySem.W.Frag):R2:=fun x y H Q=>∃p xs i v,x = .ref p/\y = .int i/\cQ K H p xs/\Np xs i=some v/\Q v H
theorem Wy:IxR X (ab_ X.K):=by
 intro value slice pins s σ H x y v u Q I rx ry h hs;obtain ⟨p,xs,i,z,rfl,rfl,hq,he,q⟩:=h;cases rx;obtain ⟨t,rfl⟩:=ry;obtain ⟨its,r,pl,hz⟩:=I.list hq;obtain ⟨j,h1,h2,h3,h4,h5⟩:=Nm he;obtain ⟨w,ew,rw'⟩:=r.get h2;have hl:=r.length;have hn:=yF;have fin:EP X pins σ Q w s:=⟨z,H,I,rw',q⟩
 by_cases h0:0<=i
 ·have hj:i.toNat=j:=by
   rw [seqIndex_of h0 h5] at h1;exact Option.some.inj h1
  exact item_listR pl.isList h0 (by omega) (by rw [hj];simpa using ew) fin hs
 ·have hj:(i+(its.toArray.size:Int)).toNat=j:=by
   rw [seqIndex_neg (by omega) h4] at h1;rw [List.size_toArray,←hl];exact Option.some.inj h1
  exact subscriptTail_builtinR (x:=w) pl.isList.typeIs slot_list_getitem.lookup
   (wpAny_getItem_list_neg (Q:=fun r s'=>r=w/\EP X pins σ Q r s') pl.isList (by omega) (by rw [List.size_toArray]<;>omega) (by omega) (by rw [hj];simpa using ew) ⟨rfl,fin⟩) hs
theorem aaj:IxR X (ab9 X.K):=by
 intro value slice pins s σ H x y v u Q I rx ry h hs;obtain ⟨p,xs,i,z,rfl,rfl,hq,he,q⟩:=h;cases rx;obtain ⟨t,rfl⟩:=ry;obtain ⟨its,r,pl,hz⟩:=I.tuple hq;obtain ⟨j,h1,h2,h3,h4,h5⟩:=Nm he;obtain ⟨w,ew,rw'⟩:=r.get h2;have hl:=r.length;have hn:=yF;have fin:EP X pins σ Q w s:=⟨z,H,I,rw',q⟩
 exact subscriptTail_builtinR (x:=w) pl.typeIs slot_tuple_getitem.lookup
  (getItem_tuple (j:=j) (Q:=fun r s'=>r=w/\EP X pins σ Q r s') pl (by omega) (by omega) (by rw [List.size_toArray,←hl];exact h1) (by simpa using ew) ⟨rfl,fin⟩) hs
theorem KY (its:List Value) (n j:Nat) (u:Value):Obj.mapSeq (·.setIfInBounds j u) {cls:= .type "list",data:= .seq its.toArray n}={cls:= .type "list",data:= .seq (its.set j u).toArray n}:=by
 simp [Obj.mapSeq]
theorem Inv.lst {pins:List (Addr×Obj)} {σ:St} {H:Hp} {s:Shared} {p:Addr} {xs:List V} (I:Inv X pins σ H s) (h:H p=some (.lst xs)):
 ∃(its:List Value) (n:Nat),Vals xs its/\s.heap.get? p=some {cls:= .type "list",data:= .seq its.toArray n}/\xs.length<=sizeLine:=by
 obtain ⟨z,its,n,r,e⟩:=I.hok p _ h;exact ⟨its,n,r,e,z⟩
theorem Inv.Z_ {pins:List (Addr×Obj)} {σ:St} {H:Hp} {s:Shared} {p:Addr} {xs ys:List V} {its its':List Value} {n n':Nat} {f:Obj->Obj} (I:Inv X pins σ H s) (h:H p=some (.lst xs))
 (ho:s.heap.get? p=some {cls:= .type "list",data:= .seq its.toArray n}) (hf:f {cls:= .type "list",data:= .seq its.toArray n}={cls:= .type "list",data:= .seq its'.toArray n'}) (r:Vals ys its') (hz:ys.length<=sizeLine) (t:Nat):
 Inv X pins σ (upd H p (.lst ys)) {s with heap:=s.heap.update p f,toks:=t}:=by
 have e:(s.heap.update p f).get? p=some {cls:= .type "list",data:= .seq its'.toArray n'}:=by
  rw [Heap.get?_update_self f ho (by rw [hf]<;>rfl),hf]
 refine I.write (x:=p) (e:=p) (by rw [h];trivial) (.inl rfl) (fun b u hb q=>(Heap.get?_update_other _ _ (Ne.symm hb)).trans q) ⟨_,e⟩ ?_;exact ⟨hz,its',n',r,e⟩
def ab6:V->V->V->Hp->(Hp->Prop)->Prop:=fun o i v H Q=>∃p xs k j,o = .ref p/\i = .int k/\H p=some (.lst xs)/\JT xs.length k=some j/\Q (upd H p (.lst (xs.set j v)))
theorem set_list:aaV X ab6:=by
 intro pins s σ H o i v ov iv u Q I ro ri rv h;obtain ⟨p,xs,k,j,rfl,rfl,hp,hj,q⟩:=h;cases ro;obtain ⟨t,rfl⟩:=ri;obtain ⟨its,n,r,ho,hz⟩:=I.lst hp;obtain ⟨h1,h2,h3,h4⟩:=MK hj;have hl:=r.length;have hn:=yF
 have I':Inv X pins σ (upd H p (.lst (xs.set j v))) {s with heap:=s.heap.update p (Obj.mapSeq (·.setIfInBounds j u))}:=
  I.Z_ hp ho (KY its n j u) (r.set rv j) (by rw [List.length_set];exact hz) s.toks
 by_cases h0:0<=k
 ·have hk:k.toNat=j:=by
   rw [seqIndex_of h0 h4] at h1;exact Option.some.inj h1
  exact PySem.W.ki_setAt ho h0 (by omega) (by rw [List.size_toArray,←hl];exact h4) (by rw [hk];exact ⟨_,I',q⟩)
 ·have hk:(k+(its.toArray.size:Int)).toNat=j:=by
   rw [seqIndex_neg (by omega) h3] at h1;rw [List.size_toArray,←hl];exact Option.some.inj h1
  exact PySem.W.ki_setBack ho (by omega) (by rw [List.size_toArray,←hl];exact h3) (by omega) (by rw [hk];exact ⟨_,I',q⟩)
theorem FP (lo hi:Option Int) (n:Nat):(sliceBounds lo hi none n).1=((HT.jW n 0 lo:Nat):Int)/\(sliceBounds lo hi none n).2.1=((HT.jW n n hi:Nat):Int)/\(sliceBounds lo hi none n).2.2=1:=by
 refine ⟨?_, ?_,rfl⟩
 ·cases lo with
  | none=>simp [sliceBounds,HT.jW]
  | some i=>
    simp only [sliceBounds,HT.jW,Option.getD_none,show (1:Int)>0 by decide,if_true]
    by_cases h:i<0
    ·simp only [h,if_true]<;>omega
    ·simp only [h,if_false]<;>omega
 ·cases hi with
  | none=>simp [sliceBounds,HT.jW]
  | some i=>
    simp only [sliceBounds,HT.jW,Option.getD_none,show (1:Int)>0 by decide,if_true]
    by_cases h:i<0
    ·simp only [h,if_true]<;>omega
    ·simp only [h,if_false]<;>omega
theorem Dg (its:List Value) (lo hi:Option Int):slicePick its.toArray lo hi none=((its.drop (HT.jW its.length 0 lo)).take (HT.jW its.length its.length hi - HT.jW its.length 0 lo)).toArray:=by
 obtain ⟨h1,h2,h3⟩:=FP lo hi its.toArray.size;unfold slicePick;rw [h1,h2,h3];simp only [sliceRange_one,pick_run,List.size_toArray]<;>rfl
def ab5 (K:PySem.W.Frag):V->Option Int->Option Int->Hp->VK->Prop:=fun x lo hi H Q=>∃a xs,x = .ref a/\bL K H a xs /\ ∀p,H p=none->Q (.ref p) (upd H p (.lst (sI xs lo hi)))
theorem Vx:SlR X (ab5 X.K):=by
 intro pins s σ H x v vl vu lo hi sl Q I rx hs pl pu h;obtain ⟨a,xs,rfl,hx,q⟩:=h;cases rx;obtain ⟨its,r,ht,hz⟩:=I.list hx;have hlen:=r.length;refine ⟨"list",_,slot_list_getitem.lookup,ht.isList.typeIs, ?_⟩;refine wpAny_getItem_list_slice ht.isList hs pl pu .none (by simp) ?_ (by rw [List.size_toArray]<;>omega);rw [Dg,←hlen];refine ⟨.ref s.heap.objs.size,_,I.laid (t':=s.toks) (o:= .lst (sI xs lo hi)) (fun b ob q=>Heap.get?_push_of_some _ q) (Nat.le_refl _) ?_,rfl,q _ (I.hok.fresh (Nat.le_refl _))⟩;exact ⟨Nat.le_trans (zq xs lo hi) hz,_,0,(r.drop (HT.jW xs.length 0 lo)).take (HT.jW xs.length xs.length hi - HT.jW xs.length 0 lo),Heap.get?_push_size _ rfl⟩
def zj:V->Bool
 | .non=>true
 | .bl _=>true
 | .int _=>true
 | .str _=>true
 | _=>false
def Qs:V->V->Bool
 | .non,.non=>true
 | .bl a,.bl b=>a==b
 | .bl a,.int b=>(if a then 1 else 0)==b
 | .int a,.bl b=>a==(if b then 1 else 0)
 | .int a,.int b=>a==b
 | .str a,.str b=>a==b
 | _,_=>false
theorem aaz {A:Around} {s:Shared} {y x:V} {u v:Value} (ry:RelV y u) (rx:RelV x v) (fy:zj y=true) (fx:zj x=true):SeqAt.EqAt A s u v (Qs y x):=by
 cases y with
 | non=>
   cases ry;cases x with
   | non=>cases rx;exact SeqAt.EqAt.same _
   | bl b=>cases rx;exact SeqAt.EqAt.none_bool b
   | int b=>obtain ⟨t,rfl⟩:=rx;exact SeqAt.EqAt.none_int b t
   | str b=>obtain ⟨t,rfl⟩:=rx;exact SeqAt.EqAt.none_str b t
   | _=>exact absurd (show false=true from fx) Bool.false_ne_true
 | bl a=>
   cases ry;cases x with
   | non=>cases rx;exact SeqAt.EqAt.bool_none a
   | bl b=>cases rx;exact SeqAt.EqAt.bool_bool a b
   | int b=>obtain ⟨t,rfl⟩:=rx;exact SeqAt.EqAt.bool_int a b t
   | str b=>obtain ⟨t,rfl⟩:=rx;exact SeqAt.EqAt.bool_str a b t
   | _=>exact absurd (show false=true from fx) Bool.false_ne_true
 | int a=>
   obtain ⟨t',rfl⟩:=ry;cases x with
   | non=>cases rx;exact SeqAt.EqAt.int_none a t'
   | bl b=>cases rx;exact SeqAt.EqAt.int_bool a t' b
   | int b=>obtain ⟨t,rfl⟩:=rx;exact SeqAt.EqAt.int_int a t' b t
   | str b=>obtain ⟨t,rfl⟩:=rx;exact SeqAt.EqAt.int_str a t' b t
   | _=>exact absurd (show false=true from fx) Bool.false_ne_true
 | str a=>
   obtain ⟨t',rfl⟩:=ry;cases x with
   | non=>cases rx;exact SeqAt.EqAt.str_none a t'
   | bl b=>cases rx;exact SeqAt.EqAt.str_bool a t' b
   | int b=>obtain ⟨t,rfl⟩:=rx;exact SeqAt.EqAt.str_int a t' b t
   | str b=>obtain ⟨t,rfl⟩:=rx;exact SeqAt.EqAt.str_str a t' b t
   | _=>exact absurd (show false=true from fx) Bool.false_ne_true
 | _=>exact absurd (show false=true from fy) Bool.false_ne_true
def La (x:V) (u:Value):Bool:=match u with
 | .none=>Qs .non x
 | .bool b=>Qs (.bl b) x
 | .int i _=>Qs (.int i) x
 | .str z _=>Qs (.str z) x
 | _=>false
theorem TX {x y:V} {u:Value} (r:RelV y u) (f:zj y=true):La x u=Qs y x:=by
 cases y with
 | non=>cases r;rfl
 | bl b=>cases r;rfl
 | int i=>obtain ⟨t,rfl⟩:=r;rfl
 | str z=>obtain ⟨t,rfl⟩:=r;rfl
 | _=>exact absurd (show false=true from f) Bool.false_ne_true
theorem wY {x:V}:∀{xs:List V} {us:List Value},Vals xs us->xs.all zj=true->us.any (La x)=xs.any fun y=>Qs y x
 | _,_,.nil,_=>rfl
 | y::xs,u::us,.cons r t,f=>by
   rw [List.all_cons,Bool.and_eq_true] at f;rw [List.any_cons,List.any_cons,TX r f.1,wY t f.2]
theorem rY {A:Around} {s:Shared} {x:V} {v:Value} (rx:RelV x v) (fx:zj x=true):∀{xs:List V} {us:List Value},Vals xs us->xs.all zj=true -> ∀u∈us,SeqAt.EqAt A s u v (La x u)
 | _,_,.nil,_=>fun u hu=>by cases hu
 | y::xs,u::us,.cons r t,f=>fun u' hu=>by
   rw [List.all_cons,Bool.and_eq_true] at f;rcases List.mem_cons.mp hu with rfl|hu
   ·rw [TX r f.1];exact aaz r rx f.1 fx
   ·exact rY rx fx t f.2 u' hu
def inV (x:V) (xs:List V):Bool:=xs.any fun y=>Qs y x
def rIn (K:PySem.W.Frag) (neg:Bool):R2:=fun x y H Q=>∃p xs,y = .ref p/\(bL K H p xs\/cQ K H p xs)/\zj x=true/\xs.all zj=true/\Q (.bl (if neg then !inV x xs else inV x xs)) H
theorem Oi:rB X (compareOp .In) (rIn X.K false):=by
 intro pins s σ H x y v u Q I rx ry h;obtain ⟨p,xs,rfl,hq,fx,fs,q⟩:=h;cases ry;rcases hq with hq|hq
 ·obtain ⟨its,r,pl,hz⟩:=I.list hq
  refine SeqAt.in_listAt (La x) pl.isList (fun w hw=>rY rx fx r fs w (by simpa using hw)) ⟨.bl _,H,I,rfl, ?_⟩;rw [show its.toArray.any (La x)=its.any (La x) by simp,wY r fs];exact q
 ·obtain ⟨its,r,pl,hz⟩:=I.tuple hq
  refine SeqAt.in_tupleAt (La x) pl (fun w hw=>rY rx fx r fs w (by simpa using hw)) ⟨.bl _,H,I,rfl, ?_⟩;rw [show its.toArray.any (La x)=its.any (La x) by simp,wY r fs];exact q
theorem Gh:rB X (compareOp .NotIn) (rIn X.K true):=by
 intro pins s σ H x y v u Q I rx ry h;obtain ⟨p,xs,rfl,hq,fx,fs,q⟩:=h;cases ry;rcases hq with hq|hq
 ·obtain ⟨its,r,pl,hz⟩:=I.list hq
  refine SeqAt.notIn_listAt (La x) pl.isList (fun w hw=>rY rx fx r fs w (by simpa using hw)) ⟨.bl _,H,I,rfl, ?_⟩;rw [show its.toArray.any (La x)=its.any (La x) by simp,wY r fs];exact q
 ·obtain ⟨its,r,pl,hz⟩:=I.tuple hq
  refine SeqAt.notIn_tupleAt (La x) pl (fun w hw=>rY rx fx r fs w (by simpa using hw)) ⟨.bl _,H,I,rfl, ?_⟩;rw [show its.toArray.any (La x)=its.any (La x) by simp,wY r fs];exact q
theorem G5:jZ X (.builtin "len") (fun xs H Q=>∃p ys,xs=[.ref p]/\(bL X.K H p ys\/cQ X.K H p ys)/\Q (.int ys.length) H):=by
 intro pins s σ H xs us Q I r h;obtain ⟨p,ys,rfl,hq,q⟩:=h;obtain ⟨u,rfl,rx⟩:=vals1 r;cases rx;have hn:=yF;rcases hq with hq|hq
 ·obtain ⟨its,r',pl,hz⟩:=I.list hq
  have hlen:=r'.length;exact Calls.call_len_list pl.isList (by simp only [List.size_toArray]<;>omega) ⟨.int ys.length,H,I.tok _,⟨s.toks+1,by rw [List.size_toArray,hlen]⟩,q⟩
 ·obtain ⟨its,r',pl,hz⟩:=I.tuple hq
  have hlen:=r'.length;exact len_tuple pl (by simp only [List.size_toArray]<;>omega) ⟨.int ys.length,H,I.tok _,⟨s.toks+1,by rw [List.size_toArray,hlen]⟩,q⟩
theorem G4:jZ X (.type "list") (fun xs H Q=>∃p ys,xs=[.ref p]/\(bL X.K H p ys\/cQ X.K H p ys) /\ ∀l,H l=none->Q (.ref l) (upd H l (.lst ys))):=by
 intro pins s σ H xs us Q I r h;obtain ⟨p,ys,rfl,hq,q⟩:=h;obtain ⟨u,rfl,rx⟩:=vals1 r;cases rx
 have fin:∀(its:List Value),Vals ys its->ys.length<=sizeLine -> ∀(h':Heap) (c':Nat),(∀b o',s.heap.get? b=some o'->h'.get? b=some o') ->
  h'.get? s.heap.objs.size=some {cls:= .type "list",dict:=none,data:= .seq its.toArray c',slots:= #[]}->EP X pins σ Q (.ref s.heap.objs.size) {s with heap:=h'}:=fun its r' hz h' c' kp e=>
  ⟨.ref s.heap.objs.size,_,I.laid (t':=s.toks) kp (Nat.le_refl _) (show dG X.prog X.w _ h' _ (.lst ys) from ⟨hz,its,c',r',e⟩),rfl,q _ (I.hok.fresh (Nat.le_refl _))⟩
 rcases hq with hq|hq
 ·obtain ⟨its,r',pl,hz⟩:=I.list hq
  have hlen:=r'.length;obtain ⟨o,ho,hc,n,hd⟩:=pl.isList;exact call_list_seq p (.inl rfl) ho hc hd (fun h' c' kp e=>fin its r' hz h' c' kp e) (by simp only [List.size_toArray]<;>omega)
 ·obtain ⟨its,r',pl,hz⟩:=I.tuple hq
  have hlen:=r'.length;obtain ⟨o,ho,hc,n,hd⟩:=pl;exact call_list_seq p (.inr rfl) ho hc hd (fun h' c' kp e=>fin its r' hz h' c' kp e) (by simp only [List.size_toArray]<;>omega)
def tyV (K:PySem.W.Frag) (T:String) (x:V) (H:Hp):Prop:=match x with
 | .str _=>T = "str"
 | .int _=>T = "int"
 | .ref p=>(T = "list" /\ ∃xs,bL K H p xs)\/(T = "tuple" /\ ∃o,K.lookup p=some o/\o.cls = .type "tuple" /\ o.dict=none) \/
    (T = "dict" /\ ((∃kvs,H p=some (.dK kvs)) \/ ∃kvs,H p=some (.dT kvs)))\/(T = "set" /\ ∃S n,H p=some (.set S n))
 | _=>False
theorem YL {pins:List (Addr×Obj)} {σ:St} {H:Hp} {s:Shared} {T:String} {x:V} {v:Value} (I:Inv X pins σ H s) (r:RelV x v) (ty:tyV X.K T x H):
 s.TypeIs v T /\ ∀a,v = .ref a -> ∃ob,s.heap.get? a=some ob/\ob.dict=none:=by
 cases x with
 | str z=>
   obtain ⟨t,rfl⟩:=r;cases (show T = "str" from ty);exact ⟨typeIs_str s z t,fun _ e=>nomatch e⟩
 | int i=>
   obtain ⟨t,rfl⟩:=r;cases (show T = "int" from ty);exact ⟨typeIs_int s i t,fun _ e=>nomatch e⟩
 | ref p=>
   cases r;rcases ty with ⟨rfl,xs,hq⟩|⟨rfl,o,hk,hc,hd⟩|⟨rfl,hk⟩|⟨rfl,S,n,hk⟩
   ·obtain ⟨its,_,pl,_⟩:=I.list hq
    refine ⟨pl.isList.typeIs,fun a e=> ?_⟩;cases e;obtain ⟨o,n,e,c,hd,_⟩:=pl;exact ⟨o,e,hd⟩
   ·refine ⟨⟨o,I.qK p o hk,hc⟩,fun a e=> ?_⟩
    cases e;exact ⟨o,I.qK _ o hk,hd⟩
   ·have z:∃o,s.heap.get? p=some o/\o.ExactDict:=by
     rcases hk with ⟨kvs,hk⟩|⟨kvs,hk⟩
     ·obtain ⟨_,_,_,_,o,_,_,e,ex,_⟩:=I.hok p _ hk
      exact ⟨o,e,ex⟩
     ·obtain ⟨_,_,_,_,o,_,_,e,ex,_⟩:=I.hok p _ hk
      exact ⟨o,e,ex⟩
    obtain ⟨o,e,ex⟩:=z;refine ⟨⟨o,e,ex.1⟩,fun a e2=> ?_⟩;cases e2;exact ⟨o,e,ex.2.1⟩
   ·obtain ⟨o,_,_,_,e,ex,_⟩:=I.hok p _ hk
    refine ⟨⟨o,e,ex.1⟩,fun a e2=> ?_⟩;cases e2;exact ⟨o,e,ex.2.1⟩
 | _=>exact False.elim ty
def tBM (K:PySem.W.Frag) (T:String) (r:V->List V->Hp->VK->Prop) (to:TE) (t:TA):TE:=fun σ H Q=>to σ H fun x H1=>tyV K T x H1/\t σ H1 fun xs H2=>r x xs H2 Q
variable {o e:Expr} {es:List Expr} {to:TE} {t:TA} {name:Str} {apos cpos:Pos} {T id:String} {r:V->List V->Hp->VK->Prop}
theorem X8 (pa:PlainAttrs T) (slot:Slot T name id) (hty:typeOf (.builtin id)=pure (.type "method_descriptor")) (hm:MtR X id r) (ho:PE X o to) (ha:PA X (e::es) t)
 (hbase:attributeBase o name X.env (eval o X.env)=eval o X.env:=by rfl)
 (hfew:((backTo cpos (starEach (e::es) X.env)).all (fun x=> !x.1)&&(backToKw cpos (keywordEach [] X.env)).all (fun x=>x.1.isSome)
   && decide ((e::es).length+([]:List Keyword).length+(if ([]:List Keyword).isEmpty then 0 else 1)<30))=true:=by rfl)
 (hline:(apos.endLine==cpos.line)=true:=by rfl) (hs:starEach (e::es) X.env=(false,eval e X.env)::starEach es X.env:=by rfl) (hplain:(backTo cpos (starEach es X.env)).any (·.1)=false:=by rfl):
 PE X (.Call (.Attribute o name apos) (e::es) [] cpos) (tBM X.K T r to t):=by
 intro pins s σ H Q I h;refine wpAny_Call_method_late hbase hfew hline rfl (d9 (ho pins s σ H _ I h) fun v s1 ⟨x,H1,I1,r1,ty,q1⟩=> ?_);obtain ⟨h1,h2⟩:=YL I1 r1 ty;refine ⟨T,id,pa,slot,hty,h1,h2, ?_⟩;have hA:=ha cpos pins s1 σ H1 _ I1 q1;rw [hs] at hA ⊢;refine Calls.callWith_builtin (by show (false||(backTo cpos (starEach es X.env)).any (·.1))=false;rw [hplain]<;>rfl) (Calls.evalArgs_plain ?_);exact d9 hA fun us s2 ⟨vs,H2,I2,r2,q2⟩=>hm pins s2 σ H2 x vs v us Q I2 r1 r2 q2
end
end L2
namespace L2
open PySem PySem.Spec PyProof.Rows
def MtM (X:Cx) (id:String) (r:V->List V->Hp->VK->Prop):Prop:=
 ∀(pins:List (Addr×Obj)) (s:Shared) (σ:St) (H:Hp) (x:V) (xs:List V) (v:Value) (us:List Value) (Q:VK),Inv X pins σ H s->RelV x v->Vals xs us->r x xs H Q ->
  wpAny (model X.prog X.w) X.A (call (.builtin id) (v::us)) (EP X pins σ Q) X.xe s
theorem Vals.one {x:V} {us:List Value} (h:Vals [x] us):∃u,us=[u]/\RelV x u:=by
 cases h with
 | cons r t=>cases t;exact ⟨_,rfl,r⟩
theorem Vals.eraseIdx:∀{xs:List V} {us:List Value} (i:Nat),Vals xs us->Vals (xs.eraseIdx i) (us.eraseIdx i)
 | _,_,_,.nil=> .nil
 | _,_,0,.cons _ t=>t
 | _,_,i+1,.cons r t=> .cons r (Vals.eraseIdx i t)
theorem Vals.rep {xs:List V} {us:List Value} (h:Vals xs us):∀k:Nat,Vals (List.replicate k xs).flatten (List.replicate k us).flatten
 | 0=> .nil
 | k+1=>by
   rw [List.replicate_succ,List.replicate_succ,List.flatten_cons,List.flatten_cons];exact Vals.append h (Vals.rep h k)
theorem Ed {α:Type}:∀(l:List α) (i:Nat),(l.eraseIdx i).length<=l.length
 | [],_=>Nat.le_refl _
 | _::_,0=>Nat.le_succ _
 | _::r,i+1=>Nat.succ_le_succ (Ed r i)
theorem foldl_rep (its:List Value):∀(k:Nat) (acc:List Value),
 List.foldl (fun x1 x2=>x1++x2) acc.toArray (List.replicate k its.toArray)=(acc++(List.replicate k its).flatten).toArray
 | 0,acc=>by simp
 | k+1,acc=>by
   have e:acc.toArray++its.toArray=(acc++its).toArray:=by simp
   have e2:(acc++its)++(List.replicate k its).flatten=acc++(List.replicate (k+1) its).flatten:=by
    rw [List.replicate_succ,List.flatten_cons,List.append_assoc]
   rw [←e2,←foldl_rep its k (acc++its),←e,List.replicate_succ,List.foldl_cons]
section
variable {X:Cx} {pins:List (Addr×Obj)} {σ:St} {H:Hp} {s:Shared} {l b:Addr} {xs ys zs:List V}
theorem Inv.aac {its its':List Value} {n:Nat} {f:Array Value->Array Value} {t':Nat} (I:Inv X pins σ H s) (hH:H l=some (.lst xs))
 (e:s.heap.get? l=some {cls:= .type "list",data:= .seq its.toArray n}) (hf:f its.toArray=its'.toArray) (hv:Vals ys its') (hz:ys.length<=sizeLine):
 Inv X pins σ (upd H l (.lst ys)) {s with heap:=s.heap.update l (Obj.mapSeq f),toks:=t'}:=by
 have q:=PySem.IsL.update e f;rw [hf] at q;refine I.write (x:=l) (e:=l) (by rw [hH];exact trivial) (.inl rfl) (fun b' u hb hu=>(Heap.get?_update_other s.heap (Obj.mapSeq f) (Ne.symm hb)).trans hu) ⟨_,q⟩ ?_;exact ⟨hz,its',_,hv,q⟩
theorem Inv.acB {its:List Value} {t':Nat} (I:Inv X pins σ H s) (hv:Vals ys its) (hz:ys.length<=sizeLine):
 Inv X pins σ (upd H s.heap.objs.size (.lst ys)) {s with heap:=s.heap.push {cls:= .type "list",data:= .seq its.toArray},toks:=t'}:=
 I.laid (fun _ _ q=>Heap.get?_push_of_some _ q) (Nat.le_refl _) ⟨hz,its,0,hv,Heap.get?_push_size _ rfl⟩
theorem Inv.fresh (I:Inv X pins σ H s):H s.heap.objs.size=none:=I.hok.fresh (Nat.le_refl _)
theorem Inv.K3 (I:Inv X pins σ H s) (hH:H l=some (.lst xs)):xs.length<=sizeLine /\ ∃(its:List Value) (n:Nat),Vals xs its/\xs.length=its.length/\s.heap.get? l=some {cls:= .type "list",data:= .seq its.toArray n}:=by
 obtain ⟨z,its,n,r,e⟩:=I.hok l _ hH;exact ⟨z,its,n,r,r.length,e⟩
theorem Ir {n:Nat} (h:n<=sizeLine):Builtin.List.listTooLong n=false:=by
 unfold Builtin.List.listTooLong;exact decide_eq_false (by omega)
end
section
variable {X:Cx}
def Ml:V->List V->Hp->VK->Prop:=fun x vs H Q=>∃l xs y,x = .ref l/\vs=[y]/\H l=some (.lst xs)/\xs.length<sizeLine/\Q .non (upd H l (.lst (xs++[y])))
theorem Ec:MtM X "list.append" Ml:=by
 intro pins s σ H x vs v us Q I rx rv h;obtain ⟨l,xs,y,rfl,rfl,hH,hz,q⟩:=h;cases rx;obtain ⟨u,rfl,ru⟩:=rv.one;obtain ⟨z,its,n,r,hl,e⟩:=I.K3 hH;refine call_meets F.slot_list_append ⟨_,e,rfl⟩ F.entry_list_append (F.args_list_append_2 _ _) (PySem.list_append l its.toArray n u (by rw [List.size_toArray];omega)) ⟨e, ?_⟩;refine ⟨.non,_,I.aac (its':=its++[u]) hH e (by simp) (r.append (.cons ru .nil)) ?_,rfl,q⟩;rw [List.length_append,List.length_singleton];omega
def VN:V->List V->Hp->VK->Prop:=fun x vs H Q=>∃l b xs zs,x = .ref l/\vs=[.ref b]/\H l=some (.lst xs)/\H b=some (.lst zs)/\xs.length+zs.length<=sizeLine/\Q .non (upd H l (.lst (xs++zs)))
theorem OJ:MtM X "list.extend" VN:=by
 intro pins s σ H x vs v us Q I rx rv h;obtain ⟨l,b,xs,zs,rfl,rfl,hH,hB,hz,q⟩:=h;cases rx;obtain ⟨u,rfl,ru⟩:=rv.one;cases ru;obtain ⟨z,its,n,r,hl,e⟩:=I.K3 hH;obtain ⟨z2,its2,n2,r2,hl2,e2⟩:=I.K3 hB;have hsz:its.toArray.size+its2.toArray.size<=sizeLine:=by rw [List.size_toArray,List.size_toArray];omega
 have Tp:¬(!its.toArray.isEmpty&&Builtin.List.listTooLong (its.toArray.size+its2.toArray.size))=true:=by
  rw [Ir hsz,Bool.and_false];exact Bool.false_ne_true
 refine call_meets F.slot_list_extend ⟨_,e,rfl⟩ F.entry_list_extend (F.args_list_extend_2 _ _)
  (AutoSeq1.list_extend_list_list_0 l its.toArray n b its2.toArray n2 Tp (by rw [List.size_toArray];omega) (by omega)) ⟨e,e2, ?_⟩
 refine ⟨.non,_,I.aac (its':=its++its2) hH e (by simp) (r.append r2) ?_,rfl,q⟩;rw [List.length_append];omega
def Zr:V->List V->Hp->VK->Prop:=fun x vs H Q=>∃l xs i k y,x = .ref l/\vs=[.int i]/\H l=some (.lst xs) /\ -(2 ^ 63)<=i/\i<2 ^ 63/\seqIndex? i xs.length=some k/\xs[k]? = some y/\Q y (upd H l (.lst (xs.eraseIdx k)))
theorem SQ:MtM X "list.pop" Zr:=by
 intro pins s σ H x vs v us Q I rx rv h;obtain ⟨l,xs,i,k,y,rfl,rfl,hH,h1,h2,hk,hy,q⟩:=h;cases rx;obtain ⟨u,rfl,ru⟩:=rv.one;obtain ⟨t,rfl⟩:=ru;obtain ⟨z,its,n,r,hl,e⟩:=I.K3 hH;obtain ⟨w,hw,rw'⟩:=r.get hy
 refine call_meets F.slot_list_pop ⟨_,e,rfl⟩ F.entry_list_pop (F.args_list_pop_2 _ _)
  (MeetsSeq.list_pop_at l its.toArray n i t k w (fitsIndex_both h1 h2) (by rw [List.size_toArray,←hl];exact hk) (by rw [←Array.getElem?_toList];exact hw) (by rw [List.size_toArray];omega)) ⟨e, ?_⟩
 refine ⟨y,_,I.aac (its':=its.eraseIdx k) hH e ?_ (r.eraseIdx k) ?_,rw',q⟩
 ·show its.toArray.eraseIdxIfInBounds k=(its.eraseIdx k).toArray
  rw [List.eraseIdxIfInBounds_toArray]
 ·have:=Ed xs k
  omega
def ahk:R2:=fun x y H Q=>∃l b xs zs,x = .ref l/\y = .ref b/\H l=some (.lst xs)/\H b=some (.lst zs)/\xs.length+zs.length<=sizeLine /\ ∀p,H p=none->Q (.ref p) (upd H p (.lst (xs++zs)))
theorem Ku:rB X (binaryOp .Add) ahk:=by
 intro pins s σ H x y v u Q I rx ry h;obtain ⟨l,b,xs,zs,rfl,rfl,hH,hB,hz,q⟩:=h;cases rx;cases ry;obtain ⟨z,its,n,r,hl,e⟩:=I.K3 hH;obtain ⟨z2,its2,n2,r2,hl2,e2⟩:=I.K3 hB;refine PySem.P.add_list e e2 ?_ (by rw [List.size_toArray,List.size_toArray];omega);have ea:its.toArray++its2.toArray=(its++its2).toArray:=by simp
 rw [ea];exact ⟨.ref _,_,I.acB (t':=s.toks) (r.append r2) (by rw [List.length_append];omega),rfl,q _ I.fresh⟩
def ahg:R2:=fun x y H Q=>∃l k xs,x = .ref l/\y = .int k/\H l=some (.lst xs) /\ -(2 ^ 63)<=k/\k<2 ^ 63/\xs.length*k.toNat<=sizeLine /\
 ∀p,H p=none->Q (.ref p) (upd H p (.lst (List.replicate k.toNat xs).flatten))
theorem len_rep {α:Type} (xs:List α) (k:Nat):(List.replicate k xs).flatten.length=k*xs.length:=by
 induction k with
 | zero=>simp
 | succ k ih=>rw [List.replicate_succ,List.flatten_cons,List.length_append,ih,Nat.succ_mul,Nat.add_comm]
theorem Br:rB X (binaryOp .Mult) ahg:=by
 intro pins s σ H x y v u Q I rx ry h;obtain ⟨l,k,xs,rfl,rfl,hH,h1,h2,hz,q⟩:=h;cases rx;obtain ⟨t,rfl⟩:=ry;obtain ⟨z,its,n,r,hl,e⟩:=I.K3 hH;have hlen:its.toArray.size*k.toNat<=sizeLine:=by rw [List.size_toArray,←hl];exact hz
 have hcap:¬its.toArray.size*k.toNat>(2 ^ 63 - 1) / 8:=by
  have:(sizeLine:Nat)<=(2 ^ 63 - 1) / 8:=by decide
  omega
 have hfit:¬(!Builtin.List.listFitsIndex k)=true:=by
  rw [fitsIndex_both h1 h2];exact Bool.false_ne_true
 have Tp:¬Builtin.List.listTooLong (its.toArray.size*k.toNat)=true:=by
  rw [Ir hlen];exact Bool.false_ne_true
 have hnew:List.foldl (fun x1 x2=>x1++x2) #[] (List.replicate (if its.toArray.isEmpty=true then 0 else k.toNat) its.toArray)=(List.replicate k.toNat its).flatten.toArray:=by
  have f0:∀m:Nat,List.foldl (fun x1 x2=>x1++x2) #[] (List.replicate m its.toArray)=(List.replicate m its).flatten.toArray:=fun m=>by
   have:=foldl_rep its m [];rw [List.nil_append] at this;exact this
  rw [f0];cases its with
  | nil=>simp
  | cons a r'=>rw [if_neg (by simp)]
 refine wpAny_binaryOp_repeat_ref (T:= "list") (U:= "int") (by decide) ⟨_,e,rfl⟩ (fun s'=>typeIs_int s' k t) noFill_list_mul F.fills_int_mul F.slot_int_rmul repeat_list F.slot_int_index.lookup
  (call_meets F.slot_int_rmul (typeIs_int s k t) F.entry_int_rmul (F.args_int_rmul_2 _ _) (int___rmul___int_list k t l its.toArray n)
    ⟨e,rfl,⟨_,e,rfl⟩,call_meets F.slot_list_mul ⟨_,e,rfl⟩ F.entry_list_mul (F.args_list_mul_2 _ _) (AutoListH.list___mul___list_int_3 l its.toArray n k t hfit hcap Tp) ⟨e, ?_⟩⟩)
 rw [hnew];exact ⟨.ref _,_,I.acB (t':=s.toks) (r.rep k.toNat) (by rw [len_rep,Nat.mul_comm];exact hz),rfl,q _ I.fresh⟩
end
section
variable {prog:Program} {w:World} {A:Around} {E:Value->Shared->Prop} {s:Shared}
end
section
variable {X:Cx}
end
end L2
namespace L2
open PySem PySem.Spec PyProof.Rows
section
variable {κ:Type} [DecidableEq κ]
def gF (kvs:List (κ×V)) (k:κ):Option V:=(kvs.find? fun kv=>decide (kv.1=k)).map (·.2)
def putK (kvs:List (κ×V)) (k:κ) (v:V):List (κ×V):=
 if (kvs.any fun kv=>decide (kv.1=k))=true then kvs.map (fun kv=>if kv.1=k then (kv.1,v) else kv) else kvs++[(k,v)]
theorem g_ {p:κ×V} {r:List (κ×V)} {k:κ} (e:p.1=k):gF (p::r) k=some p.2:=by simp [gF,List.find?_cons,e]
theorem h_ {p:κ×V} {r:List (κ×V)} {k:κ} (e:¬p.1=k):gF (p::r) k=gF r k:=by simp [gF,List.find?_cons,e]
theorem vJ (k:κ):∀kvs:List (κ×V),(kvs.any fun kv=>decide (kv.1=k))=(gF kvs k).isSome
 | []=>rfl
 | p::r=>by
   rw [List.any_cons]
   by_cases e:p.1=k
   ·simp only [g_ e,decide_eq_true e,Bool.true_or,Option.isSome_some]
   ·rw [h_ e,decide_eq_false e,Bool.false_or];exact vJ k r
theorem HW (k j:κ) (y:V):∀kvs:List (κ×V),gF (kvs.map fun kv=>if kv.1=k then (kv.1,y) else kv) j=(gF kvs j).map fun x=>if j=k then y else x
 | []=>rfl
 | p::r=>by
   have ih:=HW k j y r;rw [List.map_cons]
   by_cases h:p.1=k
   ·rw [if_pos h]
    by_cases e:p.1=j
    ·rw [g_ (p:=(p.1,y)) e,g_ e,Option.map_some,if_pos (e.symm.trans h)]
    ·rw [h_ (p:=(p.1,y)) e,h_ e,ih]
   ·rw [if_neg h]
    by_cases e:p.1=j
    ·rw [g_ (p:=p) e,g_ e,Option.map_some,if_neg (fun z=>h (e.trans z))]
    ·rw [h_ (p:=p) e,h_ e,ih]
theorem DR (k j:κ) (y:V):∀kvs:List (κ×V),gF kvs k=none->gF (kvs++[(k,y)]) j=if j=k then some y else gF kvs j
 | [],_=>by
   by_cases e:k=j
   ·rw [if_pos e.symm];exact g_ (p:=(k,y)) e
   ·rw [if_neg (fun z=>e z.symm)];exact h_ (p:=(k,y)) e
 | p::r,hn=>by
   rw [List.cons_append];have hk:¬p.1=k:=fun z=>by rw [g_ z] at hn;cases hn
   rw [h_ hk] at hn;have ih:=DR k j y r hn
   by_cases e:p.1=j
   ·rw [g_ e,g_ e,if_neg (fun z=>hk (e.trans z))]
   ·rw [h_ e,h_ e,ih]
theorem Am (kvs:List (κ×V)) (k j:κ) (y:V):gF (putK kvs k y) j=if j=k then some y else gF kvs j:=by
 unfold putK
 by_cases a:(kvs.any fun kv=>decide (kv.1=k))=true
 ·rw [if_pos a,HW]
  rw [vJ] at a
  by_cases e:j=k
  ·obtain ⟨x,hx⟩:=Option.isSome_iff_exists.mp a
   rw [if_pos e,e,hx,Option.map_some,if_pos rfl]
  ·rw [if_neg e]
   cases gF kvs j with
   | none=>rfl
   | some x=>rw [Option.map_some,if_neg e]
 ·rw [if_neg a]
  refine DR k j y kvs ?_;rw [vJ] at a;cases q:gF kvs k with
  | none=>rfl
  | some x=>rw [q] at a;exact (a rfl).elim
theorem za (kvs:List (κ×V)) (k:κ) (v:V):(putK kvs k v).length<=kvs.length+1:=by
 unfold putK;split
 ·rw [List.length_map];omega
 ·rw [List.length_append,List.length_cons,List.length_nil];omega
theorem rA.Pk {o:Option V} {u:Option Value} (r:rA o u):o.isSome=u.isSome:=by
 cases o with
 | none=>cases u with
   | none=>rfl
   | some _=>exact (show False from r).elim
 | some _=>cases u with
   | none=>exact (show False from r).elim
   | some _=>rfl
theorem rA.getD {o:Option V} {u:Option Value} {d:V} {d':Value} (r:rA o u) (rd:RelV d d'):RelV (o.getD d) (u.getD d'):=by
 cases o with
 | none=>cases u with
   | none=>exact rd
   | some _=>exact (show False from r).elim
 | some _=>cases u with
   | none=>exact (show False from r).elim
   | some _=>exact r
theorem KV.val {kvs:List (κ×V)} {vs:List (κ×Value)} (r:KV kvs vs) (k:κ):rA (gF kvs k) (valueAt vs k):=by
 unfold KV at r
 induction r with
 | nil=>exact True.intro
 | @cons p q ps qs h t ih=>
   obtain ⟨h1,h2⟩:=h
   by_cases e:p.1=k
   ·have e':q.1=k:=h1.symm.trans e
    have b:valueAt (q::qs) k=some q.2:=by simp [valueAt,List.find?_cons,e']
    rw [g_ e,b];exact h2
   ·have e':¬q.1=k:=fun z=>e (h1.trans z)
    have b:valueAt (q::qs) k=valueAt qs k:=by simp [valueAt,List.find?_cons,e']
    rw [h_ e,b];exact ih
end
theorem Yh {P:Program} {w:World} {k:Key} {u:Value} (r:RelV (kV k) u):(gD P w).is k u=true:=by
 cases k with
 | inl i=>obtain ⟨t,e⟩:=(show ∃t,u=Value.int i t from r);subst e;exact Iw P w i t
 | inr x=>obtain ⟨t,e⟩:=(show ∃t,u=Value.str x t from r);subst e;exact Iv P w x t
theorem Ei {P:Program} {w:World}:∀{ks:List Key} {us:List Value},Vals (ks.map kV) us->ItemsAre (gD P w) ks us
 | [],_,r=>by rw [List.map_nil] at r;cases r;exact .nil
 | k::ks,_,r=>by
   rw [List.map_cons] at r;cases r with
   | cons h t=>exact .cons (Yh h) (Ei t)
abbrev KT (H:Hp):List (List Key×V)->List (List Key×Addr×Value)->Prop:=Paired fun p q=>p.1=q.1/\H q.2.1=some (.tup (p.1.map kV))/\RelV p.2 q.2.2
theorem KT.val {H:Hp} {kvs:List (List Key×V)} {xs:List (List Key×Addr×Value)} (r:KT H kvs xs) (k:List Key):rA (gF kvs k) ((atKey xs k).map (·.2)):=by
 induction r with
 | nil=>exact True.intro
 | @cons p q ps qs h t ih=>
   obtain ⟨h1,_,h2⟩:=h
   by_cases e:p.1=k
   ·have e':q.1=k:=h1.symm.trans e
    have b:atKey (q::qs) k=some q.2:=by simp [atKey,List.find?_cons,e']
    rw [g_ e,b];exact h2
   ·have e':¬q.1=k:=fun z=>e (h1.trans z)
    have b:atKey (q::qs) k=atKey qs k:=by simp [atKey,List.find?_cons,e']
    rw [h_ e,b];exact ih
theorem KT.repl {H:Hp} {kvs:List (List Key×V)} {xs:List (List Key×Addr×Value)} (r:KT H kvs xs) (k:List Key) {y:V} {u:Value} (ry:RelV y u):
 KT H (kvs.map fun kv=>if kv.1=k then (kv.1,y) else kv) (xs.map (putAt k u)):=by
 induction r with
 | nil=>exact .nil
 | @cons p q ps qs h t ih=>
   rw [List.map_cons,List.map_cons];refine .cons ?_ ih;obtain ⟨h1,h2,h3⟩:=h;unfold putAt
   by_cases e:p.1=k
   ·rw [if_pos e,if_pos (h1.symm.trans e)];exact ⟨h1,h2,ry⟩
   ·rw [if_neg e,if_neg (fun z=>e (h1.trans z))];exact ⟨h1,h2,h3⟩
theorem KT.put {H:Hp} {kvs:List (List Key×V)} {xs:List (List Key×Addr×Value)} (r:KT H kvs xs) (k:List Key) {b:Addr} {y:V} {u:Value} (hb:H b=some (.tup (k.map kV))) (ry:RelV y u):
 KT H (putK kvs k y) (storedH xs k b u):=by
 have e:(kvs.any fun kv=>decide (kv.1=k))=(atKey xs k).isSome:=by
  rw [vJ,(r.val k).Pk,Option.isSome_map]
 unfold putK storedH;rw [e]
 by_cases q:(atKey xs k).isSome=true
 ·rw [if_pos q,if_pos q];exact r.repl k ry
 ·rw [if_neg q,if_neg q];exact Paired.snoc r ⟨rfl,hb,ry⟩
theorem KT.keeps {H H':Hp} {kvs:List (List Key×V)} {xs:List (List Key×Addr×Value)} (r:KT H kvs xs) (ht:∀b ys,H b=some (.tup ys)->H' b=some (.tup ys)):KT H' kvs xs:=
 Paired.acy r fun _ _ z=>⟨z.1,ht _ _ z.2.1,z.2.2⟩
section
variable {P:Program} {w:World} {H:Hp} {h:Heap} {a:Addr}
theorem X6 {u:HO} (ok:nY P w H h) (e:Rd H a u):dG P w H h a u:=e.ok ok
theorem Yt {kvs:List (Key×V)} (ok:nY P w H h) (e:Rd H a (.dK kvs)):kvs.length<=sizeLine/\(a==sysModules)=false /\ ∃vs,KV kvs vs/\h.DictOf (gD P w) a vs:=
 show dG P w H h a (.dK kvs) from X6 ok e
theorem K7 {ks:List Key} (ok:nY P w H h) (e:H a=some (.tup (ks.map kV))):(tupleKind (gD P w)).is h ks a:=by
 obtain ⟨_,its,r,o,h1,h2,n,h3⟩:=(show dG P w H h a (.tup (ks.map kV)) from ok a _ e);exact ⟨o,its.toArray,n,h1,h2,h3,by simpa using Ei r⟩
theorem T_ {kvs:List (List Key×V)} (ok:nY P w H h) (e:Rd H a (.dT kvs)):kvs.length<=sizeLine/\(a==sysModules)=false /\
 ∃xs,KT H kvs xs/\h.DictOfH (tupleKind (gD P w)) a xs:=by
 obtain ⟨z,y,xs,r,o,es,ep,h1,h2,h3,h4,h5⟩:=(show dG P w H h a (.dT kvs) from X6 ok e);refine ⟨z,y,xs,r,o,es,ep,h1,h2,h3,h4,fun x hx=> ?_,h5⟩
 have all:∀{l:List (List Key×V)} {m:List (List Key×Addr×Value)},KT H l m -> ∀x∈m,(tupleKind (gD P w)).is h x.1 x.2.1:=by
  intro l m q
  induction q with
  | nil=>intro x hx;exact nomatch hx
  | @cons p q ps qs hq t ih=>
    intro x hx;rcases List.mem_cons.mp hx with e|hx
    ·subst e
     exact K7 ok (by rw [←hq.1];exact hq.2.1)
    ·exact ih x hx
 exact all r x hx
theorem adi {kvs:List (List Key×V)} (ok:nY P w H h) (e:H a=some (.dT kvs)):kvs.length<=sizeLine/\(a==sysModules)=false /\
 ∃xs,KT H kvs xs/\h.DictOfH (tupleKind (gD P w)) a xs:=T_ ok (.inl e)
end
def U8 (H:Hp) (a:Addr) (y:V) (r:Option V):Prop:=
 (∃kvs k,Rd H a (.dK kvs)/\y=kV k/\r=gF kvs k) \/ ∃kvs k b,Rd H a (.dT kvs)/\y = .ref b/\H b=some (.tup (k.map kV))/\r=gF kvs k
theorem U8.t {H:Hp} {a b:Addr} {kvs:List (List Key×V)} {k:List Key} (e:H a=some (.dT kvs)) (eb:H b=some (.tup (k.map kV))):U8 H a (.ref b) (gF kvs k):= .inr ⟨kvs,k,b,.inl e,rfl,eb,rfl⟩
section
variable {X:Cx} {pins:List (Addr×Obj)} {σ:St} {H:Hp} {s:Shared} {a:Addr} {y v:V} {u r:Value} {o:Option V} {A:Around} {E:Value->Shared->Prop}
theorem Inv.big (I:Inv X pins σ H s):sysModules<s.heap.objs.size:=by
 have h:mainGlobals<s.heap.objs.size:=(I.mod.glob.keeps I.bk).lt;exact Nat.lt_trans (by decide) h
theorem Xd {h':Heap} {t':Nat} {ob:HO} (I:Inv X pins σ H s) (mu:Mut (H a)) (hs:Heap.SameBut a s.heap h') (he:∃q,h'.get? a=some q) (new:dG X.prog X.w (upd H a ob) h' a ob):
 Inv X pins σ (upd H a ob) {s with heap:=h',toks:=t'}:=
 I.write (x:=a) (e:=a) mu (.inl rfl) (fun b q hb z=>(hs.2 b hb).trans z) he new
end
section
variable {X:Cx} {pins:List (Addr×Obj)} {σ:St} {H:Hp} {s:Shared} {a:Addr} {kvs:List (Key×V)} {k:Key} {u:Value} {A:Around} {E:Value->Shared->Prop}
end
section
variable {X:Cx} {o i e value:Expr} {pos pos' tpos:Pos} {td ty tv:TE}
end
theorem Ua {P:Program} {w:World} {H:Hp} (h:Heap) (hb:sysModules<h.objs.size):dG P w H (h.push {cls:= .type "dict",data:= .dict #[]}) h.objs.size (.dT []):=
 ⟨Nat.zero_le _,beq_eq_false_iff_ne.mpr (Ne.symm (Nat.ne_of_lt hb)),[],.nil,_, #[],0,Heap.get?_push_size _ rfl,⟨rfl,rfl,rfl⟩,rfl,rfl,List.nodup_nil⟩
def Y_:TE:=fun _ H Q=>∀p,H p=none->Q (.ref p) (upd H p (.dT []))
section
variable {X:Cx} {pos:Pos}
theorem RN:PE X (.Dict [] [] pos) Y_:=fun pins s σ H Q I h=>
 wpAny_Dict_empty ⟨.ref s.heap.objs.size,_,I.laid (a:=s.heap.objs.size) (o:= .dT []) (t':=s.toks) (fun _ _ q=>Heap.get?_push_of_some _ q) (Nat.le_refl _) (Ua s.heap I.big),rfl,h _ (I.hok.fresh (Nat.le_refl _))⟩
end
structure M1 (X:Cx) (o:Expr) (m:Str) (apos:Pos) (e:Expr) (cpos:Pos):Prop where
 base:attributeBase o m X.env (eval o X.env)=eval o X.env
 few:((backTo cpos (starEach [e] X.env)).all (fun x=> !x.1)&&(backToKw cpos (keywordEach [] X.env)).all (fun x=>x.1.isSome)
  && decide (([e]:List Expr).length+([]:List Keyword).length+(if ([]:List Keyword).isEmpty then 0 else 1)<30))=true
 line:(apos.endLine==cpos.line)=true
 trees:backTo cpos (starEach [e] X.env)=[(false,eval e X.env)]
structure M2 (X:Cx) (o:Expr) (m:Str) (apos:Pos) (e f:Expr) (cpos:Pos):Prop where
 base:attributeBase o m X.env (eval o X.env)=eval o X.env
 few:((backTo cpos (starEach [e,f] X.env)).all (fun x=> !x.1)&&(backToKw cpos (keywordEach [] X.env)).all (fun x=>x.1.isSome)
  && decide (([e,f]:List Expr).length+([]:List Keyword).length+(if ([]:List Keyword).isEmpty then 0 else 1)<30))=true
 line:(apos.endLine==cpos.line)=true
 trees:backTo cpos (starEach [e,f] X.env)=[(false,eval e X.env),(false,eval f X.env)]
def IsD (H:Hp) (a:Addr):Prop:=(∃kvs,Rd H a (.dK kvs)) \/ ∃kvs,Rd H a (.dT kvs)
theorem Ti {X:Cx} {pins:List (Addr×Obj)} {σ:St} {H:Hp} {s:Shared} {a:Addr} (I:Inv X pins σ H s) (d:IsD H a):
 s.TypeIs (.ref a) "dict" /\ (∀b,Value.ref a = .ref b -> ∃ob,s.heap.get? b=some ob/\ob.dict=none)/\(a==sysModules)=false:=by
 rcases d with ⟨kvs,e⟩|⟨kvs,e⟩
 ·obtain ⟨_,hd,vs,_,dd⟩:=Yt I.hok e
  refine ⟨dd.typeIs,fun b q=> ?_,hd⟩;cases q;obtain ⟨ob,_,_,h1,h2,_⟩:=dd;exact ⟨ob,h1,h2.2.1⟩
 ·obtain ⟨_,hd,xs,_,dd⟩:=T_ I.hok e
  refine ⟨dd.typeIs,fun b q=> ?_,hd⟩;cases q;obtain ⟨ob,_,_,h1,h2,_⟩:=dd;exact ⟨ob,h1,h2.2.1⟩
section
variable {X:Cx} {pins:List (Addr×Obj)} {σ:St} {H:Hp} {s:Shared} {a:Addr} {y d:V} {u r:Value} {o:Option V} {A:Around} {E:Value->Shared->Prop}
theorem aaG {Q:Value->Shared->Prop} (hu:A.units+1<cLine) (I:Inv X pins σ H s) (g:U8 H a y o) (ry:RelV y u) (rd:RelV d r) (h:∀w' s',Inv X pins σ H s'->RelV (o.getD d) w'->Q w' s'):
 wpAny (model X.prog X.w) A (call (.builtin "dict.get") [.ref a,u,r]) Q E s:=by
 rcases g with ⟨kvs,k,e,ey,l⟩|⟨kvs,k,b,e,ey,eb,l⟩
 ·subst ey
  obtain ⟨z,hd,vs,rel,dd⟩:=Yt I.hok e;refine call_meetsIn PySem.F.slot_dict_get dd.typeIs PySem.F.entry_dict_get (PySem.F.args_dict_get_3 _ _ _) (meets_dict_get_default (gD X.prog X.w) a (Yh ry) hd r) ⟨_,dd.mapOf,h _ _ (I.tok _) ?_⟩;rw [l];exact (rel.val k).getD rd
 ·subst ey
  cases (show u=Value.ref b from ry);obtain ⟨z,hd,xs,rel,dd⟩:=T_ I.hok e;refine call_meetsIn PySem.F.slot_dict_get dd.typeIs PySem.F.entry_dict_get (PySem.F.args_dict_get_3 _ _ _) (meetsH_dict_get_default (tupleKind (gD X.prog X.w)) a b hd r) ⟨tupleKind_room_in1 hu,k,xs,K7 I.hok eb,dd,h _ _ (I.tok _) ?_⟩;rw [l];exact (rel.val k).getD rd
end
def Za (td ty tx:TE):TE:=fun σ H Q=>td σ H fun x H1=>∃a,x = .ref a/\IsD H1 a/\ty σ H1 fun y H2=>tx σ H2 fun z H3=>∃o,U8 H3 a y o/\Q (o.getD z) H3
section
variable {X:Cx} {o e f:Expr} {apos cpos:Pos} {td ty tx:TE}
theorem RP (hu:X.A.units+1<cLine) (ho:PE X o td) (he:PE X e ty) (hf:PE X f tx) (m:M2 X o "get" apos e f cpos):PE X (.Call (.Attribute o "get" apos) [e,f] [] cpos) (Za td ty tx):=by
 intro pins s σ H Q I h;refine wpAny_Call_method m.base m.few m.line PySem.F.plainAttrs_dict PySem.F.slot_dict_get PySem.F.type_dict_get (d9 (ho pins s σ H _ I h) fun u s1 ⟨x,H1,I1,rx,a,ex,d,q1⟩=> ?_);subst ex;obtain rfl:u=Value.ref a:=rx;obtain ⟨t1,t2,_⟩:=Ti I1 d;refine ⟨t1,t2, ?_⟩;rw [m.trees]
 refine Calls.callWith_builtin rfl (Calls.evalArgs_plain (Calls.spliced_cons (d9 (he pins s1 σ H1 _ I1 q1) fun iv s2 ⟨y,H2,I2,ry,q2⟩=>
  Calls.spliced_cons (d9 (hf pins s2 σ H2 _ I2 q2) fun fv s3 ⟨z,H3,I3,rz,ov,g,q3⟩=>Calls.spliced_nil ?_))))
 exact aaG hu I3 g ry rz fun w' s4 I4 rw'=>⟨_,H3,I4,rw',q3⟩
end
section
variable {X:Cx} {pins:List (Addr×Obj)} {σ:St} {H:Hp} {s:Shared} {a:Addr} {kvs:List (Key×V)} {A:Around} {E:Value->Shared->Prop}
end
section
variable {X:Cx} {pins:List (Addr×Obj)} {σ:St} {H:Hp} {s:Shared} {a:Addr} {y:V} {u:Value} {A:Around} {E:Value->Shared->Prop}
end
end L2
namespace Att
open PySem PySem.W PySem.Calls PyProof.Rows
theorem zB {P:Params} {h:Heap}:∀(ns:List Int) (vs:List Value),WellAll P h vs (ns.map WData.int)->IntsAre vs ns:=by
 intro ns
 induction ns with
 | nil=>
   intro vs w;rw [List.map_nil] at w;cases w;exact .nil
 | cons n ns ih=>
   intro vs w;rw [List.map_cons] at w;cases w with
   | cons a b=>
     cases a;exact .cons _ _ (ih _ b)
theorem N_ {l:OpenLaw} {n:Nat} (hn:l.most=some n) {P:Params} {h:Heap} {args:List WData} {vals:List Value}
 (hpre:l.row.toRowW.claim.pre args=true) (hwl:WellAll P h vals args):
 ∃a vs ns,vals=[Value.ref a]/\args=[WData.list (ns.map WData.int)]/\h.get? a=some {cls:= .type "list",data:= .seq vs.toArray}/\IntsAre vs ns/\ns.length<=n:=by
 have hsh:WShape.hasAll [] args [.list .int]=true:=(pre_splitW hpre).1;have hc:l.pre.holds [] {args:=args}=true:=(pre_splitW hpre).2;obtain ⟨d,r,rfl,h1,h2⟩:=hasAllW_cons hsh;obtain rfl:=hasAllW_nil h2;obtain ⟨xs,rfl,h3⟩:=hasW_list h1;obtain ⟨ns,rfl⟩:=items_int h3
 have hlen:ns.length<=n:=by
  unfold OpenLaw.pre at hc
  have h4:(WTm.not (.lt (.lit (.int (n:Int))) (.len (.arg 0)))).holds [] {args:=[.list (ns.map .int)]}=true:=by
   have h4:=(holds_andW hc).1;rw [hn] at h4;exact h4
  have h5:=condW_of h4 (w_not (w_lt w_lit (w_len_list (w_arg rfl))));rw [List.length_map] at h5;refine Nat.le_of_not_lt fun q=> ?_;have q':(n:Int)<((ns.length:Nat):Int):=by omega
  first
   | (rw [decide_eq_true q'] at h5;exact absurd h5 (by decide))
   | (simp at h5;omega)
 cases hwl with
 | cons w1 w2=>
   cases w2;cases w1 with
   | list ho hall=>exact ⟨_,_,ns,rfl,rfl,ho,zB ns _ hall,hlen⟩
theorem Oe (l:OpenLaw) (args:List WData):l.row.toRowW.claim.post args (.bool true) args=true:=
 postW_of (r:=l.row.toRowW) (X:=(true==true))
  (show WShape.has [] (.bool true) .bool=true by first |rfl|decide|simp [WShape.has,WShape.arms,WShape.armsAll])
  (show (WTm.eq .res (.lit (.bool true))).value [] {args:=args,res:=some (.bool true),after:=args}=some (.bool (true==true)) from w_eq_bool (w_res rfl) w_lit) rfl
theorem zu {l:OpenLaw} {n:Nat} {q:Program} {loose:List Str} {XP:(Str->Option Value)->Heap->Prop} {YP:World->Heap->Prop} {d:DefRec}
 (hn:l.most=some n) (hdf:d.params.defaults=[])
 (call:∀(w:World) (s₀ s₁:Shared) (mg mb:Str->Option Value) (fa:Addr) (o:Obj) (pm cd doc:Value) (a:Addr) (vs:List Value) (ns:List Int),
   Ground q loose [] XP w s₀ mg mb s₁.heap->YP w s₁.heap ->
   s₁.heap.get? fa=some o->o.data = .func (docDef d.name d.params d.body d.scope pm cd doc)->s₁.heap.CodeRec cd d.name->mg d.name=some (.ref fa) ->
   s₁.heap.get? a=some {cls:= .type "list",data:= .seq vs.toArray}->IntsAre vs ns->ns.length<=n->s₁.gens = #[] ->
   codeAny (model l.prog w) callerA (.call (.ref fa) ⟨[.ref a],[]⟩) (fun r s'=>r = .ok (.ret (.bool true))/\OldK s₁.heap s'.heap/\s'.os=s₁.os/\AllBare s'.gens) s₁):
 WalkO q loose XP YP l.row.toRowW d [] (fun f vs=>PySem.call f vs):=by
 intro w s₀ s₁ mg mb G Y fa o pm cd doc dV kV ho hd hcd hD hmg hg args vals as hpre hlay hrd hwl hlo;obtain rfl:dV = .none:=Dflts.none hD hdf;obtain rfl:kV = .none:=Dflts.noKw hD;obtain ⟨a,vs,ns,rfl,rfl,hobj,hints,hlen⟩:=N_ hn hpre hwl;refine enter_call (codeAny_mono (call w s₀ s₁ mg mb fa o pm cd doc a vs ns G Y ho (fd_plain hd) hcd hmg hobj hints hlen hg) fun r s' hq=> ?_);obtain ⟨rfl,h2,h3,h4⟩:=hq;exact ⟨.inl ⟨.bool true,.bool true,[],rfl,fun _=>rfl,.bool true,Oe l _,fun _=>⟨List.Pairwise.nil,fun _ hm=>(nomatch hm)⟩⟩,h2,h3,h4⟩
section
variable {prog:Program} {w:World} {A:Around} {E:Value->Shared->Prop} {s:Shared} {K:Frag}
def ledger (h:Heap) (L d:Addr):List (Addr×Obj):=(List.range h.objs.size).filterMap fun a=>if a=L\/a=d then none else (h.get? a).map fun o=>(a,o)
end
end Att
namespace L2
open PySem PySem.Spec PyProof.Rows
theorem DQ {vs:List Value} {ns:List Int} (h:IntsAre vs ns):Vals (ns.map V.int) vs:=by
 induction h with
 | nil=>exact .nil
 | cons n t h ih=>exact .cons ⟨t,rfl⟩ ih
def Only (H:Hp):Prop:=∀b,H b=none \/ ∃o xs,H b=some (.Df o (.lst xs))
theorem S8 {P:Program} {w:World} {K:PySem.W.Frag} {mg mb:Str->Option Value} {CX:Nv} {k:Nat} {fa a:Addr} {fd:FuncData} {x:Str} {sp:Sp} {s₁:Shared} {vs:List Value} {ns:List Int}
 (KX:K.In s₁.heap) (hns:s₁.heap.Ns mainGlobals mg) (hb:s₁.heap.Ns builtinsNs mb) (hbb:∀x:Str,x ≠ "__name__" -> mb x=bootBuiltins x) (hlim:s₁.heap.NoLimit) (hg:s₁.gens = #[])
 (ha:s₁.heap.get? a=some {cls:= .type "list",data:= .seq vs.toArray}) (hi:IntsAre vs ns) (hl:ns.length<=sizeLine) (hr:dZ k callerA)
 (F:∀base:Heap,K.In base->base.Ns mainGlobals mg->bV P w K mg base CX k fa fd [x] sp) (hbind:∀(s:Shared) (u:Value),BindsTo s fd ⟨[u],[]⟩ [(x,u)])
 (hsp:∀H:Hp,Only H->bL K H a (ns.map V.int)->sp [.ref a] H (fun v _=>v = .bl true) fun _ _ _=>False)
 (hCX:∀H e s',CX [] H s₁ (fun _ _ _=>False) e s'->False):
 codeAny (model P w) callerA (.call (.ref fa) ⟨[.ref a],[]⟩) (fun r s'=>r = .ok (.ret (.bool true))/\OldK s₁.heap s'.heap/\s'.os=s₁.os/\AllBare s'.gens) s₁:=by
 have rv:=DQ hi;have lenV:=hi.length
 have core:∀H:Hp,Only H->bL K H a (ns.map V.int)->nY P w H s₁.heap->(∀b,H b≠none->b=a)->(H a≠none->K.lookup a=none) ->
  codeAny (model P w) callerA (.call (.ref fa) ⟨[.ref a],[]⟩) (fun r s'=>r = .ok (.ret (.bool true))/\OldK s₁.heap s'.heap/\s'.os=s₁.os/\AllBare s'.gens) s₁:=by
  intro H hO hS hok hA hK;have uc:∀{b:Addr} {o:Obj},s₁.heap.get? b=some o->H b=none->(vp s₁.heap H).get? b=some o:=fun e n=>Jf e n
  have SM:∀{b:Addr} {o:Obj} {es:Array DictEntry} {ep:Nat},s₁.heap.get? b=some o->o.data = .dict es ep->H b=none:=fun {b o es ep} e d=>by
   cases q:H b with
   | none=>rfl
   | some u=>
     have e':b=a:=hA b (by rw [q];simp);subst e';rw [ha] at e;cases e;have d':Data.seq vs.toArray _=Data.dict es ep:=d;cases d'
  have Wr:∀{b:Addr} {m:Str->Option Value},s₁.heap.Ns b m->(vp s₁.heap H).Ns b m:=fun {b m} ⟨o,es,ep,e,d,r⟩=>⟨o,es,ep,uc e (SM e d),d,r⟩
  have hKb:K.In (vp s₁.heap H):=fun b o e=>uc (KX b o e) (by
   cases q:H b with
   | none=>rfl
   | some u=>
     have e':b=a:=hA b (by rw [q];simp);subst e';rw [hK (by rw [q];simp)] at e;cases e)
  have hM:Mod K mg (vp s₁.heap H):=⟨hKb,Wr hns,⟨mb,Wr hb,hbb⟩,let ⟨mc,h1,h2⟩:=hlim;⟨mc,Wr h1,h2⟩⟩;have e0:xG P w K mg (vp s₁.heap H) callerA [] s₁ H:=⟨rfl,hM,fun b o e=>Mt e,Nat.le_of_eq (Ek _ _),trivial,fun b hb=>absurd (show b∈([]:List Addr) from hb) (by simp),hok,.of_eq hg⟩;refine codeAny_mono ((F _ hKb (Wr hns)).run callerA [] s₁ H ⟨[.ref a],[]⟩ [.ref a] [.ref a] _ _ hr e0 (hbind s₁ (.ref a)) (.cons rfl .nil) (hsp H hO hS)) fun r s' h=> ?_;cases r with
  | error e=>exact (hCX H e s' h).elim
  | ok fl=>
    cases fl with
    | next=>exact False.elim h
    | brk=>exact False.elim h
    | cont=>exact False.elim h
    | ret u=>
      obtain ⟨v,H',os,bare,un,hok',r',q⟩:=h;have q':v = .bl true:=q;subst q';obtain rfl:u=Value.bool true:=r';refine ⟨rfl,OldK.of_keep fun b o e=> ?_,os,bare⟩;cases q:H b with
      | none=>exact un.keep b o e q (by intro z;exact absurd (show b∈([]:List Addr) from z) (by simp)) (by simp)
      | some u=>
        rcases hO b with z|⟨ob,xs,z⟩
        ·rw [q] at z;cases z
        ·have z2:=un.qM b ob _ z
         obtain ⟨e1,_⟩:=hok b _ z;obtain ⟨e2,_⟩:=hok' b _ z2;rw [e] at e1;cases e1;exact e2
 cases hk:K.lookup a with
 | some o=>
   have e:=KX a o hk;rw [ha] at e;cases e;refine core (fun _=>none) (fun _=> .inl rfl) (.inr ⟨_,vs.toArray,_,hk,rfl,rfl,rfl,by rw [List.size_toArray,lenV];exact hl,by simpa using rv⟩) (fun b u z=>by have z':(none:Option HO)=some u:=z;cases z') (fun b z=>absurd rfl z) fun z=>absurd rfl z
 | none=>
   refine core (fun b=>if b=a then some (.Df {cls:= .type "list",data:= .seq vs.toArray} (.lst (ns.map V.int))) else none) (fun b=> ?_) (.inl (.inr ⟨{cls:= .type "list",data:= .seq vs.toArray},if_pos rfl⟩)) (fun b u z=> ?_) (fun b z=> ?_) fun _=>hk
   ·by_cases hb:b=a
    ·exact .inr ⟨_,_,if_pos hb⟩
    ·exact .inl (if_neg hb)
   ·by_cases hb:b=a
    ·have z':=(if_pos hb).symm.trans z
     cases z';subst hb;exact ⟨ha,by rw [List.length_map];exact hl,vs,_,rv,ha⟩
    ·have z':=(if_neg hb).symm.trans z
     cases z'
   ·by_cases hb:b=a
    ·exact hb
    ·exact absurd (if_neg hb) z
end L2
namespace L2
open PySem PySem.Spec PyProof.Rows
abbrev KOf {K:PySem.W.Frag} {h:Heap} (_:K.In h):PySem.W.Frag:=K
theorem aes {l:PySem.W.OpenLaw} {n k:Nat} {q:Program} {loose:List Str} {XP:(Str->Option Value)->Heap->Prop} {YP:World->Heap->Prop} {d:DefRec} {K:Params->PySem.W.Frag} {CX:World->Nv} {sp:World->Sp} {x:Str}
 (hn:l.most=some n) (hn2:n<=sizeLine) (hdf:d.params.defaults=[]) (hr:dZ k callerA)
 (hY:∀(w:World) (h:Heap),YP w h->(K w.params).In h)
 (F:∀(w:World) (mg:Str->Option Value) (fa:Addr) (h:Heap),(K w.params).In h->h.Ns mainGlobals mg->mg d.name=some (.ref fa) ->
   ∃fd:FuncData,(∀(s:Shared) (u:Value),BindsTo s fd ⟨[u],[]⟩ [(x,u)]) /\
    ∀base:Heap,(K w.params).In base->base.Ns mainGlobals mg->bV l.prog w (K w.params) mg base (CX w) k fa fd [x] (sp w))
 (hsp:∀(w:World) (H:Hp) (a:Addr) (ns:List Int),ns.length<=n->Only H->bL (K w.params) H a (ns.map V.int)->sp w [.ref a] H (fun v _=>v = .bl true) fun _ _ _=>False)
 (hCX:∀(w:World) (H:Hp) (s:Shared) (e:Value) (s':Shared),CX w [] H s (fun _ _ _=>False) e s'->False):
 PySem.W.WalkO q loose XP YP l.row.toRowW d [] (fun f vs=>PySem.call f vs):=by
 refine Att.zu hn hdf fun w s₀ s₁ mg mb fa o pm cd doc a vs ns G Y ho hd hcd hmg hobj hints hlen hg=> ?_;have KX:=hY w _ Y;obtain ⟨fd,hb,hF⟩:=F w mg fa _ KX G.T.g hmg;exact S8 KX G.T.g G.T.b G.T.builtins G.T.nolimit hg hobj hints (Nat.le_trans hlen hn2) hr hF hb (fun H hO hS=>hsp w H a ns hlen hO hS) fun H e s'=>hCX w H s₁ e s'
end L2
namespace L2
open PySem PySem.Spec PyProof.Rows
def inClass (s:Stmt) (j:Nat):Stmt:=match s with
 | .ClassDef _ _ _ body _ _ _ _ _ _ _=>body.getD j (.Pass ⟨0,0,0,0⟩)
 | _=> .Pass ⟨0,0,0,0⟩
def aN (s:Stmt):Arguments:=match s with
 | .FunctionDef _ a _ _ _ _ _ _ _ _=>a
 | _=>{posonlyargs:=[],args:=[],vararg:=none,kwonlyargs:=[],kw_defaults:=[],kwarg:=none,defaults:=[]}
def aK (s:Stmt):List Stmt:=match s with
 | .FunctionDef _ _ b _ _ _ _ _ _ _=>b
 | _=>[]
def ao (s:Stmt):Scope:=match s with
 | .FunctionDef _ _ _ _ _ _ sc _ _ _=>sc
 | _=>{kind:= .function,names:=[],isGenerator:=false,isCoroutine:=false}
abbrev j4:Nv:=fun _ _ _ _ _ _=>False
abbrev E0:XK:=fun _ _ _=>False
theorem Mq {X:Cx}:Passes j4 X E0:=fun _ _ _ _ _ _ _ h=>h.elim
structure jY (K:PySem.W.Frag) (x qual:Str) (st:Stmt) (f:Addr) (fd:FuncData):Prop where
 ex:∃(oc:Value) (od:Option Addr) (kV doc pm:Value) (an:Option Addr) (cdv ct:Value) (osl:Array (Option Value)),
  fd=PySem.W.fnOf x qual (aN st) (aK st) (ao st) .none kV doc pm an cdv ct/\K.lookup f=some ⟨oc,od,.func fd,osl⟩/\PySem.W.codeIn K cdv qual=true
 kp:PySem.W.keepIn K (.ref f)=true
section
variable {P:Program} {w:World} {K:PySem.W.Frag} {mg:Str->Option Value} {base:Heap}
theorem jY.ok {x qual:Str} {st:Stmt} {f:Addr} {fd:FuncData} {N ps:List Str} {k:Nat} {sp:Sp} (F:jY K x qual st f fd) (S:bw N ps (ao st)) (len:∀vs H Q E,sp vs H Q E->vs.length=ps.length)
 (hbody:∀(cdv:Value) (A:Around) (outer:List Env) (s:Shared) (H:Hp) (vs:List V) (Q:VK) (E:XK),dZ k (A.deeper (envOfC qual (ao st) s.heap.objs.size f cdv))->sp vs H Q E ->
   ∃t,HJ (qO j4 P w K mg base N qual (ao st) f cdv A outer s H E).Qq (aK st) t/\t {nx:=fun _ H'=>Q .non H',rt:=Q} (start N vs) H):bV P w K mg base j4 (k+1) f fd ps sp:=by
 obtain ⟨oc,od,kV,doc,pm,an,cdv,ct,osl,rfl,lk,hcd⟩:=F.ex;refine M5 lk hcd S len fun A outer s H vs Q E hr hsp=> ?_;obtain ⟨t,h,q⟩:=hbody cdv A outer s H vs Q E hr hsp;exact ⟨t,h.Qq,q⟩
theorem jY.binds {x qual:Str} {st:Stmt} {f:Addr} {fd:FuncData} {ps:List Str} (F:jY K x qual st f fd)
 (h:∀(kV doc pm:Value) (an:Option Addr) (cdv ct:Value) (us:List Value),us.length=ps.length->bindArgs (PySem.W.fnOf x qual (aN st) (aK st) (ao st) .none kV doc pm an cdv ct) ⟨us,[]⟩=pure (ps.zip us)):Binds K fd ps []:=by
 obtain ⟨oc,od,kV,doc,pm,an,cdv,ct,osl,rfl,lk,hcd⟩:=F.ex;exact .all (h kV doc pm an cdv ct)
theorem bO {x qual:Str} {st:Stmt} {f:Addr} {oc:Value} {od an:Option Addr} {osl:Array (Option Value)} {kV doc pm cdv ct:Value} (l:K.lookup f=some ⟨oc,od,.func (PySem.W.fnOf x qual (aN st) (aK st) (ao st) .none kV doc pm an cdv ct),osl⟩)
 (c:PySem.W.codeIn K cdv qual=true) (k:PySem.W.keepIn K (.ref f)=true):jY K x qual st f (PySem.W.fnOf x qual (aN st) (aK st) (ao st) .none kV doc pm an cdv ct):=⟨⟨oc,od,kV,doc,pm,an,cdv,ct,osl,rfl,l,c⟩,k⟩
end
theorem Yk {A:Around} {k:Nat} (hr:dZ k A):A.units+1<cLine:=Nat.lt_of_le_of_lt (Nat.add_le_add_left (by decide:1<=64) _) hr.units
section
variable {X:Cx}
theorem pv (i:Nat) {x:Str} {pos:Pos} (hN:X.N[i]? = some x:=by rfl) (hv:Vis X.env.scope x:=by first |exact Or.inl rfl|exact Or.inr (Or.inl rfl)|exact Or.inr (Or.inr rfl)) (hd:(x==("__debug__" :Str))=false:=by decide)
 (hcd:(x==("__classdict__" :Str))=false:=by decide):PE X (.Name x pos) (Y0 i):=ZJ hN hv hd hcd
end
theorem dz {A B:Prop} (h:B):if false=true then A else B:=by
 rw [if_neg Bool.false_ne_true];exact h
theorem fM {A B:Prop} (h:A):if true=true then A else B:=by
 rw [if_pos rfl];exact h
theorem cU {c A B:Prop} [Decidable c] (h1:c->A) (h2:¬c->B):if c then A else B:=by
 by_cases h:c
 ·rw [if_pos h]
  exact h1 h
 ·rw [if_neg h]
  exact h2 h
theorem wI {c A B:Prop} [Decidable c] (hc:c) (h:B):if (!decide c)=true then A else B:=by
 rw [decide_eq_true hc];exact dz h
def Same (H H':Hp):Prop:=∀b o,H b=some o->H' b=some o
theorem Same.refl (H:Hp):Same H H:=fun _ _ h=>h
theorem Same.trans {H H1 H2:Hp} (a:Same H H1) (b:Same H1 H2):Same H H2:=fun c o h=>b c o (a c o h)
theorem Same.free {H H':Hp} (e:Same H H') {l:Addr} (h:H' l=Option.none):H l=Option.none:=by
 cases q:H l with
 | none=>rfl
 | some o=>
   rw [e l o q] at h;cases h
theorem Same.seq {K:PySem.W.Frag} {H H':Hp} {a:Addr} {xs:List V} (e:Same H H') (h:bL K H a xs):bL K H' a xs:=by
 rcases h with (h|⟨o,h⟩)|h
 ·exact .inl (.inl (e _ _ h))
 ·exact .inl (.inr ⟨o,e _ _ h⟩)
 ·exact .inr h
section
variable {κ:Type} [DecidableEq κ]
end
end L2
set_option Elab.async false
set_option linter.all false
set_option maxRecDepth 100000
set_option maxHeartbeats 4000000
namespace L2
open PySem PySem.Spec PyProof.Rows
theorem yX {a n:Addr} (h:a<n): @LT.lt Nat _ a n:=h
def fY (env:Env):List (Str×NameKind)->List (Str×Addr)->List (Str×Addr)
 | [],acc=>acc
 | (n,k)::r,acc=>if k == .free then fY env r ((n,(env.cells.lookup n).getD 0)::acc) else fY env r acc
theorem Cj {env:Env} {scope:Scope} (h:∀y∈scope.names,y.2 = .free->(env.cells.lookup y.1).isSome=true):closureFor scope env=pure (fY env scope.names []):=by
 have go:∀(ns:List (Str×NameKind)) (acc:List (Str×Addr)),(∀y∈ns,y.2 = .free->(env.cells.lookup y.1).isSome=true) ->
  (forIn ns acc (fun x cs=>match x with |(name,kind)=>if (kind == .free)=true then do let c ←cellOf env name;pure (ForInStep.yield ((name,c)::cs)) else pure (ForInStep.yield cs)):Sem (List (Str×Addr)))=pure (fY env ns acc):=by
  intro ns
  induction ns with
  | nil=>intro acc _;rfl
  | cons y r ih=>
    intro acc hy;obtain ⟨n,k⟩:=y;rw [List.forIn_cons]
    by_cases hk:k = .free
    ·subst hk
     have hs:=hy (n,.free) List.mem_cons_self rfl;obtain ⟨c,hc⟩:=Option.isSome_iff_exists.mp hs;have e:cellOf env n=pure c:=by unfold cellOf;rw [hc]
     show _=pure (fY env r ((n,(env.cells.lookup n).getD 0)::acc));rw [←ih _ fun y hm=>hy y (List.mem_cons_of_mem _ hm)];simp only [beq_self_eq_true,if_true,e,pure_bind,hc,Option.getD_some]
    ·have hb:(k==NameKind.free)=false:=by simpa using hk
     have hc:fY env ((n,k)::r) acc=fY env r acc:=by
      show (if (k==NameKind.free)=true then _ else _)=_;rw [if_neg (by rw [hb];decide)]
     rw [hc,←ih _ fun y hm=>hy y (List.mem_cons_of_mem _ hm)];simp only [hb,Bool.false_eq_true,if_false,pure_bind]
 have q:=go scope.names [] h;unfold closureFor;show (forIn scope.names [] _ >>= fun r=>pure r)=_;rw [bind_pure];exact q
theorem ig {env:Env}:∀(ns:List (Str×NameKind)) (acc:List (Str×Addr)) (x:Str),(∀y∈ns,y.2 = .free->(env.cells.lookup y.1).isSome=true) ->
 (fY env ns acc).lookup x=if (x,NameKind.free)∈ns then env.cells.lookup x else acc.lookup x
 | [],acc,x,_=>by simp [fY]
 | (n,k)::r,acc,x,h=>by
   have hr:∀y∈r,y.2 = .free->(env.cells.lookup y.1).isSome=true:=fun y hm=>h y (List.mem_cons_of_mem _ hm)
   by_cases hk:k = .free
   ·subst hk
    show (fY env r ((n,(env.cells.lookup n).getD 0)::acc)).lookup x=_;rw [ig r _ x hr];obtain ⟨c,hc⟩:=Option.isSome_iff_exists.mp (h (n,.free) List.mem_cons_self rfl);have hc:env.cells.lookup n=some c:=hc
    by_cases hm:(x,NameKind.free)∈r
    ·rw [if_pos hm,if_pos (List.mem_cons_of_mem _ hm)]
    ·rw [if_neg hm]
     by_cases e:x=n
     ·subst e
      rw [if_pos List.mem_cons_self,List.lookup_cons,hc];simp
     ·rw [if_neg (fun z=>(List.mem_cons.mp z).elim (fun q=>e (congrArg Prod.fst q)) hm),List.lookup_cons]
      have:(x==n)=false:=by simpa using e
      rw [this]
   ·have hb:(k==NameKind.free)=false:=by simpa using hk
    have hc:fY env ((n,k)::r) acc=fY env r acc:=by
     show (if (k==NameKind.free)=true then _ else _)=_;rw [if_neg (by rw [hb];decide)]
    rw [hc,ig r acc x hr]
    have:((x,NameKind.free)∈(n,k)::r)↔(x,NameKind.free)∈r:=by
     constructor
     ·intro z
      rcases List.mem_cons.mp z with q|q
      ·exact absurd (congrArg Prod.snd q).symm hk
      ·exact q
     ·exact List.mem_cons_of_mem _
    simp only [this]
theorem nG (env:Env):∀(ns:List (Str×NameKind)) (x:Str),
 (ns.map fun (n,k)=>if (k == .free&&env.scope.kind == .function&&env.kindOf n==some .cell) then (n,NameKind.cell) else (n,k)).lookup x =
   (ns.lookup x).map fun k=>if (k == .free&&env.scope.kind == .function&&env.kindOf x==some .cell)=true then NameKind.cell else k
 | [],x=>rfl
 | (n,k)::r,x=>by
   show List.lookup x ((if (k==NameKind.free&&env.scope.kind == .function&&env.kindOf n==some .cell)=true then (n,NameKind.cell) else (n,k))::_)=_;cases hx:x==n with
   | true=>
     have e:x=n:=by simpa using hx
     subst e
     by_cases hc:(k==NameKind.free&&env.scope.kind == .function&&env.kindOf x==some .cell)=true
     ·rw [if_pos hc];simp only [List.lookup_cons,hx,Option.map_some,if_pos hc]
     ·rw [if_neg hc];simp only [List.lookup_cons,hx,Option.map_some,if_neg hc]
   | false=>
     have ih:=nG env r x
     by_cases hc:(k==NameKind.free&&env.scope.kind == .function&&env.kindOf n==some .cell)=true
     ·rw [if_pos hc];simp only [List.lookup_cons,hx];exact ih
     ·rw [if_neg hc];simp only [List.lookup_cons,hx];exact ih
structure bH (N own:List Str) (caps:List Nat) (XN:List Str) (outer scope:Scope):Prop where
 kind:scope.kind = .function
 BJ:∀y∈scope.names,y.2 ≠ .cell
 names:∀y∈scope.names,y.2 = .local->scope.names.lookup y.1=some .local
 free:∀y∈scope.names,y.2 = .free->outer.names.lookup y.1=some .cell\/outer.names.lookup y.1=some .free
 nd:N.Nodup
 len:N.length=own.length+caps.length
 cap:∀(j:Nat),j<caps.length->N[own.length+j]? = XN[caps.getD j 0]? /\ ∃x,N[own.length+j]? = some x/\(x,NameKind.free)∈scope.names/\scope.names.lookup x=some .free
def st0 (own:List Str) (caps:List Nat) (σ:St):St:=own.map (fun _=>none)++caps.map (fun i=>(σ[i]?).join)
def gM (X:Cx) (scope:Scope) (C:Addr) (N:List Str) (s:Shared) (H:Hp) (fp:List Addr):Cx:=
 {X with N:=N,s₀:=s,H₀:=H,env:=compEnvC scope (fY X.env scope.names []) C X.env,outer:=X.stack,ex:=fp,fn:=fun _=>false,pn:=[],xe:=fun _ _=>False}
section
variable {X:Cx} {pins:List (Addr×Obj)} {σ:St} {H:Hp} {s:Shared} {scope:Scope} {N own:List Str} {caps:List Nat} {fp:List Addr} {C:Nat}
theorem bH.Ug (S:bH N own caps X.N X.env.scope scope) (ok:X.Ok):∀y∈scope.names,y.2 = .free->(X.env.cells.lookup y.1).isSome=true:=fun y hy hf=>by
 obtain ⟨c,e⟩:=ok.has y.1 (S.free y hy hf);rw [e];rfl
theorem bH.csub (S:bH N own caps X.N X.env.scope scope) (ok:X.Ok) {x:Str} {c:Addr} (h:(fY X.env scope.names []).lookup x=some c):X.env.cells.lookup x=some c:=by
 rw [ig _ _ _ (S.Ug ok)] at h;split at h
 ·exact h
 ·simp at h
theorem bH.S5 {S:bH N own caps X.N X.env.scope scope} {x:Str} (h:(relabel scope X.env).names.lookup x=some .cell\/(relabel scope X.env).names.lookup x=some .free):(x,NameKind.free)∈scope.names:=by
 have e:=nG X.env scope.names x;have e':(relabel scope X.env).names.lookup x=(scope.names.lookup x).map fun k=>if (k == .free&&X.env.scope.kind == .function&&X.env.kindOf x==some .cell)=true then NameKind.cell else k:=e;rw [e'] at h;cases q:scope.names.lookup x with
 | none=>rw [q] at h;simp at h
 | some k=>
   have hm:=PySem.mem_of_lookup q
   by_cases hk:k = .free
   ·subst hk;exact hm
   ·rw [q] at h
    have hb:(k==NameKind.free)=false:=by simpa using hk
    simp only [Option.map_some,hb,Bool.false_and,Bool.false_eq_true,if_false] at h;rcases h with h|h
    ·exact absurd (Option.some.inj h) (S.BJ _ hm)
    ·exact absurd (Option.some.inj h) hk
theorem Inv.comp {h1:Heap} {D:Nat} (I:Inv X pins σ H s) (S:bH N own caps X.N X.env.scope scope) (hfp:∀b∈fp,sZ X pins H b) (hfo:∀b∈fp,∃o,s.heap.get? b=some o)
 (hD:D=s.heap.objs.size) (hC:C=s.heap.objs.size+1) (old:∀b o,s.heap.get? b=some o->h1.get? b=some o) (hns:h1.Ns C (fun _=>none)) (hl:h1.get? D=some {cls:= .type "list",data:= .seq #[]}) {t:Nat}:
 Inv (gM X scope C N s H fp) [] (st0 own caps σ) (upd H D (.lst [])) {s with heap:=h1,toks:=t}:=by
 have some':=S.Ug I.ok;have sub:∀{x c},(fY X.env scope.names []).lookup x=some c->X.env.cells.lookup x=some c:=fun h=>S.csub I.ok h;have freshD:H D=none:=I.hok.fresh (by rw [hD];exact Nat.le_refl _);have aay:H C=none:=I.hok.fresh (by rw [hC];exact Nat.le_succ _)
 have aaI:∀x c,X.env.cells.lookup x=some c->c<s.heap.objs.size:=fun x c e=>by
  obtain ⟨v,z⟩:=I.cell x c e;exact z.lt
 have ak1:∀b∈fp,b<s.heap.objs.size:=fun b hb=>by
  obtain ⟨o,e⟩:=hfo b hb;exact Heap.lt_size e
 have DC:D≠C:=by omega
 refine ⟨⟨I.ok.mod,S.kind,I.ok.glob,I.ok.blt,by show s.heap.objs.size<=C;omega,fun x y c e1 e2=>I.ok.inj x y c (sub e1) (sub e2),fun x h=> ?_,fun x c h=>(by cases h),I.ok.hd,I.ok.frames,Or.inl rfl,fun b hb=>⟨?_,fun x c e=> ?_⟩,I.bs,Nat.le_trans I.ok.HF I.sz,fun b o e hb=> ?_,fun b hb z=> ?_,I.stack,I.Fl⟩,
  rfl,I.bare,Un.laid old (by show s.heap.objs.size<=D;omega) freshD,⟨_,hns,fun j x v e1 e2 e3=> ?_⟩,fun x c e=> ?_, ?_,fun x c e=> ?_,fun p hp=> ?_,I.hok.laid old (by omega) ?_, ?_⟩
 ·have hm:=bH.S5 (S:=S) (X:=X) h
  obtain ⟨c,e⟩:=Option.isSome_iff_exists.mp (some' _ hm rfl);exact ⟨c,by show (fY X.env scope.names []).lookup x=_;rw [ig _ _ _ some',if_pos hm];exact e⟩
 ·exact Nat.ne_of_lt (show @LT.lt Nat _ b C by have:=yX (ak1 b hb);omega)
 ·exact (hfp b hb).2.2.2.2.1 x c (sub e)
 ·rcases (hfp b hb).2.2.2.1 with z|z
  ·exact I.ok.Gm b o e z
  ·exact absurd (Nat.lt_of_lt_of_le (Heap.lt_size e) (Nat.le_trans I.ok.HF z)) (Nat.lt_irrefl _)
 ·rcases List.mem_cons.mp (I.xX b z) with q|q
  ·exact (hfp b hb).2.1 q
  ·exact (hfp b hb).2.2.1 q
 ·have e1:N[j]? = some x:=e1
  have hj:own.length<=j:=by
   by_cases q:own.length<=j
   ·exact q
   ·exfalso
    unfold st0 at e2;rw [List.getElem?_append_left (by simp;omega),List.getElem?_map] at e2;cases r:own[j]? with
    | none=>rw [r] at e2;cases e2
    | some a=>rw [r] at e2;cases e2
  have hjl:j<N.length:=(List.getElem?_eq_some_iff.mp e1).1;have hjc:j - own.length<caps.length:=by have:=S.len;omega
  obtain ⟨c1,x',c2,c3,c4⟩:=S.cap (j - own.length) hjc;rw [show own.length+(j - own.length)=j by omega] at c1 c2;rw [e1] at c2;cases c2
  have e2':(σ[caps.getD (j - own.length) 0]?).join=some v:=by
   unfold st0 at e2;rw [List.getElem?_append_right (by simp;omega),List.getElem?_map,List.length_map] at e2;rw [List.getD_eq_getElem?_getD];cases r:caps[j - own.length]? with
   | none=>rw [r] at e2;cases e2
   | some a=>rw [r] at e2;exact Option.some.inj e2
  have alb:σ[caps.getD (j - own.length) 0]? = some (some v):=by
   cases r:σ[caps.getD (j - own.length) 0]? with
   | none=>rw [r] at e2';cases e2'
   | some a=>rw [r] at e2';exact congrArg Option.some e2'
  have kx:X.env.kindOf x=some .cell\/X.env.kindOf x=some .free:=S.free _ c3 rfl;obtain ⟨m,hn,hl'⟩:=I.loc;obtain ⟨u,r,l⟩:=hl' _ x v (by rw [←c1];exact e1) alb (by rcases kx with z|z;exact .inr (.inl z);exact .inr (.inr z));refine ⟨u,r,.inr ⟨?_, ?_⟩⟩
  ·show (relabel scope X.env).names.lookup x=some .cell\/(relabel scope X.env).names.lookup x=some .free
   have e:(relabel scope X.env).names.lookup x=(scope.names.lookup x).map fun k=>if (k == .free&&X.env.scope.kind == .function&&X.env.kindOf x==some .cell)=true then NameKind.cell else k:=nG X.env scope.names x;rw [e,c4,Option.map_some];split
   ·exact .inl rfl
   ·exact .inr rfl
  ·rcases l with ⟨hk,_⟩|⟨_,c,hc,z⟩
   ·rcases kx with q|q<;>rw [hk] at q<;>cases q
   ·refine ⟨c, ?_, ?_⟩
    ·show (fY X.env scope.names []).lookup x=_
     rw [ig _ _ _ some',if_pos c3];exact hc
    ·obtain ⟨o,ho,hd⟩:=z
     exact ⟨o,old c o ho,hd⟩
 ·obtain ⟨v,o,ho,hd⟩:=I.cell x c (sub e)
  exact ⟨v,o,old c o ho,hd⟩
 ·show upd H D (.lst []) C=none
  rw [aD DC.symm];exact aay
 ·show upd H D (.lst []) c=none
  rw [aD (Nat.ne_of_lt (by have:=yX (aaI x c (sub e));omega))];exact I.jX x c (sub e)
 ·cases hp
 ·exact ⟨Nat.zero_le _,[],0,.nil,hl⟩
 ·show (own.map (fun _=>none)++caps.map _).length=N.length
  rw [List.length_append,List.length_map,List.length_map,S.len]
theorem Inv.QT {qT:List (Addr×Obj)} {σ':St} {H':Hp} {s':Shared} {h':Heap} (I:Inv X pins σ H s) (hfp:∀b∈fp,sZ X pins H b) (hC:s.heap.objs.size<=C) (J:Inv (gM X scope C N s H fp) qT σ' H' s') (hs:Heap.SameBut C s'.heap h'):
 Inv X pins σ H' {s' with heap:=h'}:=by
 have nC:∀b o,s.heap.get? b=some o->b≠C:=fun b o e=>Nat.ne_of_lt (by have:=yX (Heap.lt_size e);omega);have u:=J.base;have frC:H' C=none:=J.free;refine I.call' (ch:=fp) (s':={s' with heap:=h'}) J.os ⟨fun b o e n hb hx=> ?_,fun b o e n hb hx=> ?_,u.free,fun b o e hx=> ?_,u.tups,u.qM,u.u5⟩ (fun a o e=>(J.hok a o e).stay (fun b v hb q=> ?_) (fun _ q=>q) fun _ _ q=>q) J.bare fun b hb=> ?_
 ·exact (hs.2 b (nC b o e)).trans (u.keep b o e n hb hx)
 ·obtain ⟨sl,q⟩:=u.slot b o e n hb hx
  exact ⟨sl,(hs.2 b (nC b o e)).trans q⟩
 ·obtain ⟨o',q⟩:=u.there b o e hx
  exact ⟨o',(hs.2 b (nC b o e)).trans q⟩
 ·refine (hs.2 b ?_).trans q
  intro z;subst z;rcases hb with z|z
  ·subst z;rw [frC] at e;cases e
  ·rw [frC] at z;cases z
 ·exact ⟨(hfp b hb).2.2.2.1,(hfp b hb).2.1,(hfp b hb).2.2.2.2.1,(hfp b hb).2.2.2.2.2⟩
end
section
variable {prog:Program} {w:World} {A:Around} {R:Result->Shared->Prop} {s:Shared}
theorem GZ {elt target iter:Expr} {ifs:List Expr} {scope:Scope} {pos:Pos} {it acc:Value} {env:Env} (I:Nat->Shared->Prop)
 (turn:∀n s,I n s->wpAny (model prog w) A (pyNext it) (fun r s1=>match r with
   | none=>R (.ok .next) s1
   | some v=>wpAny (model prog w) A (letOwnedTupleGo target it v) (fun _ s1'=>wpAny (model prog w) A (assign target env v) (fun _ s2=>
      wpAny (model prog w) A (forIn ifs true fun c r=>if r=true then do let ok ←isTrue c env (eval c env);pure (ForInStep.yield ok) else pure (ForInStep.yield r)) (fun ok s3=>
       if ok=true then wpAny (model prog w) A (eval elt env) (fun x s4=>
        wpAny (model prog w) A (call (.builtin "list.append") [acc,x]) (fun _ s5=>∃m,m<n/\I m s5) (fun _ _=>False) s4) (fun _ _=>False) s3
       else ∃m,m<n/\I m s3) (fun _ _=>False) s2) (fun _ _=>False) s1') (fun _ _=>False) s1) (fun _ _=>False) s)
 (n:Nat) (h:I n s):
 codeAny (model prog w) A (.compLoop (.ListComp elt [⟨target,iter,ifs,0⟩] scope pos) 0 it acc env) R s:=by
 refine codeAny_loop rfl I (fun n s hI=> ?_) n h;show wpAny _ A ((compTurn (.ListComp elt [⟨target,iter,ifs,0⟩] scope pos) 0 it acc env).onRaise (fun x=>do noteFrame x env;theTreesLotGoes x)) _ _ s;refine wpAny_noted ?_;rw [compTurn_list];refine wpAny_bind (wpAny_standAt (wpAny_bind (wpAny_mono (turn n s hI) (fun r s1 h1=> ?_) fun _ _ h'=>h'.elim)));cases r with
 | none=>exact wpAny_pure h1
 | some v=>
   refine wpAny_bind (wpAny_mono h1 (fun _ s1' h1'=> ?_) fun _ _ h'=>h'.elim);refine wpAny_bind (wpAny_mono h1' (fun _ s2 h2=>wpAny_bind (wpAny_mono h2 (fun ok s3 h3=> ?_) fun _ _ h'=>h'.elim)) fun _ _ h'=>h'.elim);cases ok with
   | false=>exact wpAny_pure ⟨rfl,h3⟩
   | true=>
     exact wpAny_bind (wpAny_bind (wpAny_mono h3 (fun x s4 h4=>wpAny_bind (wpAny_mono h4 (fun _ s5 h5=>wpAny_pure (wpAny_pure ⟨rfl,h5⟩)) fun _ _ h'=>h'.elim)) fun _ _ h'=>h'.elim))
end
def PTs (X:Cx) (ifs:List Expr) (t:TT):Prop:=
 ∀(pins:List (Addr×Obj)) (s:Shared) (σ:St) (H:Hp) (Q:Bool->Hp->Prop),Inv X pins σ H s->t σ H Q ->
  wpAny (model X.prog X.w) X.A (forIn ifs true fun c r=>if r=true then do let ok ←isTrue c X.env (eval c X.env);pure (ForInStep.yield ok) else pure (ForInStep.yield r)) (TP X pins σ Q) X.xe s
def Fj:TT:=fun _ H Q=>Q true H
theorem fU {X:Cx}:PTs X [] Fj:=fun _ _ _ H _ I h=>wpAny_tests_nil ⟨H,I,h⟩
theorem zN {X:Cx} {c:Expr} {t:TT} (h:PT X c t):PTs X [c] t:=fun pins s σ H Q I q=>wpAny_tests_one (h pins s σ H Q I q)
def oK (J:It) (g:TG) (tc:TT) (te:TE) (Q:VK) (D:Addr) (σ0:St) (H1:Hp):Prop:=
 ∃W:Nat->Nat->St->Hp->Prop,(∃m,W 0 m σ0 (upd H1 D (.lst []))) /\ ∀i m σ H,W i m σ H ->
  (J.stop i H/\Q (.ref D) H)\/(J.go i H /\ ∃N:St->Hp->Prop,(∀σ' H',N σ' H' -> ∃m',m'<m/\W (i+1) m' σ' H') /\ ∀x H',J.yld i H x H'->g x σ H' fun σ2 H2=>tc σ2 H2 fun b H3=>
    if b=true then te σ2 H3 fun y H4=>∃acc,H4 D=some (.lst acc)/\acc.length<sizeLine/\N σ2 (upd H4 D (.lst (acc++[y]))) else N σ2 H3)
def Q9 (own:List Str) (caps:List Nat) (wi:TI) (g:TG) (tc:TT) (te:TE):TE:=fun σ H Q=>wi σ H fun J H1=>∀D,H1 D=none->oK J g tc te Q D (st0 own caps σ) H1
section
variable {X:Cx} {elt tg iter:Expr} {ifs:List Expr} {scope:Scope} {pos:Pos} {N own:List Str} {caps:List Nat} {wi:TI} {g:TG} {tc:TT} {te:TE}
theorem Jw {use:Option (Value->Sem Unit)} {Qv:Value->Shared->Prop} {pins:List (Addr×Obj)} {σ:St} {H:Hp} {s:Shared} {Q:VK} (hc:X.calm=true) (S:bH N own caps X.N X.env.scope scope)
 (hg:∀C s H fp,PG (gM X scope C N s H fp) tg g) (hcs:∀C s H fp,PTs (gM X scope C N s H fp) ifs tc) (he:∀C s H fp,PE (gM X scope C N s H fp) elt te)
 (hi:PI X tg iter wi) (hs:∀x,foldedSetIterable iter X.env x=pure x)
 (I:Inv X pins σ H s) (h:Q9 own caps wi g tc te σ H Q)
 (fin:∀(D C:Addr) (H':Hp) (s':Shared),(∃m,s'.heap.Ns C m)->Inv X pins σ H' s'->(∀h',Heap.SameBut C s'.heap h'->Inv X pins σ H' {s' with heap:=h'})->sZ X pins H' C->Q (.ref D) H' ->
   compPost (model X.prog X.w) X.A X.xe use Qv (.ref D) C (.ok .next) s'):
 wpAny (model X.prog X.w) X.A (comprehension (.ListComp elt [⟨tg,iter,ifs,0⟩] scope pos) scope X.env (firstIterPos [⟨tg,iter,ifs,0⟩] pos) (newList []) false (eval iter X.env) use) Qv X.xe s:=by
 refine wpAny_comprehension_free (use:=use) rfl hs (Cj (S.Ug I.ok)) S.kind S.names (d9 (hi pins s σ H _ I h) fun xv s1 h1=>d9 h1 fun itv s2 h2=> ?_);obtain ⟨it,fp,tn,J,H2,e,I2,T,st2,f2,q2⟩:=h2;subst e;refine wpAny_newList ?_;refine wpAny_newFunctionEnv S.BJ (by intro y hy;simp at hy) (fun h1 acT hsb1=> ?_) S.kind;dsimp only at acT hsb1 ⊢;have hD:H2 s2.heap.objs.size=none:=I2.hok.fresh (Nat.le_refl _);have hsz:(s2.heap.push {cls:= .type "list",data:= .seq ([]:List Value).toArray}).objs.size=s2.heap.objs.size+1:=Heap.size_push ..
 have old:∀b o,s2.heap.get? b=some o->h1.get? b=some o:=fun b o e=>by
  refine hsb1.extBut b o (Nat.ne_of_lt (by have:=yX (Heap.lt_size e);rw [hsz];omega)) (Heap.get?_push_of_some _ (Heap.get?_push_of_some _ e))
 have hl:h1.get? s2.heap.objs.size=some {cls:= .type "list",data:= .seq #[]}:=
  hsb1.extBut _ _ (Nat.ne_of_lt (by rw [hsz];omega)) (Heap.get?_push_of_some _ (Heap.get?_push_size _ rfl))
 have hfo:∀b∈fp,∃o,s2.heap.get? b=some o:=fun b hb=>let ⟨o,e,_⟩:=T.obj _ _ st2 b hb;⟨o,e⟩
 have I4:=Inv.comp (C:=(s2.heap.push {cls:= .type "list",data:= .seq ([]:List Value).toArray}).objs.size) (t:=s2.toks+([]:List (Str×Value)).length) I2 S f2 hfo rfl hsz old acT hl;obtain ⟨W,⟨m0,w0⟩,turn⟩:=q2 _ hD;generalize hCe:(s2.heap.push {cls:= .type "list",data:= .seq ([]:List Value).toArray}).objs.size=C at *;generalize hDe:s2.heap.objs.size=D at *;have hDC:D≠C:=by omega
 have loop:∀s3:Shared,s3={s2 with heap:=h1,toks:=s2.toks+([]:List (Str×Value)).length} ->
  codeAny (model X.prog X.w) X.A (.compLoop (.ListComp elt [⟨tg,iter,ifs,0⟩] scope pos) 0 (.ref it) (.ref D) (gM X scope C N s2 H2 fp).env) (compPost (model X.prog X.w) X.A X.xe use Qv (.ref D) C) s3:=by
  rintro s3 rfl
  have Df:∀b∈fp,(upd H2 D (.lst [])) b=none:=fun b hb=>by
   obtain ⟨o,e⟩:=hfo b hb;rw [aD (Nat.ne_of_lt (by have:=yX (Heap.lt_size e);omega))];exact (f2 b hb).1
  have stat:∀{H':Hp},(∀b∈fp,H' b=none) -> ∀b∈fp,sZ (gM X scope C N s2 H2 fp) [] H' b:=fun hn b hb=>by
   obtain ⟨o,e⟩:=hfo b hb;have hlt:=yX (Heap.lt_size e);refine ⟨hn b hb, ?_,fun z=> ?_,.inl hb,fun x c e'=>(f2 b hb).2.2.2.2.1 x c (S.csub I2.ok e'),fun p hp=>(by cases hp)⟩
   ·exact Nat.ne_of_lt (show @LT.lt Nat _ b C by omega)
   ·rcases List.mem_cons.mp (I2.xX b z) with q|q
    ·exact (f2 b hb).2.1 q
    ·exact (f2 b hb).2.2.1 q
  refine GZ (fun n s'=>∃i σ' H',Inv (gM X scope C N s2 H2 fp) [] σ' H' s'/\tn i s'.heap/\(∀b∈fp,H' b=none)/\W i n σ' H') ?_ m0
   ⟨0,_,_,I4,T.keep _ _ _ st2 fun b _ o e=>old b o e,Df,w0⟩
  rintro n s3 ⟨i,σ3,H3,I3,st3,fr3,w3⟩;rcases turn i n σ3 H3 w3 with ⟨stop,qn⟩|⟨go,Nx,hNx,step⟩
  ·refine d9 (T.done (gM X scope C N s2 H2 fp) rfl rfl rfl hc i [] s3 σ3 H3 _ I3 (stat fr3) st3 stop) fun r s4 ⟨hr,J4⟩=> ?_
   subst hr;obtain ⟨m4,hn4,_⟩:=J4.loc;exact fin D C H3 s4 ⟨m4,hn4⟩ (I2.QT f2 (by omega) J4 (Heap.SameBut.refl _ _)) (fun h' hs'=>I2.QT f2 (by omega) J4 hs') (I2.Ca (show s2.heap.objs.size<=C by omega) J4.free) qn
  ·refine d9 (T.item (gM X scope C N s2 H2 fp) rfl rfl rfl hc i [] s3 σ3 H3 _ I3 (stat fr3) st3 go) fun r s4 ⟨u,hr,h4⟩=> ?_
   subst hr;refine d9 h4 fun _ s5 ⟨x,H5,I5,r5,y5,JR,fr5⟩=> ?_;have I5':=I5.pinned (stat fr5) (T.obj _ _ JR);refine d9 (hg C s2 H2 fp _ s5 σ3 H5 x u _ I5' r5 (step x H5 y5)) fun _ s6 ⟨σ6,H6,I6,q6⟩=> ?_;refine d9 (hcs C s2 H2 fp _ s6 σ6 H6 _ I6 q6) fun ok s7 ⟨H7,I7,q7⟩=> ?_
   have again:∀{σ8:St} {H8:Hp} {s8:Shared},Inv (gM X scope C N s2 H2 fp) ([]++Bp fp s5.heap) σ8 H8 s8->Nx σ8 H8 -> ∃m,m<n /\ ∃i σ' H',Inv (gM X scope C N s2 H2 fp) [] σ' H' s8/\tn i s8.heap/\(∀b∈fp,H' b=none)/\W i m σ' H':=fun {σ8 H8 s8} I8 n8=>by
    obtain ⟨m',hm,w8⟩:=hNx _ _ n8;refine ⟨m',hm,i+1,σ8,H8,I8.vK,T.keep _ _ _ JR fun b hb o e=>(I8.pin (b,o) (List.mem_append_right _ (List.mem_append_right _ (qH hb e)))).1,fun b hb=> ?_,w8⟩;obtain ⟨o,e,d⟩:=T.obj _ _ JR b hb;exact (I8.pin (b,o) (List.mem_append_right _ (List.mem_append_right _ (qH hb e)))).2.1
   cases ok with
   | false=>
     rw [if_neg (by decide)] at q7;exact again I7 q7
   | true=>
     rw [if_pos rfl] at q7;refine d9 (he C s2 H2 fp _ s7 σ6 H7 _ I7 q7) fun y s8 ⟨yv,H8,I8,r8,acc,ha,hlen,q8⟩=> ?_;exact d9 (Ec _ s8 σ6 H8 (.ref D) [yv] (.ref D) [y] (fun v H9=>Nx σ6 H9) I8 rfl (.cons r8 .nil) ⟨D,acc,yv,rfl,rfl,ha,hlen,q8⟩) fun _ s9 ⟨_,H9,I9,_,q9⟩=>again I9 q9
 exact codeAny_compStart_list (loop _ rfl) (T.self _ 0 _ _ _ (T.keep _ _ _ st2 fun b _ o e=>old b o e) (loop _ rfl))
theorem gC (hc:X.calm=true) (S:bH N own caps X.N X.env.scope scope) (hi:PI X tg iter wi)
 (hg:∀C s H fp,PG (gM X scope C N s H fp) tg g) (hcs:∀C s H fp,PTs (gM X scope C N s H fp) ifs tc) (he:∀C s H fp,PE (gM X scope C N s H fp) elt te)
 (hs:∀x,foldedSetIterable iter X.env x=pure x:=by intro _;rfl):PE X (.ListComp elt [⟨tg,iter,ifs,0⟩] scope pos) (Q9 own caps wi g tc te):=by
 intro pins s σ H Q I h;rw [eval_ListComp];refine Jw (use:=none) hc S hg hcs he hi hs I h ?_;intro D C H' s' hn I' hk _ q;obtain ⟨m,hn⟩:=hn;exact ⟨m,hn,fun h' hs'=>⟨.ref D,H',hk h' hs',rfl,q⟩⟩
theorem wj {i:Nat} {x:Str} {px sp:Pos} (hc:X.calm=true) (hN:X.N.Nodup) (hx:X.N[i]? = some x) (hl:Loc X.env.scope x) (S:bH N own caps X.N X.env.scope scope) (hi:PI X tg iter wi)
 (hg:∀C s H fp,PG (gM X scope C N s H fp) tg g) (hcs:∀C s H fp,PTs (gM X scope C N s H fp) ifs tc) (he:∀C s H fp,PE (gM X scope C N s H fp) elt te)
 (hsw:swapsWith (.ListComp elt [⟨tg,iter,ifs,0⟩] scope pos) (some (.Name x px)) sp.line X.env=pure true:=by rfl)
 (hs:∀x,foldedSetIterable iter X.env x=pure x:=by intro _;rfl) (hf:X.fn x=true\/X.env.scope.names.lookup x=some .local:=by first |exact .inl rfl|exact .inr rfl|assumption):
 PS X (.Assign [.Name x px] (.ListComp elt [⟨tg,iter,ifs,0⟩] scope pos) sp) (Ze (Q9 own caps wi g tc te) (gO i)):=by
 intro pins s σ H D I h;rw [exec_Assign_Name_used _ _ _ _ hsw];refine wpAny_bind (wpAny_standAt (wpAny_bind ?_));show wpAny _ X.A (do let _ ←comprehension (.ListComp elt [⟨tg,iter,ifs,0⟩] scope pos) scope X.env (firstIterPos [⟨tg,iter,ifs,0⟩] pos) (newList []) false (eval iter X.env) (some (assign (.Name x px) X.env))) _ _ s;refine wpAny_bind (wpAny_mono (Jw (use:=some (assign (.Name x px) X.env)) (Qv:=fun _ s'=>SP X pins D .next s') hc S hg hcs he hi hs I h ?_) (fun _ s' hq=>wpAny_pure (wpAny_pure hq)) fun _ _ e=>e);intro E C H' s' hn I' hk fC q;obtain ⟨m,hn⟩:=hn;obtain ⟨f0,f1,f2,f3,f4,f5⟩:=fC;show wpAny _ X.A (assign (.Name x px) X.env (.ref E)) _ _ _;refine wpAny_assign_Name (DW I' hN hx hl (v:= .ref E) rfl (fun s2 I2 k=> ?_) hf);refine ⟨m, ?_,fun h' hs'=> ?_⟩
 ·obtain ⟨o,es,ep,ho,r⟩:=hn
  obtain ⟨a,ks,ka⟩:=k
  have hCa:C≠a:=fun z=>by
   rcases ka with q'|q'
   ·exact f1 (z.trans q')
   ·exact f4 x a q' z.symm
  exact ⟨o,es,ep,(ks.2 C hCa).trans ho,r⟩
 ·exact ⟨_,H',I2.turned (t':=s2.toks) (fun b o hb e=>(hs'.2 b hb).trans e) f0 f1 f3 f4 f5,q⟩
end
def Uj (N own:List Str) (caps:List Nat) (XN:List Str) (outer scope:Scope):Bool:=
 decide (scope.kind = .function)&&scope.names.all (fun y=>decide (y.2 ≠ .cell))&&scope.names.all (fun y=>decide (y.2 ≠ .local)||decide (scope.names.lookup y.1=some .local)) &&
 scope.names.all (fun y=>decide (y.2 ≠ .free)||decide (outer.names.lookup y.1=some .cell)||decide (outer.names.lookup y.1=some .free))&&decide N.Nodup&&decide (N.length=own.length+caps.length) &&
 (List.range caps.length).all (fun j=>match N[own.length+j]? with |some x=>decide (XN[caps.getD j 0]? = some x)&&decide ((x,NameKind.free)∈scope.names)&&decide (scope.names.lookup x=some .free)|none=>false)
theorem bH.of {N own:List Str} {caps:List Nat} {XN:List Str} {outer scope:Scope} (h:Uj N own caps XN outer scope=true):bH N own caps XN outer scope:=by
 unfold Uj at h;simp only [Bool.and_eq_true,decide_eq_true_eq,List.all_eq_true,Bool.or_eq_true] at h;obtain ⟨⟨⟨⟨⟨⟨h1,h2⟩,h3⟩,h4⟩,h5⟩,h6⟩,h7⟩:=h;refine ⟨h1,h2,fun y hy e=> ?_,fun y hy e=> ?_,h5,h6,fun j hj=> ?_⟩
 ·rcases h3 y hy with z|z
  ·exact absurd e z
  ·exact z
 ·rcases h4 y hy with (z|z)|z
  ·exact absurd e z
  ·exact .inl z
  ·exact .inr z
 ·have q:=h7 j (List.mem_range.mpr hj)
  cases e:N[own.length+j]? with
  | none=>rw [e] at q;cases q
  | some x=>
    rw [e] at q;simp only [Bool.and_eq_true,decide_eq_true_eq] at q;exact ⟨q.1.1.symm,x,rfl,q.1.2,q.2⟩
end L2
set_option Elab.async false
set_option linter.all false
set_option maxRecDepth 100000
set_option maxHeartbeats 4000000
namespace L2
open PySem PySem.Spec PyProof.Rows
mutual
def Dat (H:Hp):V->PyData->Prop
 | v,.none=>v = .non
 | v,.bool b=>v = .bl b
 | v,.int i=>v = .int i
 | v,.str x=>v = .str x
 | v,.list ds=>∃a vs,v = .ref a/\H a=some (.lst vs)/\aR H vs ds
 | v,.tuple ds=>∃a vs,v = .ref a/\H a=some (.tup vs)/\aR H vs ds
 | _,.dict _=>False
def aR (H:Hp):List V->List PyData->Prop
 | [],[]=>True
 | v::vs,d::ds=>Dat H v d/\aR H vs ds
 | [],_::_=>False
 | _::_,[]=>False
end
section
variable {H H':Hp}
theorem aR.length:∀{vs:List V} {ds:List PyData},aR H vs ds->vs.length=ds.length
 | [],[],_=>rfl
 | _::_,_::_,h=>by simp only [aR] at h;simp [aR.length h.2]
 | [],_::_,h=>by simp only [aR] at h
 | _::_,[],h=>by simp only [aR] at h
theorem aR.get:∀{vs:List V} {ds:List PyData} {i:Nat} {v:V},aR H vs ds->vs[i]? = some v -> ∃d,ds[i]? = some d/\Dat H v d
 | _::_,_::_,0,_,h,e=>by simp only [aR] at h;simp at e;subst e;exact ⟨_,rfl,h.1⟩
 | _::_,_::_,i+1,_,h,e=>by simp only [aR] at h;simp at e;obtain ⟨d,q,r⟩:=aR.get h.2 e;exact ⟨d,by simpa using q,r⟩
 | [],[],_,_,_,e=>by simp at e
 | [],_::_,_,_,h,_=>by simp only [aR] at h
 | _::_,[],_,_,h,_=>by simp only [aR] at h
theorem aR.getD:∀{vs:List V} {ds:List PyData} {i:Nat} {d:PyData},aR H vs ds->ds[i]? = some d -> ∃v,vs[i]? = some v/\Dat H v d
 | _::_,_::_,0,_,h,e=>by simp only [aR] at h;simp at e;subst e;exact ⟨_,rfl,h.1⟩
 | _::_,_::_,i+1,_,h,e=>by simp only [aR] at h;simp at e;obtain ⟨d,q,r⟩:=aR.getD h.2 e;exact ⟨d,by simpa using q,r⟩
 | [],[],_,_,_,e=>by simp at e
 | [],_::_,_,_,h,_=>by simp only [aR] at h
 | _::_,[],_,_,h,_=>by simp only [aR] at h
theorem aR.append:∀{vs ws:List V} {ds es:List PyData},aR H vs ds->aR H ws es->aR H (vs++ws) (ds++es)
 | [],_,[],_,_,g=>g
 | _::_,_,_::_,_,h,g=>by simp only [aR,List.cons_append] at h ⊢;exact ⟨h.1,aR.append h.2 g⟩
 | [],_,_::_,_,h,_=>by simp only [aR] at h
 | _::_,_,[],_,h,_=>by simp only [aR] at h
theorem aR.ints (ns:List Int):aR H (ns.map V.int) (ns.map PyData.int):=by
 induction ns with
 | nil=>simp only [List.map_nil,aR]
 | cons n r ih=>simp only [List.map_cons,aR,Dat];exact ⟨trivial,ih⟩
mutual
theorem Dat.mono (hl:∀a xs,H a=some (HO.lst xs)->H' a=some (HO.lst xs)) (ht:∀a xs,H a=some (HO.tup xs)->H' a=some (HO.tup xs)):∀(d:PyData) {v:V},Dat H v d->Dat H' v d
 | .none,_,h=>by simp only [Dat] at h ⊢;exact h
 | .bool _,_,h=>by simp only [Dat] at h ⊢;exact h
 | .int _,_,h=>by simp only [Dat] at h ⊢;exact h
 | .str _,_,h=>by simp only [Dat] at h ⊢;exact h
 | .list ds,_,h=>by simp only [Dat] at h ⊢;obtain ⟨a,vs,e,q,r⟩:=h;exact ⟨a,vs,e,hl _ _ q,aR.mono hl ht ds r⟩
 | .tuple ds,_,h=>by simp only [Dat] at h ⊢;obtain ⟨a,vs,e,q,r⟩:=h;exact ⟨a,vs,e,ht _ _ q,aR.mono hl ht ds r⟩
 | .dict _,_,h=>by simp only [Dat] at h
theorem aR.mono (hl:∀a xs,H a=some (HO.lst xs)->H' a=some (HO.lst xs)) (ht:∀a xs,H a=some (HO.tup xs)->H' a=some (HO.tup xs)):∀(ds:List PyData) {vs:List V},aR H vs ds->aR H' vs ds
 | [],[],_=>by simp only [aR]
 | d::ds,v::vs,h=>by simp only [aR] at h ⊢;exact ⟨Dat.mono hl ht d h.1,aR.mono hl ht ds h.2⟩
 | _::_,[],h=>by simp only [aR] at h
 | [],_::_,h=>by simp only [aR] at h
end
mutual
def Gy:PyData->Bool
 | .tuple ds=>vo ds
 | .list _ | .dict _=>false
 | .none | .bool _ | .int _ | .str _=>true
def vo:List PyData->Bool
 | []=>true
 | d::ds=>Gy d&&vo ds
end
mutual
theorem Dat.keep (ht:∀a xs,H a=some (HO.tup xs)->H' a=some (HO.tup xs)):∀(d:PyData) {v:V},Gy d=true->Dat H v d->Dat H' v d
 | .none,_,_,h=>by simp only [Dat] at h ⊢;exact h
 | .bool _,_,_,h=>by simp only [Dat] at h ⊢;exact h
 | .int _,_,_,h=>by simp only [Dat] at h ⊢;exact h
 | .str _,_,_,h=>by simp only [Dat] at h ⊢;exact h
 | .list ds,_,i,h=>by simp only [Gy] at i;cases i
 | .tuple ds,_,i,h=>by simp only [Dat] at h ⊢;simp only [Gy] at i;obtain ⟨a,vs,e,q,r⟩:=h;exact ⟨a,vs,e,ht _ _ q,aR.keep ht ds i r⟩
 | .dict _,_,_,h=>by simp only [Dat] at h
theorem aR.keep (ht:∀a xs,H a=some (HO.tup xs)->H' a=some (HO.tup xs)):∀(ds:List PyData) {vs:List V},vo ds=true->aR H vs ds->aR H' vs ds
 | [],[],_,_=>by simp only [aR]
 | d::ds,v::vs,i,h=>by simp only [aR] at h ⊢;simp only [vo,Bool.and_eq_true] at i;exact ⟨Dat.keep ht d i.1 h.1,aR.keep ht ds i.2 h.2⟩
 | _::_,[],_,h=>by simp only [aR] at h
 | [],_::_,_,h=>by simp only [aR] at h
end
theorem cY {α:Type} (f:α->PyData) (h:∀x,Gy (f x)=true):∀l:List α,vo (l.map f)=true
 | []=>rfl
 | a::l=>by simp only [List.map_cons,vo,h a,cY f h l,Bool.and_self]
end
section
variable {X:Cx} {pins:List (Addr×Obj)} {σ:St} {H:Hp} {s:Shared}
mutual
theorem Inv.reads (I:Inv X pins σ H s):∀(d:PyData) {v:V} {u:Value},Dat H v d->RelV v u -> ∃as,Reads s.heap u d as
 | .none,v,u,h,r=>by
   simp only [Dat] at h;subst h;cases (show u=Value.none from r);exact ⟨_,.none⟩
 | .bool b,v,u,h,r=>by
   simp only [Dat] at h;subst h;cases (show u=Value.bool b from r);exact ⟨_,.bool b⟩
 | .int i,v,u,h,r=>by
   simp only [Dat] at h;subst h;obtain ⟨t,q⟩:=(show ∃t,u=Value.int i t from r);cases q;exact ⟨_,.int i t⟩
 | .str x,v,u,h,r=>by
   simp only [Dat] at h;subst h;obtain ⟨t,q⟩:=(show ∃t,u=Value.str x t from r);cases q;exact ⟨_,.str x t⟩
 | .list ds,v,u,h,r=>by
   simp only [Dat] at h;obtain ⟨a,vs,rfl,q,g⟩:=h;cases (show u=Value.ref a from r);obtain ⟨its,rv,p,hz⟩:=I.list (bL.of q);obtain ⟨o,ho,hc,n,hd⟩:=p.isList;obtain ⟨as,ra⟩:=Inv.readsAll I ds g rv;exact ⟨_,.list ho hc hd (by simpa using ra)⟩
 | .tuple ds,v,u,h,r=>by
   simp only [Dat] at h;obtain ⟨a,vs,rfl,q,g⟩:=h;cases (show u=Value.ref a from r);obtain ⟨its,rv,p,hz⟩:=I.tuple (cQ.of q);obtain ⟨o,ho,hc,n,hd⟩:=p;obtain ⟨as,ra⟩:=Inv.readsAll I ds g rv;exact ⟨_,.tuple ho hc hd (by simpa using ra)⟩
 | .dict _,_,_,h,_=>by simp only [Dat] at h
theorem Inv.readsAll (I:Inv X pins σ H s):∀(ds:List PyData) {vs:List V} {us:List Value},aR H vs ds->Vals vs us -> ∃as,ReadsAll s.heap us ds as
 | [],[],_,_,.nil=>⟨_,.nil⟩
 | d::ds,v::vs,_,h,.cons r rs=>by
   simp only [aR] at h;obtain ⟨as,ra⟩:=Inv.reads I d h.1 r;obtain ⟨bs,rb⟩:=Inv.readsAll I ds h.2 rs;exact ⟨_,.cons ra rb⟩
 | _::_,[],_,h,_=>by simp only [aR] at h
 | [],_::_,_,h,_=>by simp only [aR] at h
end
def VP (neg:Bool):R2:=fun x y H Q=>∃d e,Dat H x d/\Dat H y e/\SeqAt.shaped d=true/\SeqAt.shaped e=true/\Q (.bl (if neg then !PyData.eqv d e else PyData.eqv d e)) H
theorem ZR (hu:X.A.units+64<cLine):rB X (compareOp .Eq) (VP false):=by
 intro pins s σ H x y v u Q I rx ry h;obtain ⟨d,e,h1,h2,s1,s2,q⟩:=h;obtain ⟨as,ra⟩:=I.reads d h1 rx;obtain ⟨bs,rb⟩:=I.reads e h2 ry;exact SeqAt.compareEq_shaped ra rb s1 s2 hu ⟨.bl _,H,I,rfl,q⟩
theorem ZQ (hu:X.A.units+64<cLine):rB X (compareOp .NotEq) (VP true):=by
 intro pins s σ H x y v u Q I rx ry h;obtain ⟨d,e,h1,h2,s1,s2,q⟩:=h;obtain ⟨as,ra⟩:=I.reads d h1 rx;obtain ⟨bs,rb⟩:=I.reads e h2 ry;exact SeqAt.compareNe_shaped ra rb s1 s2 hu ⟨.bl _,H,I,rfl,q⟩
theorem Um {c:Value} {cv:V} (rc:RelV cv c):jZ X (.builtin "isinstance") (fun xs H Q=>∃x t b,xs=[x,cv]/\wZ X.K H x t/\PySem.W.kitOne X.K t c=some b/\Q (.bl b) H):=by
 intro pins s σ H xs us Q I r h;obtain ⟨x,t,b,rfl,ty,e,q⟩:=h;obtain ⟨u,w',rfl,r1,r2⟩:=vals2 r
 have:w'=c:=by
  cases cv with
  | non=>exact (show w'=Value.none from r2).trans (show c=Value.none from rc).symm
  | bl b=>exact (show w'=Value.bool b from r2).trans (show c=Value.bool b from rc).symm
  | ref a=>exact (show w'=Value.ref a from r2).trans (show c=Value.ref a from rc).symm
  | ty n=>exact (show w'=Value.type n from r2).trans (show c=Value.type n from rc).symm
  | int i=>obtain ⟨t1,rfl⟩:=(show ∃t,c=Value.int i t from rc);unfold PySem.W.kitOne at e;exact absurd e (by cases ty<;>simp [PySem.W.kitCls])
  | str i=>obtain ⟨t1,rfl⟩:=(show ∃t,c=Value.str i t from rc);unfold PySem.W.kitOne at e;exact absurd e (by cases ty<;>simp [PySem.W.kitCls])
  | Lf i=>obtain ⟨t1,rfl⟩:=(show ∃t,c=Value.bytes i t from rc);unfold PySem.W.kitOne at e;exact absurd e (by cases ty<;>simp [PySem.W.kitCls])
  | flt i=>obtain ⟨t1,rfl⟩:=(show ∃t,c=Value.float i t from rc);unfold PySem.W.kitOne at e;exact absurd e (by cases ty<;>simp [PySem.W.kitCls])
 subst this;exact Pj I r1 ty e fun tk=>⟨.bl b,H,I.tok _,rfl,q⟩
end
section
variable {prog:Program} {w:World} {A:Around}
theorem Ak (hh:A.handled=none) (it a:Addr) (hne:it≠a) (its:List Value):Walks prog w A it [it,a] [it] its.length (fun i v=>its[i]? = some v) (fun i h=>h.IsListIter it a i/\h.IsList a its.toArray) where
 sub:=by simp
 frame:=fun i h h' ⟨s1,o,ho,hc⟩ k=>⟨s1.at fun o e=>k it (by simp) o e,o,k a (by simp) o ho,hc⟩
 item:=fun i s Q E hi ⟨s1,s2⟩ hQ=>wpAny_pyNext_list_item s1 s2 (x:=its[i]) (by simp [hi]) fun h' st' sb=>
  hQ _ h' s.toks (by simp [hi]) ⟨st',s2.extBut sb.extBut hne.symm⟩ fun b o hb e=>(sb.2 b (by simpa using hb)).trans e
 done:=fun s Q E ⟨s1,s2⟩ hQ=>wpAny_pyNext_list_end hh s1 s2 (by simp) fun h' eb=>hQ h' s.toks fun b o hb e=>eb b o (by simpa using hb) e
 self:=fun i s Q E ⟨s1,_⟩ hQ=>wpAny_pyIter_listiter s1 hQ
end
section
variable {X:Cx}
theorem Di (bs:List Bool):(List.range bs.length).all (fun i=>(bs[i]?).getD false)=bs.all id:=by
 rw [Bool.eq_iff_iff,List.all_eq_true,List.all_eq_true];constructor
 ·intro h b hb
  obtain ⟨i,hi,rfl⟩:=List.getElem_of_mem hb;have:=h i (by simpa using hi);simpa [hi] using this
 ·intro h i hi
  have hi':i<bs.length:=by simpa using hi
  simpa [hi'] using h bs[i] (List.getElem_mem hi')
theorem JX {bs:List Bool}:∀{us:List Value},Vals (bs.map V.bl) us->us=bs.map Value.bool:=by
 induction bs with
 | nil=>intro us r;cases r;rfl
 | cons b bs ih=>
   intro us r;cases r with
   | cons r rs=>cases (show _=Value.bool b from r);rw [ih rs];rfl
theorem Cq (hc:X.calm=true):jZ X (.builtin "all") (fun xs H Q=>∃(p:Addr) (bs:List Bool),xs=[.ref p]/\bL X.K H p (bs.map V.bl)/\Q (.bl (bs.all id)) H):=by
 intro pins s σ H xs us Q I r h;obtain ⟨p,bs,rfl,hq,q⟩:=h;obtain ⟨u,rfl,rx⟩:=vals1 r;cases rx;obtain ⟨its,rv,pl,hz⟩:=I.list hq;have e:=JX rv;have hlen:its.length=bs.length:=by rw [e,List.length_map]
 refine call_all_walk (wpAny_pyIter_list pl.isList ⟨s.heap.objs.size,[s.heap.objs.size,p],[s.heap.objs.size],its.length,_,_,fun i=>(bs[i]?).getD false,rfl,
  Ak (show X.A.in1.handled=none from I.ok.hd hc) s.heap.objs.size p ?_ its,⟨⟨_,Heap.get?_push_size _ rfl,rfl,rfl⟩, ?_⟩, ?_, ?_⟩)
 ·intro z
  obtain ⟨o,ho,_⟩:=pl.isList;have:=Heap.lt_size ho;rw [←z] at this;exact Nat.lt_irrefl _ this
 ·obtain ⟨o,ho,hcl⟩:=pl.isList
  exact ⟨o,Heap.get?_push_of_some _ ho,hcl⟩
 ·intro i v s1 Q1 E1 hP hQ
  rw [e,List.getElem?_map] at hP;cases r:bs[i]? with
  | none=>rw [r] at hP;cases hP
  | some b=>
    rw [r] at hP;cases hP;simp only [r,Option.getD_some] at hQ;exact wpAny_truthy_bool hQ
 ·intro h' tk k
  rw [hlen,Di];have f:=I.Ca (H':=H) (b:=s.heap.objs.size) (Nat.le_refl _) (I.hok.fresh (Nat.le_refl _));have I2:Inv X pins σ H {s with heap:=h',toks:=tk}:=I.turned (h':=h') (t':=tk) (it:=s.heap.objs.size) (fun b o hb e=>k b o (by simpa using hb) (Heap.get?_push_of_some _ e)) f.1 f.2.1 f.2.2.2.1 f.2.2.2.2.1 f.2.2.2.2.2;exact ⟨.bl _,H,I2,rfl,q⟩
end
end L2
set_option Elab.async false
set_option linter.all false
set_option maxRecDepth 100000
set_option maxHeartbeats 4000000
namespace L2
open PySem PySem.Spec PyProof.Rows
def FnAt (P:Program) (w:World) (K:PySem.W.Frag) (mg:Str->Option Value) (base:Heap) (k:Nat) (x:Str) (ps:List Str) (sp:Sp):Prop:=
 ∃f fd,bV P w K mg base j4 k f fd ps sp/\mg x=some (.ref f)/\PySem.W.keepIn K (.ref f)=true/\Binds K fd ps []
section
variable {X:Cx} {k j:Nat} {x:Str} {ps:List Str} {sp:Sp} {e:Expr} {es:List Expr} {t:TA} {p pos:Pos}
theorem b_ (F:FnAt X.prog X.w X.K X.mg X.base k x ps sp) (hr:dZ k X.A) (hg:Gl X x) (ha:PA X (e::es) t) (hd:(x==("__debug__" :Str))=false:=by decide)
 (he:starEach (e::es) X.env=(false,eval e X.env)::starEach es X.env:=by rfl) (hpl:(backTo pos (starEach es X.env)).any (·.1)=false:=by rfl):
 PE X (.Call (.Name x p) (e::es) [] pos) (X3 sp [] E0 t):=by
 obtain ⟨f,fd,G,hm,hk,hb⟩:=F;exact V_ G hr hg hm hk hb .nil Mq ha (hdb:=hd) (he:=he) (hpl:=hpl)
end
theorem G7:bootBuiltins "all" = some (.builtin "all"):=by kernel_rfl
theorem dY:bootBuiltins "len" = some (.builtin "len"):=by kernel_rfl
theorem aaN:bootBuiltins "min" = some (.builtin "min"):=by kernel_rfl
theorem Ur:bootBuiltins "sum" = some (.builtin "sum"):=by kernel_rfl
theorem Qe:bootBuiltins "sorted" = some (.builtin "sorted"):=by kernel_rfl
theorem bI:bootBuiltins "isinstance" = some (.builtin "isinstance"):=by kernel_rfl
theorem vC:bootBuiltins "int" = some (.type "int"):=by kernel_rfl
theorem wR:bootBuiltins "bool" = some (.type "bool"):=by kernel_rfl
theorem fV:bootBuiltins "list" = some (.type "list"):=by kernel_rfl
theorem wQ:bootBuiltins "tuple" = some (.type "tuple"):=by kernel_rfl
theorem aaM:bootBuiltins "str" = some (.type "str"):=by kernel_rfl
section
variable {X:Cx}
theorem Mr:rB X (binaryOp .Mult) (rI IntMulOk fun i j=> .int (i*j)):=opI fun _ _ _ _ _ _ _ hc q=>mul_int q hc
end
def Kp (r:Addr) (H H':Hp):Prop:=∀b o,H b=some o->b≠r->H' b=some o
theorem Kp.of_same {r:Addr} {H H':Hp} (h:Same H H'):Kp r H H':=fun b o e _=>h b o e
theorem Kp.trans {r:Addr} {H H1 H2:Hp} (a:Kp r H H1) (b:Kp r H1 H2):Kp r H H2:=fun c o h n=>b c o (a c o h n) n
theorem Kp.refl (r:Addr) (H:Hp):Kp r H H:=fun _ _ h _=>h
theorem Kp.set {r:Addr} {H:Hp} {o:HO}:Kp r H (upd H r o):=fun b u e n=>by rw [aD n];exact e
theorem aJ {H:Hp} {p:Addr} {o:HO} (h:H p=none):Same H (upd H p o):=fun b u e=>by rw [aD (aA e h)];exact e
theorem Same.tups {H H':Hp} (e:Same H H'):∀a xs,H a=some (HO.tup xs)->H' a=some (HO.tup xs):=fun a xs h=>e _ _ h
theorem Same.sqL {K:PySem.W.Frag} {H H':Hp} (e:Same H H'):∀a xs,bL K H a xs->bL K H' a xs:=fun a xs h=>e.seq h
theorem Kp.tups {H H':Hp} {r:Addr} {ys:List V} (e:Kp r H H') (hr:H r=some (.lst ys)):∀a xs,H a=some (HO.tup xs)->H' a=some (HO.tup xs):=fun a xs h=>e _ _ h (d_ h hr (by intro z;cases z))
end L2
namespace L2
open PySem PySem.Spec PyProof.Rows
section
variable {X:Cx} {K:PySem.W.Frag}
theorem bB (h:X.K=K):IxR X (ab_ K):=by subst h;exact Wy
theorem bx (h:X.K=K):IxR X (ab9 K):=by subst h;exact aaj
theorem vV (h:X.K=K):SlR X (ab5 K):=by subst h;exact Vx
theorem Mg (h:X.K=K):SlR X (ab4 K):=by subst h;exact Zi
theorem Ks (h:X.K=K):rB X (compareOp .In) (rIn K false):=by subst h;exact Oi
theorem Dj (h:X.K=K):rB X (compareOp .NotIn) (rIn K true):=by subst h;exact Gh
def ahh (K:PySem.W.Frag):List V->Hp->VK->Prop:=fun xs H Q=>∃(p:Addr) (ys:List V),xs=[.ref p]/\(bL K H p ys\/cQ K H p ys)/\Q (.int ys.length) H
theorem aZ (h:X.K=K):jZ X (.builtin "len") (ahh K):=by subst h;exact G5
def VL (K:PySem.W.Frag):List V->Hp->VK->Prop:=fun xs H Q=>∃(p:Addr) (ys:List V),xs=[.ref p]/\(bL K H p ys\/cQ K H p ys) /\ ∀l,H l=none->Q (.ref l) (upd H l (.lst ys))
theorem cC (h:X.K=K):jZ X (.type "list") (VL K):=by subst h;exact G4
def ace (K:PySem.W.Frag):List V->Hp->VK->Prop:=fun xs H Q=>∃(p:Addr) (bs:List Bool),xs=[.ref p]/\bL K H p (bs.map V.bl)/\Q (.bl (bs.all id)) H
theorem jf (h:X.K=K) (hc:X.calm=true):jZ X (.builtin "all") (ace K):=by subst h;exact Cq hc
theorem Gi (h:X.K=K) (hu:X.A.units+64<cLine):rB X (compareOp .Eq) (VP false):=by subst h;exact ZR hu
theorem Wa (h:X.K=K) (hu:X.A.units+64<cLine):rB X (compareOp .NotEq) (VP true):=by subst h;exact ZQ hu
theorem fW {tg l:Expr} {tl:TE} (h:X.K=K) (hl:PE X l tl):PI X tg l (Yi K tl):=by subst h;exact V6 hl
theorem V5 {tg l:Expr} {tl:TE} (h:X.K=K) (hl:PE X l tl):PI X tg l (acI K tl):=by subst h;exact ZD hl
def ahi (K:PySem.W.Frag) (c:Value) (cv:V):List V->Hp->VK->Prop:=fun xs H Q=>∃x t b,xs=[x,cv]/\wZ K H x t/\PySem.W.kitOne K t c=some b/\Q (.bl b) H
theorem dh {c:Value} {cv:V} (h:X.K=K) (rc:RelV cv c):jZ X (.builtin "isinstance") (ahi K c cv):=by subst h;exact Um rc
theorem kY {o e:Expr} {to:TE} {t:TA} {apos cpos:Pos} (h:X.K=K) (ho:PE X o to) (ha:PA X [e] t)
 (hbase:attributeBase o "append" X.env (eval o X.env)=eval o X.env:=by rfl)
 (hfew:((backTo cpos (starEach [e] X.env)).all (fun x=> !x.1)&&(backToKw cpos (keywordEach [] X.env)).all (fun x=>x.1.isSome)
   && decide (([e]:List Expr).length+([]:List Keyword).length+(if ([]:List Keyword).isEmpty then 0 else 1)<30))=true:=by rfl)
 (hline:(apos.endLine==cpos.line)=true:=by rfl) (hs:starEach [e] X.env=(false,eval e X.env)::starEach [] X.env:=by rfl) (hplain:(backTo cpos (starEach [] X.env)).any (·.1)=false:=by rfl):
 PE X (.Call (.Attribute o "append" apos) [e] [] cpos) (tBM K "list" Ml to t):=by
 subst h;exact X8 PySem.F.plainAttrs_list PySem.F.slot_list_append PySem.F.type_list_append Ec ho ha hbase hfew hline hs hplain
end
end L2
namespace L2
open PySem
section
variable {K:PySem.W.Frag} {a D:Addr} {xs:List V} {g:TG} {tc:TT} {te:TE} {Q:VK} {σ0:St} {H1:Hp}
theorem pL (Pv:Nat->St->Hp->Prop) (h0:Pv 0 σ0 (upd H1 D (.lst []))) (hl:∀i σ H,i<=xs.length->Pv i σ H->bL K H a xs)
 (hs:∀i x σ H,xs[i]? = some x->Pv i σ H->g x σ H fun σ2 H2=>tc σ2 H2 fun b H3=>
   if b=true then te σ2 H3 fun y H4=>∃acc,H4 D=some (.lst acc)/\acc.length<sizeLine/\Pv (i+1) σ2 (upd H4 D (.lst (acc++[y]))) else Pv (i+1) σ2 H3)
 (hd:∀σ H,Pv xs.length σ H->Q (.ref D) H):oK (Yy K a) g tc te Q D σ0 H1:=by
 refine ⟨fun i m σ H=>m=xs.length - i/\i<=xs.length/\Pv i σ H,⟨xs.length,by simp,Nat.zero_le _,h0⟩, ?_⟩;rintro i m σ H ⟨rfl,hi,p⟩;have q:=hl i σ H hi p
 by_cases hlt:i<xs.length
 ·refine .inr ⟨⟨xs,xs[i],q,by simp [hlt]⟩,Pv (i+1),fun σ' H' p'=>⟨xs.length - (i+1),by omega,rfl,hlt,p'⟩,fun x H' y=> ?_⟩
  obtain ⟨e,y⟩:=y;subst e;exact hs i x σ _ (y xs q) p
 ·have e:i=xs.length:=by omega
  subst e;exact .inl ⟨⟨xs,q,Nat.le_refl _⟩,hd σ H p⟩
theorem Ui (Pv:Nat->St->Hp->Prop) (h0:Pv 0 σ0 (upd H1 D (.lst []))) (hl:∀i σ H,i<=xs.length->Pv i σ H->cQ K H a xs)
 (hs:∀i x σ H,xs[i]? = some x->Pv i σ H->g x σ H fun σ2 H2=>tc σ2 H2 fun b H3=>
   if b=true then te σ2 H3 fun y H4=>∃acc,H4 D=some (.lst acc)/\acc.length<sizeLine/\Pv (i+1) σ2 (upd H4 D (.lst (acc++[y]))) else Pv (i+1) σ2 H3)
 (hd:∀σ H,Pv xs.length σ H->Q (.ref D) H):oK (Itt K a) g tc te Q D σ0 H1:=by
 refine ⟨fun i m σ H=>m=xs.length - i/\i<=xs.length/\Pv i σ H,⟨xs.length,by simp,Nat.zero_le _,h0⟩, ?_⟩;rintro i m σ H ⟨rfl,hi,p⟩;have q:=hl i σ H hi p
 by_cases hlt:i<xs.length
 ·refine .inr ⟨⟨xs,xs[i],q,by simp [hlt]⟩,Pv (i+1),fun σ' H' p'=>⟨xs.length - (i+1),by omega,rfl,hlt,p'⟩,fun x H' y=> ?_⟩
  obtain ⟨e,y⟩:=y;subst e;exact hs i x σ _ (y xs q) p
 ·have e:i=xs.length:=by omega
  subst e;exact .inl ⟨⟨xs,q,Nat.le_refl _⟩,hd σ H p⟩
theorem nQ {lo:Int} {n:Nat} (Pv:Nat->St->Hp->Prop) (h0:Pv 0 σ0 (upd H1 D (.lst [])))
 (hs:∀i σ H,i<n->Pv i σ H->g (.int (lo+i)) σ H fun σ2 H2=>tc σ2 H2 fun b H3=>
   if b=true then te σ2 H3 fun y H4=>∃acc,H4 D=some (.lst acc)/\acc.length<sizeLine/\Pv (i+1) σ2 (upd H4 D (.lst (acc++[y]))) else Pv (i+1) σ2 H3)
 (hd:∀σ H,Pv n σ H->Q (.ref D) H):oK (Vh lo n) g tc te Q D σ0 H1:=by
 refine ⟨fun i m σ H=>m=n - i/\i<=n/\Pv i σ H,⟨n,by simp,Nat.zero_le _,h0⟩, ?_⟩;rintro i m σ H ⟨rfl,hi,p⟩
 by_cases hlt:i<n
 ·refine .inr ⟨hlt,Pv (i+1),fun σ' H' p'=>⟨n - (i+1),by omega,rfl,hlt,p'⟩,fun x H' y=> ?_⟩
  obtain ⟨e,y⟩:=y;subst e y;exact hs i σ _ hlt p
 ·have e:i=n:=by omega
  subst e;exact .inl ⟨Nat.le_refl _,hd σ H p⟩
end
end L2
set_option Elab.async false
set_option linter.all false
set_option maxRecDepth 100000
set_option maxHeartbeats 4000000
namespace L2
open PySem PySem.Spec PyProof.Rows
section
variable {α:Type} (f:α->PyData)
theorem Cm:∀(l:List α),(∀x∈l,(f x).canLay0=true)->PyData.canLayAll0 (l.map f)=true
 | [],_=>rfl
 | a::l,h=>by
   show (PyData.canLay0 (f a)&&PyData.canLayAll0 (l.map f))=true;rw [h a List.mem_cons_self,Cm l fun x hx=>h x (List.mem_cons_of_mem _ hx)];rfl
theorem mX (k:Nat):∀(l:List α),(∀x∈l,(f x).depth<=k)->PyData.depthAll (l.map f)<=k
 | [],_=>Nat.zero_le _
 | a::l,h=>by
   show max (PyData.depth (f a)) (PyData.depthAll (l.map f))<=k;exact Nat.max_le.mpr ⟨h a List.mem_cons_self,mX k l fun x hx=>h x (List.mem_cons_of_mem _ hx)⟩
theorem yV {l:List α} (k:Nat) (hk:k<64) (h1:∀x∈l,(f x).canLay0=true) (h2:∀x∈l,(f x).depth<=k):SeqAt.shaped (.list (l.map f))=true:=by
 unfold SeqAt.shaped;have e1:PyData.canLay0 (.list (l.map f))=true:=Cm f l h1
 have e2:PyData.depth (.list (l.map f))<=64:=by
  show PyData.depthAll (l.map f)+1<=64;have:=mX f k l h2;omega
 rw [e1,decide_eq_true e2];rfl
theorem Ce [DecidableEq α] (h:∀x y,PyData.eqv (f x) (f y)=decide (x=y)):∀(l m:List α),PyData.eqvAll (l.map f) (m.map f)=decide (l=m)
 | [],[]=>rfl
 | [],_::_=>by simp only [List.map_nil,List.map_cons,PyData.eqvAll];exact (decide_eq_false (by intro z;cases z)).symm
 | _::_,[]=>by simp only [List.map_nil,List.map_cons,PyData.eqvAll];exact (decide_eq_false (by intro z;cases z)).symm
 | a::l,b::m=>by
   simp only [List.map_cons,PyData.eqvAll];rw [h a b,Ce h l m]
   by_cases e1:a=b
   ·subst e1
    by_cases e2:l=m
    ·subst e2;simp
    ·simp [e2]
   ·simp [e1]
theorem Jm [DecidableEq α] (h:∀x y,PyData.eqv (f x) (f y)=decide (x=y)) (l m:List α):PyData.eqv (.list (l.map f)) (.list (m.map f))=decide (l=m):=by
 simp only [PyData.eqv];exact Ce f h l m
end
theorem Jt {H:Hp} {a:Addr} {vs:List V} {ds:List PyData} (h:H a=some (.lst vs)) (d:aR H vs ds):Dat H (.ref a) (.list ds):=by
 simp only [Dat];exact ⟨a,vs,rfl,h,d⟩
theorem zf (K:PySem.W.Frag):PySem.W.kitOne K (.type "int") (.type "int")=some true:=rfl
theorem qL (K:PySem.W.Frag):PySem.W.kitOne K (.type "int") (.type "bool")=some false:=by kernel_rfl
theorem lF (K:PySem.W.Frag):PySem.W.kitOne K (.type "list") (.type "list")=some true:=rfl
theorem jd (K:PySem.W.Frag):PySem.W.kitOne K (.type "tuple") (.type "tuple")=some true:=rfl
theorem pq (K:PySem.W.Frag):PySem.W.kitOne K (.type "bool") (.type "bool")=some true:=rfl
end L2
namespace L2
open PySem
theorem Ue (xs:List V) (k:Nat):sI xs none (some (k:Int))=xs.take k:=by
 unfold sI;rw [HT.Bh,HT.Ga,List.drop_zero,Nat.sub_zero]
 by_cases h:k<=xs.length
 ·rw [Nat.min_eq_left h]
 ·rw [Nat.min_eq_right (by omega),List.take_of_length_le (Nat.le_refl _),List.take_of_length_le (by omega)]
theorem Jv (xs:List V) (k:Nat):sI xs (some (k:Int)) none=xs.drop k:=by
 unfold sI;rw [HT.Bh,HT.Ga]
 by_cases h:k<=xs.length
 ·rw [Nat.min_eq_left h,List.take_of_length_le (by rw [List.length_drop];exact Nat.le_refl _)]
 ·rw [Nat.min_eq_right (by omega),Nat.sub_self,List.take_zero,List.drop_of_length_le (by omega)]
end L2
set_option Elab.async false
set_option linter.all false
set_option maxRecDepth 100000
set_option maxHeartbeats 4000000
namespace PySem.W
open PySem PySem.Spec PySem.Calls PyProof.Rows
theorem W4:builtinKind "BaseException.__getattribute__" = some .slot:=by decide +kernel
theorem Tv:splitId "BaseException.__getattribute__" = some ("BaseException","__getattribute__"):=by decide +kernel
section
variable {prog:Program} {w:World} {A:Around} {E:Value->Shared->Prop} {s:Shared} {K:Frag} {x D:Addr} {ox:Obj} {odo:Option Obj} {name:Str}
theorem Pz {M:Model} {nameV:Value} {Q:Unit->Shared->Prop} (X:K.In s.heap) (I:InstAt s.heap x ox D odo) (hB:mroIn K D (.type "BaseException")=some true) (hq:Q () s):
 wpAny M A (checkBuiltinCall "BaseException.__getattribute__" ⟨[.ref x,nameV],[]⟩) Q E s:=by
 obtain ⟨hh,g,d,t,os⟩:=s;have L0:=I.type (M:=M);have L3:=looks_mroIn (M:=M) X hB;have ha:=F.args_bexc_ga (.ref x) nameV;simp only [checkBuiltinCall,W4,Tv];unfold isInstance
 repeat (first |lk|wp_step)
 all_goals first |exact hq|trace_state
theorem TQ {Q:Option Value->Shared->Prop} {gv a:Value} (X:K.In s.heap) (I:InstAt s.heap x ox D odo) (hga:findIn K (.ref D) "__getattribute__" = some (some (.builtin "BaseException.__getattribute__")))
 (hk:findIn K (.ref D) "__getattr__" = some none) (hB:mroIn K D (.type "BaseException")=some true) (hf:findObj K D odo name=some (.bind gv a))
 (FB:Slot "Exception" "__getattribute__" "BaseException.__getattribute__")
 (h:∀A',codeAny (model prog w) A' (.call gv ⟨[a,.ref x,.ref D],[]⟩) (fun r s'=>match r with | .ok (.ret v)=>wpAny (model prog w) A (handedOut v) (fun v s''=>Q (some v) s'') (fun _ _=>False) s'|_=>False) {s with toks:=s.toks+1}):
 wpAny (model prog w) A (getAttr? (.ref x) name) Q E s:=by
 obtain ⟨hh,g,d,t,os⟩:=s;have L0:=I.type (M:=model prog w);have L1:=looks_findIn (M:=model prog w) X hga;have L2:=looks_findIn (M:=model prog w) X hk;have L4:=looks_find (M:=model prog w) X I hf;have hx2:(Value.builtin "BaseException.__getattribute__" == Value.builtin "object.__getattribute__")=false:=by decide +kernel
 have f3:=FB.bind (.ref x);unfold getAttr? getAttrBy? getAttrBy;refine wpAny_bind (wpAny_mkText (wpAny_bind (wpAny_attempt (wpAny_holding (wpAny_bind (L0.at (wpAny_bind (L1.at ?_))))))));simp only [hx2,Bool.and_false,Bool.false_eq_true,if_false];unfold getAttrByItsOwn hookBefore;show wpAny _ _ (typeLookup (.ref D) "__getattr__" >>= _) _ _ _;refine wpAny_bind (L2.at ?_);refine wpAny_bind (wpAny_attempt (wpAny_holding ?_));unfold callGetattribute boundAndCalled;rw [if_neg (by decide)];refine wpAny_bind (wpAny_of_eq f3 ?_);refine wpAny_call (codeAny_call_builtin FB.plain F.entry_bexc_ga (Pz (s:=⟨hh,g,d,t+1,os⟩) X I hB ?_));show wpAny _ _ (Builtin.«object.__getattribute__» ⟨[.ref x,.str name t],[]⟩) _ _ _;unfold Builtin.«object.__getattribute__»;refine wpAny_bind (wpAny_pure ?_);refine wpAny_bind (wpAny_pure ?_);refine wpAny_bind (L0.at (wpAny_bind (L4.at ?_)));show wpAny _ _ (Builtin.ObjectAttr.bindTo gv a (.ref x) (.ref D)) _ _ _;unfold Builtin.ObjectAttr.bindTo;show wpAny _ _ (holding [a] (call gv [a,.ref x,.ref D]) >>= fun v=>ret v) _ _ _;refine wpAny_bind (wpAny_holding (wpAny_call (codeAny_mono (h _) fun r s' hr=> ?_)))
 match r,hr with
 | .ok (.ret v),hr=>
   refine wpAny_pure ?_;exact wpAny_mono hr (fun v s'' q=>wpAny_pure q) fun _ _ z=>z.elim
end
theorem TJ:Slot "Exception" "__getattribute__" "BaseException.__getattribute__" :=F.attr_Exception.ga
theorem Dp {K:Frag} {C:Addr} {od:Option Obj} {name:Str} {a g:Value} (hc:(clsIn K C).isSome=true) (ha:findIn K (.ref C) name=some (some a)) (hg:specialIn K a "__get__" = some (some g)) (ht:takesIn K a=some true):findObj K C od name=some (.bind g a):=by
 obtain ⟨cd,hc⟩:=Option.isSome_iff_exists.mp hc;unfold findObj;rw [hc,Option.bind_some,ha,Option.bind_some];simp [hg,ht]
theorem Py {prog:Program} {w:World} {A:Around} {E:Value->Shared->Prop} {s:Shared} {K:Frag} {x D:Addr} {ox:Obj} {odo:Option Obj} {Q:Option Value->Shared->Prop} (X:K.In s.heap) (I:InstAt s.heap x ox D odo)
 (hga:findIn K (.ref D) "__getattribute__" = some (some (.builtin "BaseException.__getattribute__"))) (hk:findIn K (.ref D) "__getattr__" = some none) (hB:mroIn K D (.type "BaseException")=some true)
 (hc:(clsIn K D).isSome=true) (ha:findIn K (.ref D) "__class__" = some (some (.builtin "object.__class__")))
 (hn:specialIn K (.builtin "object.__class__") "__get__" = some (some (.builtin "getset_descriptor.__get__"))) (htk:takesIn K (.builtin "object.__class__")=some true) (hm:mroIn K D (.type "object")=some true)
 (h:Q (some (.ref D)) {s with toks:=s.toks+1}):wpAny (model prog w) A (getAttr? (.ref x) "__class__") Q E s:=by
 have hf:findObj K D odo "__class__" = some (.bind (.builtin "getset_descriptor.__get__") (.builtin "object.__class__")):=Dp hc ha hn htk;exact TQ X I hga hk hB hf TJ fun A'=>class_get (s:={s with toks:=s.toks+1}) X I hm (handed_on rfl h)
structure Xp (K:Frag) (D:Addr):Prop where
 hga:findIn K (.ref D) "__getattribute__" = some (some (.builtin "BaseException.__getattribute__"))
 hk:findIn K (.ref D) "__getattr__" = some none
 hB:mroIn K D (.type "BaseException")=some true
 hc:(clsIn K D).isSome=true
 ha:findIn K (.ref D) "__class__" = some (some (.builtin "object.__class__"))
 hn:specialIn K (.builtin "object.__class__") "__get__" = some (some (.builtin "getset_descriptor.__get__"))
 htk:takesIn K (.builtin "object.__class__")=some true
 hm:mroIn K D (.type "object")=some true
theorem Jb {K:Frag} {x D:Addr} (c:Xp K D):KitX K (.ref x) (.ref D) (fun h=>∃ox odo,InstAt h x ox D odo) where
 ty:=fun _ _ _ ⟨_,_,I⟩=>I.type
 it:=fun _ _ X _=>by
  have hc:=c.hc;unfold clsIn at hc;split at hc
  ·rename_i c' d' cd' sl' ho
   intro A' Q' E' s' k q;unfold isType loadHead;exact wpAny_bind (wpAny_loadPart (k _ _ (X _ _ ho)) (wpAny_pure q))
  ·cases hc
 ne:=fun h tp dd its n sl X htp=>by
  have hc:=c.hc;refine Bool.eq_false_iff.mpr fun q=> ?_;have e:D=tp:=Value.ref.inj (beq_iff_eq.mp q);subst e;unfold clsIn at hc;split at hc
  ·rename_i c' d' cd' sl' ho
   have z:=(X _ _ ho).symm.trans htp;cases z
  ·cases hc
 ca:=fun X ⟨_,_,I⟩ k=>Py X I c.hga c.hk c.hB c.hc c.ha c.hn c.htk c.hm k
end PySem.W
set_option Elab.async false
set_option linter.all false
set_option maxRecDepth 100000
set_option maxHeartbeats 4000000
namespace L2
open PySem PySem.Spec PyProof.Rows
def yO (h:Heap) (e:Addr) (cls:Value) (dx:Option Addr) (lo:Addr->Prop):Option Value->Prop
 | none=>∃oe vs,h.get? e=some oe/\oe.cls=cls/\oe.dict=dx/\oe.data = .fields vs/\vs[1]? = some .none
 | some f=>∃oe vs T oT ts,h.get? e=some oe/\oe.cls=cls/\oe.dict=dx/\oe.data = .fields vs/\vs[1]? = some (.ref T)/\lo T/\T≠e/\h.get? T=some oT/\oT.data = .fields ts/\ts[3]? = some f
theorem yO.there {h:Heap} {e:Addr} {cls:Value} {dx:Option Addr} {lo:Addr->Prop} {f:Option Value} (x:yO h e cls dx lo f):∃oe vs,h.get? e=some oe/\oe.cls=cls/\oe.dict=dx/\oe.data = .fields vs:=by
 cases f with
 | none=>obtain ⟨oe,vs,a,b,c,d,_⟩:=x;exact ⟨oe,vs,a,b,c,d⟩
 | some f=>obtain ⟨oe,vs,_,_,_,a,b,c,d,_⟩:=x;exact ⟨oe,vs,a,b,c,d⟩
section
variable {M:Model} {A:Around} {E:Value->Shared->Prop} {s:Shared} {base:Heap} {env:Env} {outer:List Env} {L e:Addr}
structure sU (fr:List Addr) (e:Addr) (lo:Addr->Prop) (h h':Heap):Prop where
 keep:∀b o,h.get? b=some o->b∉fr->b≠e -> ¬lo b->h'.get? b=some o
 slot:∀b o,h.get? b=some o->b∈fr->b≠e -> ¬lo b -> ∃sl,h'.get? b=some {o with slots:=sl}
 there:∀b o,h.get? b=some o -> ∃o',h'.get? b=some o'
theorem sU.trans {fr:List Addr} {lo:Addr->Prop} {h h1 h2:Heap} (a:sU fr e lo h h1) (b:sU fr e lo h1 h2):sU fr e lo h h2 where
 keep:=fun c o q n1 n2 n3=>b.keep c o (a.keep c o q n1 n2 n3) n1 n2 n3
 slot:=fun c o q n1 n2 n3=>by
  obtain ⟨sl,q1⟩:=a.slot c o q n1 n2 n3;obtain ⟨sl2,q2⟩:=b.slot c _ q1 n1 n2 n3;exact ⟨sl2,q2⟩
 there:=fun c o q=>by
  obtain ⟨o1,q1⟩:=a.there c o q;exact b.there c o1 q1
theorem qw {h:Heap} {a:Addr} {o:Obj} {vs:Array Value} (q:h.get? a=some o) (d:o.data = .fields vs) (i:Nat) (v:Value):
 (h.update a (Obj.mapFields (·.setIfInBounds i v))).get? a=some (Obj.mapFields (·.setIfInBounds i v) o)/\(Obj.mapFields (·.setIfInBounds i v) o).data = .fields (vs.setIfInBounds i v) /\
   (Obj.mapFields (·.setIfInBounds i v) o).cls=o.cls/\(Obj.mapFields (·.setIfInBounds i v) o).dict=o.dict:=by
 have d2:=Obj.data_mapFields d (·.setIfInBounds i v);refine ⟨Heap.get?_update_self _ q (Obj.isFreed_of_fields d2),d2,Obj.cls_mapFields _ _, ?_⟩;obtain ⟨c,dd,dt,sl⟩:=o;simp only at d;subst d;rfl
theorem QK {oe:Obj} {vs:Array Value} {head:Value} {hadNext:Bool} {cls:Value} {dx:Option Addr} {lo:Addr->Prop} {Q:Unit->Shared->Prop} (hfr:A.frames=some (env::outer)) (hl:s.heap.FunFrames base (env::outer)) (hf:env.frame=some L)
 (he:s.heap.get? e=some oe) (hd:oe.data = .fields vs) (hsz:1<vs.size) (hc:oe.cls=cls) (hdx:oe.dict=dx) (hlo:∀T,s.heap.get? T=none->lo T)
 (h:∀h',sU (frs (env::outer)) e lo s.heap h'->yO h' e cls dx lo (some (rawInt L))->Q () {s with heap:=h'}):
 wpAny M A (do let a ←frameOf env;let pl ←entryPlaceOf L hadNext;let b ←EntryCells.newEntry head a .none (rawInt L) .none pl;setField (.ref e) 1 b) Q E s:=by
 have nfr:e∉frs (env::outer):=fun hm=>by
  obtain ⟨_,o,q,nf⟩:=hl.mem hm;rw [he] at q;cases q;exact nf vs hd
 refine wpAny_bind (wpAny_frameOf_fun hfr hl hf fun h1 hs1=> ?_);refine wpAny_bind (wpAny_entryPlaceOf fun pl hpl=> ?_);unfold EntryCells.newEntry newFields;refine wpAny_bind (wpAny_newObj_type ?_ (hpl.sizeOk5 _ _ _ _ _));generalize hob:({cls:= .type "traceback",dict:=none,data:= .fields ([head,.ref L,.none,rawInt L,.none]++(if pl.isEmpty then List.replicate 6 Value.none else pl)).toArray}:Obj)=ob;have q1:h1.get? e=some oe:=(hs1.2.1 e nfr).trans he;have q2:=Heap.get?_push_of_some (h:=h1) ob q1;have nTe:h1.objs.size≠e:=Nat.ne_of_gt (Heap.lt_size q1);have sizes:h1.objs.size=s.heap.objs.size:=hs1.1;have newT:s.heap.get? h1.objs.size=none:=Heap.get?_none_of_le (by rw [sizes];exact Nat.le_refl _);refine wpAny_setField q2 hd hsz (h _ ⟨fun b o q n1 n2 n3=> ?_,fun b o q n1 n2 n3=> ?_,fun b o q=> ?_⟩ ?_)
 ·rw [Heap.get?_update_other _ _ (Ne.symm n2)]
  exact Heap.get?_push_of_some _ ((hs1.2.1 b n1).trans q)
 ·obtain ⟨sl,q3⟩:=hs1.2.2 b o q
  refine ⟨sl, ?_⟩;rw [Heap.get?_update_other _ _ (Ne.symm n2)];exact Heap.get?_push_of_some _ q3
 ·obtain ⟨sl,q3⟩:=hs1.2.2 b o q
  by_cases hb:b=e
  ·subst hb
   exact ⟨_,(qw q2 hd 1 _).1⟩
  ·refine ⟨{o with slots:=sl}, ?_⟩
   rw [Heap.get?_update_other _ _ (Ne.symm hb)];exact Heap.get?_push_of_some _ q3
 ·obtain ⟨u1,u2,u3,u4⟩:=qw q2 hd 1 (Value.ref h1.objs.size)
  refine ⟨_,_,h1.objs.size,ob,_,u1,u3.trans hc,u4.trans hdx,u2,by simp [hsz],hlo _ newT,nTe, ?_,by rw [←hob], ?_⟩
  ·rw [Heap.get?_update_other _ _ (Ne.symm nTe)]
   exact Heap.get?_push_size _ (by rw [←hob];rfl)
  ·first |(simp;done)|(rcases hpl with rfl|⟨_,_,_,_,_,_,_,rfl⟩<;>simp)
theorem XH {cls:Value} {dx:Option Addr} {lo:Addr->Prop} {Q:Unit->Shared->Prop} {fl:Option Value} (hfl:fl=none\/fl=some .none) (hfr:A.frames=some (env::outer)) (hl:s.heap.FunFrames base (env::outer)) (hf:env.frame=some L)
 (x:yO s.heap e cls dx lo fl) (hlo:∀T,s.heap.get? T=none->lo T)
 (h:∀h',sU (frs (env::outer)) e lo s.heap h'->yO h' e cls dx lo (some (rawInt L))->Q () {s with heap:=h'}):wpAny M A (noteFrame (.ref e) env) Q E s:=by
 unfold noteFrame;simp only [hf];rcases hfl with rfl|rfl
 ·obtain ⟨oe,vs,he,hc,hdx,hd,h1⟩:=x
  refine wpAny_bind (wpAny_field he hd h1 ?_);rw [if_neg (by decide)];exact QK hfr hl hf he hd (Array.getElem?_eq_some_iff.mp h1).1 hc hdx hlo h
 ·obtain ⟨oe,vs,T,oT,ts,he,hc,hdx,hd,h1,hT,nT,Vg,hdT,h3⟩:=x
  refine wpAny_bind (wpAny_field he hd h1 ?_);rw [if_pos (show (Value.ref T != Value.none)=true from by simp)];refine wpAny_bind (wpAny_field Vg hdT h3 ?_);rw [if_neg (show ¬((Value.none==rawInt L)=true) from by simp [rawInt])];have hs3:3<ts.size:=(Array.getElem?_eq_some_iff.mp h3).1;refine wpAny_bind (wpAny_setField Vg hdT hs3 ?_);have oth:∀b,b≠T->(s.heap.update T (Obj.mapFields (·.setIfInBounds 3 Value.none))).get? b=s.heap.get? b:=fun b hb=>Heap.get?_update_other _ _ (Ne.symm hb);obtain ⟨u1,u2,u3,u4⟩:=qw Vg hdT 3 Value.none
  have n0:sU (frs (env::outer)) e lo s.heap (s.heap.update T (Obj.mapFields (·.setIfInBounds 3 Value.none))):=by
   have nb:∀b,¬lo b->b≠T:=fun b hb z=>hb (by rw [z];exact hT);refine ⟨fun b o q _ _ n3=>(oth b (nb b n3)).trans q,fun b o q _ _ n3=>⟨o.slots,(oth b (nb b n3)).trans q⟩,fun b o q=> ?_⟩
   by_cases hb:b=T
   ·subst hb;exact ⟨_,u1⟩
   ·exact ⟨o,(oth b hb).trans q⟩
  have ffs:(s.heap.update T (Obj.mapFields (·.setIfInBounds 3 Value.none))).FunFrames base (env::outer):=hl.of_keeps fun b o q nf=>by
   by_cases hb:b=T
   ·subst hb;rw [Vg] at q;cases q;exact absurd hdT (nf ts)
   ·exact ⟨o,(oth b hb).trans q,rfl⟩
  refine QK (s:={s with heap:=s.heap.update T (Obj.mapFields (·.setIfInBounds 3 Value.none))}) hfr ffs hf ((oth e (Ne.symm nT)).trans he) hd (Array.getElem?_eq_some_iff.mp h1).1 hc hdx (fun T' z=> ?_) fun h' n1 x1=>h h' (n0.trans n1) x1
  by_cases hb:T'=T
  ·rw [hb];exact hT
  ·exact hlo T' ((oth T' hb).symm.trans z)
theorem QJ {cls:Value} {dx:Option Addr} {lo:Addr->Prop} {Q:Unit->Shared->Prop} {fr:List Addr} {f:Value} (x:yO s.heap e cls dx lo (some f))
 (h:∀h',sU fr e lo s.heap h'->yO h' e cls dx lo (some .none)->Q () {s with heap:=h'}):wpAny M A (setFlight (.ref e) none) Q E s:=by
 obtain ⟨oe,vs,T,oT,ts,he,hc,hdx,hd,h1,hT,nT,Vg,hdT,h3⟩:=x;have hs3:3<ts.size:=(Array.getElem?_eq_some_iff.mp h3).1;unfold setFlight;refine wpAny_bind (wpAny_field he hd h1 ?_);rw [if_pos (show (Value.ref T != Value.none)=true from by simp)];have oth:∀b,b≠T->(s.heap.update T (Obj.mapFields (·.setIfInBounds 3 Value.none))).get? b=s.heap.get? b:=fun b hb=>Heap.get?_update_other _ _ (Ne.symm hb);obtain ⟨u1,u2,u3,u4⟩:=qw Vg hdT 3 Value.none;have nb:∀b,¬lo b->b≠T:=fun b hb z=>hb (by rw [z];exact hT);refine wpAny_setField Vg hdT hs3 (h _ ⟨fun b o q _ _ n3=>(oth b (nb b n3)).trans q,fun b o q _ _ n3=>⟨o.slots,(oth b (nb b n3)).trans q⟩,fun b o q=> ?_⟩ ?_)
 ·by_cases hb:b=T
  ·subst hb;exact ⟨_,u1⟩
  ·exact ⟨o,(oth b hb).trans q⟩
 ·exact ⟨oe,vs,T,_,_,(oth e (Ne.symm nT)).trans he,hc,hdx,hd,h1,hT,nT,u1,u2,by simp [hs3]⟩
end
section
variable {X:Cx} {pins:List (Addr×Obj)} {σ:St} {H:Hp} {s:Shared} {e:Addr}
theorem dG.there {P:Program} {w:World} {H:Hp} {h:Heap} {a:Addr} {o:HO} (x:dG P w H h a o):∃ob,h.get? a=some ob:=by
 induction o with
 | lst xs=>obtain ⟨_,_,_,_,q⟩:=x;exact ⟨_,q⟩
 | tup xs=>obtain ⟨_,_,_,ob,q,_⟩:=x;exact ⟨ob,q⟩
 | dK kvs=>obtain ⟨_,_,_,_,ob,_,_,q,_⟩:=x;exact ⟨ob,q⟩
 | dT kvs=>obtain ⟨_,_,_,_,ob,_,_,q,_⟩:=x;exact ⟨ob,q⟩
 | set S n=>obtain ⟨ob,_,_,_,q,_⟩:=x;exact ⟨ob,q⟩
 | ins C dx fs=>obtain ⟨_,_,_,q,_⟩:=x;exact ⟨_,q⟩
 | own y=>exact x
 | xd fs=>obtain ⟨_,⟨ob,_,_,q,_⟩,_⟩:=x;exact ⟨ob,q⟩
 | rng lo hi=>obtain ⟨_,_,_,q⟩:=x;exact ⟨_,q⟩
 | Df ob u ih=>exact ⟨ob,x.1⟩
 | u6 ps=>exact ⟨_,x⟩
 | met f y=>exact ⟨_,x⟩
 | ext φ=>exact x.2.1
def Ho (X:Cx) (pins:List (Addr×Obj)) (H:Hp) (b:Addr):Prop:=
 H b=none/\b≠X.env.locals/\b∉X.fs/\X.s₀.heap.get? b=none/\(∀x c,X.env.cells.lookup x=some c->c≠b) /\ ∀p∈X.pn++pins,p.1≠b
theorem Inv.xfp (I:Inv X pins σ H s) (hx:X.ex=[]) {b:Addr} (hb:s.heap.get? b=none):Ho X pins H b:=by
 refine ⟨?_,fun z=> ?_,fun z=> ?_, ?_,fun x c q z=> ?_,fun p hp z=> ?_⟩
 ·cases q:H b with
  | none=>rfl
  | some o=>
    obtain ⟨ob,r⟩:=(I.hok b o q).there;rw [hb] at r;cases r
 ·obtain ⟨m,⟨o,_,_,r,_⟩,_⟩:=I.loc
  rw [←z,hb] at r;cases r
 ·obtain ⟨_,o,r,_⟩:=I.pB.mem z
  rw [hb] at r;cases r
 ·cases q:X.s₀.heap.get? b with
  | none=>rfl
  | some o=>
    obtain ⟨o',r⟩:=I.base.there b o q (by rw [hx];simp);rw [hb] at r;cases r
 ·obtain ⟨v,o,r,_⟩:=I.cell x c q
  rw [z,hb] at r;cases r
 ·obtain ⟨r,_⟩:=I.pin p hp
  rw [z,hb] at r;cases r
theorem Inv.noted {lo:Addr->Prop} {h':Heap} (I:Inv X pins σ H s) (n:sU (frs X.stack) e lo s.heap h') (hlo:∀b,(b=e\/lo b)->Ho X pins H b\/s.heap.get? b=none):Inv X pins σ H {s with heap:=h'}:=by
 have off:∀b o,s.heap.get? b=some o->(¬Ho X pins H b)->b≠e /\ ¬lo b:=fun b o q nx=>
  ⟨fun z=>(hlo b (.inl z)).elim nx fun r=>(by rw [r] at q;cases q),fun z=>(hlo b (.inr z)).elim nx fun r=>(by rw [r] at q;cases q)⟩
 have any:∀b o,s.heap.get? b=some o->(¬Ho X pins H b) -> ∃sl,h'.get? b=some {o with slots:=sl}:=fun b o q nx=>by
  obtain ⟨n1,n2⟩:=off b o q nx
  by_cases hb:b∈frs X.stack
  ·exact n.slot b o q hb n1 n2
  ·exact ⟨o.slots,n.keep b o q hb n1 n2⟩
 have s0:∀b o,X.s₀.heap.get? b=some o -> ¬Ho X pins H b:=fun b o q x=>by rw [x.2.2.2.1] at q;cases q
 have Ye:∀b o,X.s₀.heap.get? b=some o->b≠X.env.locals:=fun b o q=>Nat.ne_of_lt (Nat.lt_of_lt_of_le (Heap.lt_size q) I.ok.above);have nst:∀b,b≠X.env.locals->b∉X.fs->b∉frs X.stack:=fun b n1 n2 z=>(List.mem_cons.mp (I.xX b z)).elim n1 n2;have U9:∀b o,H b=some o -> ¬Ho X pins H b:=fun b o q x=>by rw [x.1] at q;cases q
 have abE:∀b o,H b=some o->b∉frs X.stack:=fun b o q z=>by rw [I.Fl b z] at q;cases q
 have cl:∀x c,X.env.cells.lookup x=some c -> ∀v,s.heap.IsCell c v->h'.IsCell c v:=fun x c q v ⟨o,ho,hd⟩=>by
  obtain ⟨sl,r⟩:=any c o ho fun z=>z.2.2.2.2.1 x c q rfl;exact ⟨_,r,hd⟩
 refine ⟨I.ok,I.os,I.bare,⟨fun b o q nn hb hx=> ?_,fun b o q nn hb hx=> ?_,I.base.free,fun b o q hx=> ?_,I.base.tups,I.base.qM,I.base.u5⟩, ?_,fun x c q=> ?_,I.free,I.jX,fun p hp=> ?_,fun a o q=> ?_,I.len⟩
 ·have q1:=I.base.keep b o q nn hb hx
  obtain ⟨n1,n2⟩:=off b o q1 (s0 b o q);exact n.keep b o q1 (nst b (Ye b o q) hb) n1 n2
 ·obtain ⟨sl,q1⟩:=I.base.slot b o q nn hb hx
  obtain ⟨sl2,q2⟩:=any b _ q1 (s0 b o q);exact ⟨sl2,q2⟩
 ·obtain ⟨o1,q1⟩:=I.base.there b o q hx
  exact n.there b o1 q1
 ·obtain ⟨m,⟨ob,es,ep,ho,r⟩,hl⟩:=I.loc
  obtain ⟨sl,q1⟩:=any _ ob ho fun z=>z.2.1 rfl;refine ⟨m,⟨_,es,ep,q1,r⟩,fun i x v e1 e2 e3=> ?_⟩;obtain ⟨u,ru,l⟩:=hl i x v e1 e2 e3;refine ⟨u,ru, ?_⟩;rcases l with l|⟨k,c,hc,z⟩
  ·exact .inl l
  ·exact .inr ⟨k,c,hc,cl x c hc _ z⟩
 ·obtain ⟨v,z⟩:=I.cell x c q
  exact ⟨v,cl x c q v z⟩
 ·obtain ⟨q,nn,n1,n2,d⟩:=I.pin p hp
  obtain ⟨m1,m2⟩:=off p.1 p.2 q fun z=>z.2.2.2.2.2 p hp rfl;exact ⟨n.keep p.1 p.2 q (nst p.1 n1 n2) m1 m2,nn,n1,n2,d⟩
 ·refine (I.hok a o q).stay (fun b u hb r=> ?_) (fun _ z=>z) fun _ _ z=>z
  rcases hb with rfl|hb
  ·obtain ⟨m1,m2⟩:=off b u r (U9 b o q)
   exact n.keep b u r (abE b o q) m1 m2
  ·obtain ⟨m1,m2⟩:=off b u r (U9 b _ hb)
   exact n.keep b u r (abE b _ hb) m1 m2
def vH (P:Program) (w:World):Nv:=fun outer H s E ev s'=>∃(e:Addr) (cls:Value) (dx:Option Addr) (H':Hp),ev = .ref e/\s'.os=s.os/\AllBare s'.gens/\Un (frs outer) [] H H' s.heap s'.heap/\nY P w H' s'.heap /\
 s.heap.get? e=none/\H' e=none/\yO s'.heap e cls dx (fun T=>s.heap.get? T=none/\H' T=none) (some .none)/\E cls dx H'
def Rz (X:Cx) (E:St->XK):Prop:=∀(pins:List (Addr×Obj)) (σ:St) (H:Hp) (s:Shared) (e:Addr) (cls:Value) (dx:Option Addr) (fl:Option Value),(fl=none\/fl=some .none)->Inv X pins σ H s->Ho X pins H e ->
 yO s.heap e cls dx (Ho X pins H) fl->E σ cls dx H->X.xe (.ref e) s
theorem yO.imp {h:Heap} {e:Addr} {cls:Value} {dx:Option Addr} {lo lo':Addr->Prop} {f:Option Value} (x:yO h e cls dx lo f) (k:∀T,(∃o,h.get? T=some o)->lo T->lo' T):yO h e cls dx lo' f:=by
 cases f with
 | none=>exact x
 | some f=>
   obtain ⟨oe,vs,T,oT,ts,he,hc,hdx,hd,h1,hT,nT,Vg,r⟩:=x;exact ⟨oe,vs,T,oT,ts,he,hc,hdx,hd,h1,k T ⟨oT,Vg⟩ hT,nT,Vg,r⟩
theorem zO {E:St->XK} {σ:St} (hx:X.ex=[]) (R:Rz X E) {pins:List (Addr×Obj)} {H:Hp} {s s':Shared} {ev:Value} (I:Inv X pins σ H s) (c:vH X.prog X.w X.stack H s (E σ) ev s'):X.xe ev s':=by
 obtain ⟨e,cls,dx,H',rfl,ho,hg,u,hok,ne,he,x,q⟩:=c;have I':Inv X pins σ H' s':=I.call' (ch:=[]) ho u hok hg (fun b hb=>by cases hb)
 have fp:∀T,s.heap.get? T=none->H' T=none->Ho X pins H' T:=fun T h1 h2=>by
  obtain ⟨_,a2,a3,a4,a5,a6⟩:=I.xfp hx h1;exact ⟨h2,a2,a3,a4,a5,a6⟩
 exact R pins σ H' s' e cls dx _ (.inr rfl) I' (fp e ne he) (x.imp fun T _ z=>fp T z.1 z.2) q
theorem Ib {P:Program} {w:World} {K:PySem.W.Frag} {mg:Str->Option Value} {base:Heap} {N:List Str} {qual:Str} {scope:Scope} {f:Addr} {cd:Value} {A:Around} {outer:List Env} {s:Shared} {H:Hp} {E:XK}:
 Rz (qO (vH P w) P w K mg base N qual scope f cd A outer s H E) (fun _=>E):=by
 intro pins σ H1 s1 e cls dx fl hfl I fe x q;show wpAny (model P w) _ (leaving _ (.ref e)) _ _ s1;unfold leaving;have lo1:∀b,(b=e\/(Ho (qO (vH P w) P w K mg base N qual scope f cd A outer s H E) pins H1 b\/s1.heap.get? b=none))->Ho (qO (vH P w) P w K mg base N qual scope f cd A outer s H E) pins H1 b\/s1.heap.get? b=none:=fun b z=>z.elim (fun z=> .inl (by rw [z];exact fe)) fun z=>z;have stk:(qO (vH P w) P w K mg base N qual scope f cd A outer s H E).A.frames=some ((qO (vH P w) P w K mg base N qual scope f cd A outer s H E).env::outer):=I.ok.frames;refine wpAny_bind (XH (base:=base) (lo:=fun T=>Ho (qO (vH P w) P w K mg base N qual scope f cd A outer s H E) pins H1 T\/s1.heap.get? T=none) hfl stk I.stack rfl (x.imp fun T _ z=> .inl z) (fun T z=> .inr z) fun h1 n1 x1=> ?_);refine QJ (fr:=frs ((qO (vH P w) P w K mg base N qual scope f cd A outer s H E).env::outer)) x1 fun h2 n2 x2=> ?_;have I2:Inv (qO (vH P w) P w K mg base N qual scope f cd A outer s H E) pins σ H1 {s1 with heap:=h2}:=I.noted (n1.trans n2) lo1;refine ⟨e,cls,dx,H1,rfl,I2.os,I2.bare,I2.base,I2.hok,fe.2.2.2.1,fe.1,x2.imp fun T _ z=> ?_,q⟩;rcases z with z|z
 ·exact ⟨z.2.2.2.1,z.1⟩
 ·have y:=I.xfp rfl z
  exact ⟨y.2.2.2.1,y.1⟩
end
end L2
set_option Elab.async false
set_option linter.all false
set_option maxRecDepth 100000
set_option maxHeartbeats 4000000
namespace L2
open PySem PySem.Spec PyProof.Rows
def xr (P:Program) (w:World) (K:PySem.W.Frag) (mg:Str->Option Value) (base:Heap) (k:Nat) (x:Str) (ps:List Str) (sp:Sp):Prop:=
 ∃f fd,bV P w K mg base (vH P w) k f fd ps sp/\mg x=some (.ref f)/\PySem.W.keepIn K (.ref f)=true/\Binds K fd ps []
def Zc (sp:Sp) (E:St->XK) (t:TA):TE:=fun σ H Q=>t σ H fun vs H1=>sp vs H1 Q (E σ)
section
variable {X:Cx} {k:Nat} {x:Str} {ps:List Str} {sp:Sp} {e:Expr} {es:List Expr} {t:TA} {p pos:Pos} {E:St->XK}
theorem RK (F:xr X.prog X.w X.K X.mg X.base k x ps sp) (hx:X.ex=[]) (R:Rz X E) (hr:dZ k X.A) (hg:Gl X x) (ha:PA X (e::es) t) (hd:(x==("__debug__" :Str))=false:=by decide)
 (he:starEach (e::es) X.env=(false,eval e X.env)::starEach es X.env:=by rfl) (hpl:(backTo pos (starEach es X.env)).any (·.1)=false:=by rfl):
 PE X (.Call (.Name x p) (e::es) [] pos) (Zc sp E t):=by
 obtain ⟨f,fd,G,hm,hk,hb⟩:=F;intro pins s σ H Q I h;refine wpAny_Call_Name_kw (oA I hg hm ?_ hd);refine PySem.W.callWith_K (h₀:=X.base) I.ok.mod.Pb hk (d9 (ha pos pins s σ H _ I h) fun us s1 ⟨vs,H1,I1,r,q⟩=>⟨I1.qK, ?_⟩) he hpl;have hlen:us.length=ps.length:=by rw [←r.length];exact G.len _ _ _ _ q
 have hbd:=hb s1 us I1.qK (by rw [List.append_nil];exact hlen);rw [List.append_nil] at hbd;refine wpAny_call (codeAny_mono (G.run X.A X.stack s1 H1 ⟨us,[]⟩ us vs Q (E σ) hr I1.env0 hbd r q) fun res s' hq=> ?_)
 match res,hq with
 | .error ev,hq=>exact zO hx R I1 hq
 | .ok (.ret u),hq=>exact I1.after hq
end
section
variable {P:Program} {w:World} {K:PySem.W.Frag} {mg:Str->Option Value} {base:Heap}
theorem jY.Vb {x qual:Str} {st:Stmt} {f:Addr} {fd:FuncData} {N ps:List Str} {k:Nat} {sp:Sp} (F:jY K x qual st f fd) (S:bw N ps (ao st)) (len:∀vs H Q E,sp vs H Q E->vs.length=ps.length)
 (hbody:∀(cdv:Value) (A:Around) (outer:List Env) (s:Shared) (H:Hp) (vs:List V) (Q:VK) (E:XK),dZ k (A.deeper (envOfC qual (ao st) s.heap.objs.size f cdv))->sp vs H Q E ->
   Rz (qO (vH P w) P w K mg base N qual (ao st) f cdv A outer s H E) (fun _=>E) ->
   ∃t,HJ (qO (vH P w) P w K mg base N qual (ao st) f cdv A outer s H E) (aK st) t/\t {nx:=fun _ H'=>Q .non H',rt:=Q} (start N vs) H):bV P w K mg base (vH P w) (k+1) f fd ps sp:=by
 obtain ⟨oc,od,kV,doc,pm,an,cdv,ct,osl,rfl,lk,hcd⟩:=F.ex;exact M5 lk hcd S len fun A outer s H vs Q E hr hsp=>hbody cdv A outer s H vs Q E hr hsp Ib
end
theorem W8 {K:PySem.W.Frag} {h:Heap} {C:Addr} {bmB:List Value} {newId:String} (X:K.In h) (q:PySem.W.excIn K C bmB newId=true):
 ∃bm N nm qn bs hdct sn sub ab col dd k0 k1 k2 k3 k5 mN,h.get? C=some (excClassObj nm qn C N bs bm hdct sn sub ab col dd k0 k1 k2 k3 k5 newId)/\h.Ns N mN/\mN "__init__" = none/\OwnTail h bmB bm:=by
 unfold PySem.W.excIn at q;split at q
 ·rename_i d0 c0 s0 lk
  split at q
  ·rename_i C1 tl a0 a1 a2 a3 nn a5 em es
   simp only [Bool.and_eq_true,beq_iff_eq,Bool.not_eq_true'] at q;obtain ⟨⟨⟨⟨⟨e1,e2⟩,e3⟩,e4⟩,e5⟩,e6⟩:=q;subst e1 e2;obtain ⟨f1,f2,f3,f4,f5,f6,f7,f8,f9,f10,f11⟩:=c0;dsimp only at em e3 e5 e6;subst em e3
   have ez:s0 = #[a0,a1,a2,a3,some (.builtin nn),a5]:=by
    obtain ⟨l⟩:=s0;simp only at es;rw [es]
   subst ez;exact ⟨tl,f4,_,_,_,_,_,_,_,_,_,_,_,_,_,_,_,X _ _ lk,.of_isNs (PySem.W.isNs_of_in X e5),PySem.W.nsMap_none_of_in X e5 e6,PySem.W.tail_of_in X e4⟩
  ·cases q
 ·cases q
def Y5 (cls:Value) (E:St->XK) (ta:TA):TS:=fun _ σ H=>ta σ H fun vs H1=>vs.length<=sizeLine/\E σ cls none H1
section
variable {X:Cx} {E:St->XK} {x:Str} {C:Addr} {B newId initId:String} {bmB:List Value} {e0:Expr} {rest:List Expr} {ta:TA} {np cpos pos:Pos}
theorem jP (FB:ExcBaseFacts B newId initId bmB) (q:PySem.W.excIn X.K C bmB newId=true) (hm:X.mg x=some (.ref C)) (hg:Gl X x) (hc:X.calm=true) (hx:X.ex=[]) (R:Rz X E) (ha:PA X (e0::rest) ta)
 (he:starEach (e0::rest) X.env=(false,eval e0 X.env)::starEach rest X.env:=by rfl) (hplain:(backTo cpos (starEach rest X.env)).any (·.1)=false:=by rfl) (hd:(x==("__debug__" :Str))=false:=by decide):
 PS X (.Raise (some (.Call (.Name x np) (e0::rest) [] cpos)) none pos) (Y5 (.ref C) E ta):=by
 intro pins s σ H D I h;obtain ⟨bm,N,nm,qn,bs,hdct,sn,sub,ab,col,dd,k0,k1,k2,k3,k5,mN,hC,hN,hni,T⟩:=W8 I.ok.mod.Pb q
 refine wpAny_Raise_call_subT (k5:=k5) (k3:=k3) (k2:=k2) (k1:=k1) (k0:=k0) (dd:=dd) (col:=col) (ab:=ab) (sub:=sub) (sn:=sn) (hdct:=hdct) (bs:=bs) (q:=qn) (nm:=nm)
  (C:=C) (N:=N) (bm:=bm) (mN:=mN) FB (T.hasType FB.hasBase) (I.ok.hd hc) (by rw [he];show (false||(backTo cpos (starEach rest X.env)).any (·.1))=false;rw [hplain];rfl) hni (oA I hg hm ⟨rfl, ?_⟩ hd)
 have h2:=ha cpos pins s σ H _ I h;rw [he] at h2 ⊢;refine Calls.evalArgs_plain (d9 h2 fun us s1 ⟨vs,H1,I1,r,hl,hE⟩=>⟨rfl,by rw [←r.length];exact hl,I1.bk _ _ hC,hN.keeps I1.bk,T.keeps I1.bk,fun h' e mk=> ?_⟩);obtain ⟨t,ht,_,_⟩:=mk.there;have I2:Inv X pins σ H1 {s1 with heap:=h'}:=I1.kept (t':=s1.toks) mk.keeps;exact R pins σ H1 _ e (.ref C) none none (.inl rfl) I2 (I1.xfp hx mk.new) ⟨_,_,ht,rfl,rfl,rfl,rfl⟩ hE
end
def XO (C:Addr) (dx:Option Addr) (e:Addr):HO:= .ext fun h=>∃oe vs,h.get? e=some oe/\oe.cls = .ref C/\oe.dict=dx/\oe.data = .fields vs
def GR (X:Cx) (e:Addr):Cx:={X with A:=X.A.mark (some (.ref e)),calm:=false,xe:=fun _ _=>False}
def Ci (X:Cx) (pins:List (Addr×Obj)) (xe:Value->Shared->Prop):Cx:={X with pn:=X.pn++pins,xe:=xe}
section
variable {X:Cx} {pins:List (Addr×Obj)} {σ:St} {H:Hp} {s:Shared}
theorem Inv.abF (I:Inv X pins σ H s) (xe:Value->Shared->Prop):Inv (Ci X pins xe) [] σ H s:=
 ⟨⟨I.ok.mod,I.ok.kind,I.ok.glob,I.ok.blt,I.ok.above,I.ok.inj,I.ok.has,I.ok.cab,I.ok.hd,I.ok.frames,I.ok.stk,I.ok.exf,I.ok.bs,I.ok.HF,I.ok.Gm,I.ok.Jj,I.ok.pB,I.ok.K_⟩,I.os,I.bare,I.base,I.loc,I.cell,I.free,I.jX,
   fun p hp=>I.pin p (by rw [List.append_nil] at hp;exact hp),I.hok,I.len⟩
theorem Inv.Ea {xe:Value->Shared->Prop} {qT:List (Addr×Obj)} (I:Inv (Ci X pins xe) qT σ H s):Inv X pins σ H s:=
 ⟨⟨I.ok.mod,I.ok.kind,I.ok.glob,I.ok.blt,I.ok.above,I.ok.inj,I.ok.has,I.ok.cab,I.ok.hd,I.ok.frames,I.ok.stk,I.ok.exf,I.ok.bs,I.ok.HF,I.ok.Gm,I.ok.Jj,I.ok.pB,I.ok.K_⟩,I.os,I.bare,I.base,I.loc,I.cell,I.free,I.jX,
   fun p hp=>I.pin p (List.mem_append_left _ hp),I.hok,I.len⟩
theorem Inv.Q5 (I:Inv X pins σ H s) (e:Addr):Inv (GR X e) pins σ H s:=
 ⟨⟨I.ok.mod,I.ok.kind,I.ok.glob,I.ok.blt,I.ok.above,I.ok.inj,I.ok.has,I.ok.cab,fun z=>(by cases z),I.ok.frames,I.ok.stk,I.ok.exf,I.ok.bs,I.ok.HF,I.ok.Gm,I.ok.Jj,I.ok.pB,I.ok.K_⟩,I.os,I.bare,I.base,I.loc,I.cell,I.free,I.jX,
   I.pin,I.hok,I.len⟩
theorem Inv.Gj {e:Addr} (I:Inv (GR X e) pins σ H s) (hd:X.calm=true->X.A.handled=none):Inv X pins σ H s:=
 ⟨⟨I.ok.mod,I.ok.kind,I.ok.glob,I.ok.blt,I.ok.above,I.ok.inj,I.ok.has,I.ok.cab,hd,I.ok.frames,I.ok.stk,I.ok.exf,I.ok.bs,I.ok.HF,I.ok.Gm,I.ok.Jj,I.ok.pB,I.ok.K_⟩,I.os,I.bare,I.base,I.loc,I.cell,I.free,I.jX,
   I.pin,I.hok,I.len⟩
theorem Inv.track {e C:Addr} {dx:Option Addr} {lo:Addr->Prop} {fl:Option Value} (I:Inv X pins σ H s) (hx:X.ex=[]) (fe:Ho X pins H e) (x:yO s.heap e (.ref C) dx lo fl):Inv X pins σ (upd H e (XO C dx e)) s:=by
 obtain ⟨f1,f2,f3,f4,f5,f6⟩:=fe;obtain ⟨oe,vs,q,hc,hdx,hd⟩:=x.there;have ne:∀b o,H b=some o->b≠e:=fun b o r=>aA r f1;refine ⟨I.ok,I.os,I.bare,⟨I.base.keep,I.base.slot,fun b o r n hh=> ?_,I.base.there,fun b xs r=> ?_,fun b o u r=> ?_,fun b ps r=> ?_⟩,I.loc,I.cell, ?_,fun y c r=> ?_,fun p hp=> ?_,fun a o r=> ?_,I.len⟩
 ·rw [aD (fun z=>by rw [z,f4] at r;cases r)]
  exact I.base.free b o r n hh
 ·have r2:=I.base.tups b xs r
  rw [aD (ne b _ r2)];exact r2
 ·have r2:=I.base.qM b o u r
  rw [aD (ne b _ r2)];exact r2
 ·obtain ⟨m,r2⟩:=I.base.u5 b ps r
  exact ⟨m,by rw [aD (ne b _ r2)];exact r2⟩
 ·rw [aD (Ne.symm f2)];exact I.free
 ·rw [aD (f5 y c r)];exact I.jX y c r
 ·obtain ⟨a1,a2,a3⟩:=I.pin p hp
  exact ⟨a1,by rw [aD (f6 p hp)];exact a2,a3⟩
 ·by_cases ha:a=e
  ·subst ha
   rw [ak] at r;cases r;exact ⟨⟨oe,vs,q,hc,hdx,hd⟩,⟨oe,q⟩,fun h1 h2 ⟨o1,v1,p1,p2⟩ k=>⟨o1,v1,k _ p1,p2⟩⟩
  ·rw [aD ha] at r
   refine (I.hok a o r).stay (fun _ _ _ z=>z) (fun b z=>by rw [aD (ne b _ z)];exact z) fun b ys z=>by rw [aD (ne b _ z)];exact z
end
section
variable {M:Model} {A:Around} {Er:Value->Shared->Prop} {s:Shared} {K:PySem.W.Frag} {e C D:Addr}
theorem Iz {oe:Obj} {b:Bool} {Q:Bool->Shared->Prop} (X:K.In s.heap) (he:s.heap.get? e=some oe) (hc:oe.cls = .ref C) (hD:(PySem.W.clsIn K D).isSome=true) (hty:PySem.W.typeIn K (.ref D)=some (.type "type"))
 (hB:PySem.W.subIn K (.ref D) (.type "BaseException")=some true) (hs:PySem.W.subIn K (.ref C) (.ref D)=some b) (hq:Q b s):wpAny M A (excMatches (.ref e) (.ref D)) Q Er s:=by
 obtain ⟨hh,g,d,t,os⟩:=s;have L1:PySem.W.Looks M hh (typeOf (.ref D)) (.type "type"):=PySem.W.looks_typeIn X hty;have L2:PySem.W.Looks M hh (isSubtype (.ref D) (.type "BaseException")) true:=PySem.W.looks_subIn X hB;have L3:PySem.W.Looks M hh (isSubtype (.ref C) (.ref D)) b:=PySem.W.looks_subIn X hs
 have L4:PySem.W.Looks M hh (isType (.ref D)) true:=by
  unfold PySem.W.clsIn at hD;split at hD
  ·rename_i c' d' cd' sl' ho
   intro A' Q' E' s' k q;unfold isType loadHead;exact wpAny_bind (wpAny_loadPart (k _ _ (X _ _ ho)) (wpAny_pure q))
  ·cases hD
 have f:=tc_notTuple;unfold excMatches isExcClass isInstance;refine wpAny_bind (wpAny_bind (L1.at ?_));refine wpAny_of_eq f ?_;rw [if_neg (by decide)];refine wpAny_bind (wpAny_pure ?_);simp only [List.forIn_cons,List.forIn_nil];refine wpAny_bind (wpAny_bind (wpAny_bind (wpAny_bind (L4.at ?_))));rw [if_pos rfl];refine L2.at ?_;simp only [Bool.not_true,Bool.false_eq_true,if_false];refine wpAny_pure (wpAny_pure ?_)
 have L0:PySem.W.Looks M hh (typeOf (.ref e)) (.ref C):=by
  intro A' Q' E' s' k q;unfold typeOf;refine wpAny_bind (wpAny_loadPart (k _ _ he) ?_);rw [hc];exact wpAny_pure q
 refine wpAny_bind (L0.at ?_);refine wpAny_bind (wpAny_bind (wpAny_bind (L3.at ?_)));cases b with
 | true=>exact wpAny_pure (wpAny_pure (wpAny_pure hq))
 | false=>exact wpAny_pure (wpAny_pure (wpAny_pure hq))
end
end L2
set_option Elab.async false
set_option linter.all false
set_option maxRecDepth 100000
set_option maxHeartbeats 4000000
namespace L2
open PySem PySem.Spec PyProof.Rows
section
variable {X:Cx} {pins:List (Addr×Obj)} {σ:St} {H:Hp} {s:Shared}
theorem Inv.gone {i:Nat} {n:Str} {m:Str->Option Value} {v:Option Value} {h':Heap} {t:Nat} (I:Inv X pins σ H s) (hN:X.N.Nodup) (hi:X.N[i]? = some n)
 (hm:∀(j:Nat) (x:Str) (u:V),X.N[j]? = some x->σ[j]? = some (some u)->Vis X.env.scope x -> ∃w',RelV u w'/\Look X.env s.heap m x w')
 (hn:h'.Ns X.env.locals (fun x=>if x=n then v else m x)) (sb:Heap.SameBut X.env.locals s.heap h'):Inv X pins (σ.set i none) H {s with heap:=h',toks:=t}:=by
 have Ye:∀b o,X.s₀.heap.get? b=some o->b≠X.env.locals:=fun b o q=>Nat.ne_of_lt (Nat.lt_of_lt_of_le (Heap.lt_size q) I.ok.above);have cl:∀x c,X.env.cells.lookup x=some c -> ∀w',s.heap.IsCell c w'->h'.IsCell c w':=fun x c q w' ⟨o,ho,hd⟩=>⟨o,(sb.2 c (I.Xe x c q)).trans ho,hd⟩;have U9:∀b o,H b=some o->b≠X.env.locals:=fun b o q=>aA q I.free;refine ⟨I.ok,I.os,I.bare,⟨fun b o q nn hb hx=>(sb.2 b (Ye b o q)).trans (I.base.keep b o q nn hb hx),fun b o q nn hb hx=> ?_,I.base.free,fun b o q hx=> ?_,I.base.tups,I.base.qM,I.base.u5⟩,⟨_,hn,fun j x u e1 e2 e3=> ?_⟩,fun x c q=> ?_,I.free,I.jX,fun p hp=> ?_,fun a o q=> ?_, ?_⟩
 ·obtain ⟨sl,r⟩:=I.base.slot b o q nn hb hx
  exact ⟨sl,(sb.2 b (Ye b o q)).trans r⟩
 ·obtain ⟨o',r⟩:=I.base.there b o q hx
  exact ⟨o',(sb.2 b (Ye b o q)).trans r⟩
 ·have hji:j≠i:=by
   rintro rfl
   by_cases hlt:j<σ.length
   ·rw [List.getElem?_set_self hlt] at e2
    cases e2
   ·rw [List.getElem?_eq_none (by rw [List.length_set];omega)] at e2
    cases e2
  rw [List.getElem?_set_ne (Ne.symm hji)] at e2;obtain ⟨w',r,l⟩:=hm j x u e1 e2 e3;refine ⟨w',r, ?_⟩;have hxn:x≠n:=fun z=>hji (Bx hN e1 (by rw [z];exact hi));rcases l with ⟨k,q⟩|⟨k,c,hc,z⟩
  ·exact .inl ⟨k,by show (if x=n then v else m x)=some w';rw [if_neg hxn];exact q⟩
  ·exact .inr ⟨k,c,hc,cl x c hc _ z⟩
 ·obtain ⟨w',z⟩:=I.cell x c q
  exact ⟨w',cl x c q w' z⟩
 ·obtain ⟨q,nn,n1,r⟩:=I.pin p hp
  exact ⟨(sb.2 p.1 n1).trans q,nn,n1,r⟩
 ·refine (I.hok a o q).stay (fun b u hb r=> ?_) (fun _ z=>z) fun _ _ z=>z
  rcases hb with rfl|hb
  ·exact (sb.2 b (U9 b o q)).trans r
  ·exact (sb.2 b (U9 b _ hb)).trans r
 ·show (σ.set i none).length=X.N.length
  rw [List.length_set];exact I.len
theorem tW {M:Model} {A:Around} {E:Value->Shared->Prop} {i:Nat} {n:Str} {pos:Pos} {Q:Unit->Shared->Prop} (I:Inv X pins σ H s) (hN:X.N.Nodup) (hi:X.N[i]? = some n) (hl:X.env.kindOf n=some .local)
 (h:∀s',Inv X pins (σ.set i none) H s'->Q () s'):wpAny M A (do bindName X.env n .none;unbindBehindTheSuite X.env n pos) Q E s:=by
 obtain ⟨m,hn,hm⟩:=I.loc;exact wpAny_nameGoes_keeps hl hn (by rw [I.ok.kind];rfl) fun h' v hn' sb=>h _ (I.gone hN hi hm hn' sb)
end
def adh (D:Ends) (i:Nat):Ends:={nx:=fun σ H=>D.nx (σ.set i none) H,rt:=D.rt,bk:=fun σ H=>D.bk (σ.set i none) H,ct:=fun σ H=>D.ct (σ.set i none) H}
def agd (K:PySem.W.Frag) (i:Nat) (Dc:Addr) (tb:(St->XK)->TS) (th:TS):TS:=fun D σ H=>
 tb (fun σ1 cls dx H1=>∃C,cls = .ref C/\PySem.W.subIn K (.ref C) (.ref Dc)=some true /\ ∀e,H1 e=none->th (adh D i) (σ1.set i (some (.ref e))) (upd H1 e (XO C dx e))) D σ H
structure XHd (K:PySem.W.Frag) (D:Addr):Prop where
 cl:(PySem.W.clsIn K D).isSome=true
 ty:PySem.W.typeIn K (.ref D)=some (.type "type")
 bs:PySem.W.subIn K (.ref D) (.type "BaseException")=some true
section
variable {X:Cx} {body suite:List Stmt} {b0:Stmt} {n cn:Str} {i:Nat} {Dc:Addr} {tb:(St->XK)->TS} {th:TS} {cp hpos pos:Pos}
theorem Ru (hc:X.calm=true) (hx:X.ex=[]) (hst:X.stack=X.env::X.outer) (hfm:X.env.frame=some X.env.locals) (hN:X.N.Nodup) (hi:X.N[i]? = some n) (hl:X.env.kindOf n=some .local) (hg:Gl X cn) (hm:X.mg cn=some (.ref Dc)) (hD:XHd X.K Dc)
 (hb:∀(pn:List (Addr×Obj)) (xe:Value->Shared->Prop) (E:St->XK),PassesOwn (model X.prog X.w) X.A X.env xe->Rz {X with pn:=pn,xe:=xe} E->HJ {X with pn:=pn,xe:=xe} body (tb E))
 (hh:∀e,HJ (GR X e) (b0::suite) th) (hd:(cn==("__debug__" :Str))=false:=by decide):
 PS X (.Try body [.ExceptHandler (some (.Name cn cp)) (some n) (b0::suite) hpos] [] [] pos) (agd X.K i Dc tb th):=by
 intro pins s σ H D I h;refine wpAny_Try_except ?_
 refine wpAny_mono (hb (X.pn++pins) (fun e s₁=>wpAny (model X.prog X.w) X.A (noteFrame e X.env) (fun _ s₂=>wpAny (model X.prog X.w) X.A (setFlight e none) (fun _ s₃=>wpAny (model X.prog X.w) X.A (handleBy e X.env [.ExceptHandler (some (.Name cn cp)) (some n) (b0::suite) hpos]) (SP X pins D) X.xe s₃) X.xe s₂) X.xe s₁) _
  PassesOwn.looking ?_ [] s σ H D (I.abF _) h) (fun f s1 q=> ?_) fun _ _ q=>q
 ·
  intro qT σ1 H1 s1 e cls dx fl hfl I1 fe x hE;obtain ⟨C,rfl,hsub,hth⟩:=hE;have lo1:∀b,(b=e\/(Ho (Ci X pins X.xe) qT H1 b\/s1.heap.get? b=none))->Ho (Ci X pins X.xe) qT H1 b\/s1.heap.get? b=none:=fun b z=>z.elim (fun z=> .inl (by rw [z];exact fe)) fun z=>z;have hfr:X.A.frames=some (X.env::X.outer):=by rw [←hst];exact I.ok.frames
  have hff:s1.heap.FunFrames X.base (X.env::X.outer):=by rw [←hst];exact I1.stack
  refine XH (base:=X.base) (lo:=fun T=>Ho (Ci X pins X.xe) qT H1 T\/s1.heap.get? T=none) hfl hfr hff hfm (x.imp fun T _ z=> .inl z) (fun T z=> .inr z) fun h1 n1 x1=> ?_;refine QJ (fr:=frs (X.env::X.outer)) x1 fun h2 n2 x2=> ?_;have n12:sU (frs X.stack) e (fun T=>Ho (Ci X pins X.xe) qT H1 T\/s1.heap.get? T=none) s1.heap h2:=by rw [hst];exact n1.trans n2
  have I2:Inv X pins σ1 H1 {s1 with heap:=h2}:=(I1.noted n12 lo1).Ea;refine wpAny_handleBy_cons (codeAny_handlers_test (oA (I2.Q5 e) hg hm ?_ hd)) (by intro z;cases z);obtain ⟨oe,vs,q1,q2,q3,q4⟩:=x2.there;refine Iz (K:=X.K) I2.qK q1 q2 hD.cl hD.ty hD.bs hsub ?_;rw [if_pos rfl];refine codeAny_handlers_suite_as ?_;refine QJ (fr:=frs (X.env::X.outer)) x2 fun h3 n3 x3=> ?_;have n13:sU (frs X.stack) e (fun T=>Ho (Ci X pins X.xe) qT H1 T\/s1.heap.get? T=none) s1.heap h3:=by rw [hst];exact (n1.trans n2).trans n3
  have I3:Inv X pins σ1 H1 {s1 with heap:=h3}:=(I1.noted n13 lo1).Ea;have feX:Ho X pins H1 e:=⟨fe.1,fe.2.1,fe.2.2.1,fe.2.2.2.1,fe.2.2.2.2.1,fun p hp=>fe.2.2.2.2.2 p (List.mem_append_left _ hp)⟩;have I4:Inv X pins σ1 (upd H1 e (XO C dx e)) {s1 with heap:=h3}:=I3.track hx feX x3;refine vM (X:=GR X e) (I4.Q5 e) hN hi (.inl hl) (v:= .ref e) rfl (fun s5 I5=> ?_) (.inr hl);refine wpAny_mono (hh e pins s5 _ _ (adh D i) I5 (hth e fe.1)) (fun f s6 q6=> ?_) fun _ _ z=>z.elim;cases f with
  | next=>
    obtain ⟨σ6,H6,J6,r6⟩:=q6;exact tW (J6.Gj I.ok.hd) hN hi hl fun s7 J7=>⟨_,H6,J7,r6⟩
  | brk=>
    obtain ⟨σ6,H6,J6,r6⟩:=q6;exact tW (J6.Gj I.ok.hd) hN hi hl fun s7 J7=>⟨_,H6,J7,r6⟩
  | cont=>
    obtain ⟨σ6,H6,J6,r6⟩:=q6;exact tW (J6.Gj I.ok.hd) hN hi hl fun s7 J7=>⟨_,H6,J7,r6⟩
  | ret u=>
    obtain ⟨v6,σ6,H6,J6,rv,r6⟩:=q6;exact tW (J6.Gj I.ok.hd) hN hi hl fun s7 J7=>⟨v6,_,H6,J7,rv,r6⟩
 ·cases f with
  | next=>obtain ⟨σ1,H1,J,r⟩:=q;exact wpAny_execs_nil ⟨σ1,H1,J.Ea,r⟩
  | brk=>obtain ⟨σ1,H1,J,r⟩:=q;exact ⟨σ1,H1,J.Ea,r⟩
  | cont=>obtain ⟨σ1,H1,J,r⟩:=q;exact ⟨σ1,H1,J.Ea,r⟩
  | ret u=>obtain ⟨v,σ1,H1,J,rv,r⟩:=q;exact ⟨v,σ1,H1,J.Ea,rv,r⟩
end
section
variable {X:Cx} {K:PySem.W.Frag}
theorem Dk {o:Obj} {vs:Array Value} (h:o.data = .fields vs):PySem.W.notCls o=true:=by
 obtain ⟨c,d,dt,sl⟩:=o;simp only at h;subst h;rfl
theorem Lx {C e:Addr} {P:Program} {w:World} {H:Hp} {h:Heap} (x:dG P w H h e (XO C none e)):∃ox odo,PySem.W.InstAt h e ox C odo:=by
 obtain ⟨⟨oe,vs,q,hc,hd,hf⟩,_⟩:=x;exact ⟨oe,none,⟨q,hc,Dk hf,by rw [hd];trivial⟩⟩
theorem Cp {c:Value} {cv:V} (hk:X.K=K) (rc:∀u,RelV cv u->u=c):jZ X (.builtin "isinstance") (fun xs H Q=>∃(e C:Addr) (b:Bool),xs=[.ref e,cv]/\H e=some (XO C none e)/\PySem.W.Xp K C/\PySem.W.kitOne K (.ref C) c=some b/\Q (.bl b) H):=by
 subst hk;intro pins s σ H xs us Q I r h;obtain ⟨e,C,b,rfl,he,xc,hb,q⟩:=h;obtain ⟨u,w',rfl,r1,r2⟩:=vals2 r;cases (show u=Value.ref e from r1);have:=rc _ r2;subst this;exact PySem.W.kia_one (PySem.W.Jb xc) I.qK (Lx (I.hok e _ he)) hb (by intro z;cases z) fun tk=>⟨.bl b,H,I.tok _,rfl,q⟩
theorem Ny {cs:List Addr}:∀{us:List Value},Vals (cs.map V.ref) us->us=cs.map Value.ref:=by
 induction cs with
 | nil=>intro us r;cases r;rfl
 | cons c cs ih=>
   intro us r;cases r with
   | cons r rs=>cases (show _=Value.ref c from r);rw [ih rs];rfl
end
end L2
set_option Elab.async false
set_option linter.all false
set_option maxRecDepth 100000
set_option maxHeartbeats 4000000
namespace L2
open PySem PySem.Spec PyProof.Rows
section
variable {X:Cx} {K:PySem.W.Frag}
theorem Qd (hk:X.K=K):jZ X (.builtin "isinstance") (fun xs H Q=>∃(e t C:Addr) (cs:List Addr) (b:Bool),xs=[.ref e,.ref t]/\H e=some (XO C none e)/\PySem.W.Xp K C/\H t=some (.tup (cs.map V.ref)) /\
 PySem.W.kitAny K (.ref C) (cs.map Value.ref)=some b/\Q (.bl b) H):=by
 subst hk;intro pins s σ H xs us Q I r h;obtain ⟨e,t,C,cs,b,rfl,he,xc,ht,hb,q⟩:=h;obtain ⟨u,w',rfl,r1,r2⟩:=vals2 r;cases (show u=Value.ref e from r1);cases (show w'=Value.ref t from r2);obtain ⟨its,rv,⟨o,ho,hc,m,hd⟩,hz⟩:=I.tuple (cQ.of ht);have ei:=Ny rv;subst ei;obtain ⟨c0,d0,dt,sl⟩:=o;simp only at hc hd;subst hc hd;exact PySem.W.kia_tup (PySem.W.Jb xc) I.qK (Lx (I.hok e _ he)) ho hb (by intro z;cases z) fun tk=>⟨.bl b,H,I.tok _,rfl,q⟩
end
structure bZ (K:PySem.W.Frag) (C D:Addr) (b:Bool):Prop where
 ne:(Value.ref C==Value.ref D)=false
 sub:PySem.W.subIn K (.ref C) (.ref D)=some b
theorem qJ {K:PySem.W.Frag} {C D:Addr} {b:Bool} (h:XHd K D) (p:bZ K C D b):PySem.W.kitOne K (.ref C) (.ref D)=some b:=by
 unfold PySem.W.kitOne;rw [if_neg (by rw [p.ne];decide)];show (if ((PySem.W.clsIn K D).isSome&&PySem.W.typeIn K (.ref D)==some (.type "type"))=true then PySem.W.subIn K (.ref C) (.ref D) else none)=some b;rw [if_pos (by rw [h.cl,h.ty];rfl)];exact p.sub
theorem Jc {K:PySem.W.Frag} {C:Addr}:PySem.W.kitOne K (.ref C) (.ref C)=some true:=by
 unfold PySem.W.kitOne;rw [if_pos (by simp)]
theorem Ef {K:PySem.W.Frag} {C:Addr} {b:Bool} (h:PySem.W.subIn K (.ref C) (.type "ValueError")=some b):PySem.W.kitOne K (.ref C) (.type "ValueError")=some b:=by
 unfold PySem.W.kitOne;rw [if_neg (by intro z;cases beq_iff_eq.mp z)];show (if PySem.W.kitMeta "ValueError" = true then PySem.W.subIn K (.ref C) (.type "ValueError") else none)=some b;rw [if_pos (by decide +kernel)];exact h
theorem su {K:PySem.W.Frag} {C:Addr}:∀{cs:List Addr},(∀D∈cs,PySem.W.kitOne K (.ref C) (.ref D)=some false)->PySem.W.kitAny K (.ref C) (cs.map Value.ref)=some false
 | [],_=>rfl
 | D::cs,h=>by
   show PySem.W.kitAny K (.ref C) (.ref D::cs.map Value.ref)=some false;unfold PySem.W.kitAny;rw [h D List.mem_cons_self];exact su fun D' hD=>h D' (List.mem_cons_of_mem _ hD)
theorem Ds:bootBuiltins "ValueError" = some (.type "ValueError"):=by kernel_rfl
end L2
namespace L2
open PySem
structure Xr (K:PySem.W.Frag) (mg:Str->Option Value) (C:Addr) (nm:Str):Prop where
 bd:mg nm=some (.ref C)
 hd:XHd K C
 xc:PySem.W.Xp K C
 ex:PySem.W.excIn K C [.type "ValueError",.type "Exception",.type "BaseException",.type "object"] "ValueError.__new__" = true
 ve:PySem.W.subIn K (.ref C) (.type "ValueError")=some true
structure Xo (K:PySem.W.Frag) (mg:Str->Option Value) (C D:Addr) (nm:Str) (b:Bool):Prop where
 bd:mg nm=some (.ref D)
 hd:XHd K D
 pr:bZ K C D b
theorem Xo.kit {K:PySem.W.Frag} {mg:Str->Option Value} {C D:Addr} {nm:Str} {b:Bool} (x:Xo K mg C D nm b):PySem.W.kitOne K (.ref C) (.ref D)=some b:=qJ x.hd x.pr
end L2
set_option Elab.async false
set_option linter.all false
set_option maxRecDepth 100000
set_option maxHeartbeats 4000000
namespace L2
open PySem PySem.Spec PyProof.Rows
section
variable {X:Cx} {pins:List (Addr×Obj)} {σ:St} {H:Hp} {s:Shared} {h':Heap}
theorem Inv.tE {t':Nat} {fp:List Addr} (I:Inv X pins σ H s) (hf:∀b∈fp,sZ X pins H b) (k:∀b o,b∉fp->s.heap.get? b=some o->h'.get? b=some o):Inv X pins σ H {s with heap:=h',toks:=t'}:=by
 have nit:∀b u,H b=some u->b∉fp:=fun b u e z=>by rw [(hf b z).1] at e;cases e
 refine I.step (g':=s.gens) (d':=s.drawn) (ch:=fp) (fun b hb=> ?_) (fun b o _ _ hc e _=>k b o hc e) (fun b o _ _ hc e _=>⟨o.slots,k b o hc e⟩) (fun _ _ _ _ n=>n)
  (fun b o hc e=>⟨o,k b o hc e⟩) (fun _ _ e=>e) (fun _ _ _ e=>e) (fun b ps e=>⟨#[],by rw [e];simp⟩) (fun m hm=> ?_) (fun b u e=> ?_) I.bare
 ·obtain ⟨f0,f1,f2,f3,f4,f5⟩:=hf b hb
  exact ⟨f3,f1,f4,f5⟩
 ·obtain ⟨o,es,ep,ho,r⟩:=hm
  exact ⟨o,es,ep,k _ o (fun z=>(hf _ z).2.1 rfl) ho,r⟩
 ·refine (I.hok b u e).stay (fun c v hc q=>k c v ?_ q) (fun _ q=>q) fun _ _ q=>q
  rcases hc with z|z
  ·rw [z];exact nit b u e
  ·exact nit c _ z
theorem sZ.upd {b p:Addr} {o:HO} (h:sZ X pins H b) (n:b≠p):sZ X pins (upd H p o) b:=by
 obtain ⟨f0,r⟩:=h;exact ⟨by rw [aD n];exact f0,r⟩
theorem B_ {h:Heap} {o u:Obj} {b:Addr} (ho:o.isFreed=false) (e:(h.push o).get? b=some u):(b=h.objs.size/\u=o)\/h.get? b=some u:=by
 by_cases hb:b=h.objs.size
 ·subst hb
  rw [Heap.get?_push_size _ ho] at e;exact .inl ⟨rfl,(Option.some.inj e).symm⟩
 ·refine .inr ?_
  have lt:=Heap.lt_size e
  have O6:b<h.objs.size:=by
   have:(h.push o).objs.size=h.objs.size+1:=by simp [Heap.push]
   rw [this] at lt;exact Nat.lt_of_le_of_ne (Nat.le_of_lt_succ lt) hb
  have:(h.push o).get? b=h.get? b:=by
   simp only [Heap.get?,Heap.push];rw [Array.getElem?_push_lt O6,Array.getElem?_eq_getElem O6]
  rw [←this];exact e
end
def Ite (K:PySem.W.Frag) (l:Addr):It:=
 ⟨fun i H=>∃xs x,bL K H l xs/\xs[i]? = some x,fun i H x H'=>∃(p:Addr) (y:V),x = .ref p/\H p=none/\(∀xs,bL K H l xs->xs[i]? = some y)/\H'=upd H p (.tup [.int i,y]),fun i H=>∃xs,bL K H l xs/\xs.length<=i⟩
theorem NQ {P:Program} {w:World} {K:PySem.W.Frag} {elts:List Expr} {x1:Nat} {pos:Pos} (l e it:Addr) (hne:e≠it):Turn P w K (.Tuple elts x1 pos) (Ite K l) [e,it] e (fun i h=>(∃old,IsEnum h e it i old)/\h.IsListIter it l i) where
 mem:=by simp
 obj:=fun i h st b hb=>by
  obtain ⟨⟨old,he⟩,o,ho,c,d⟩:=st;have hb':b=e\/b=it:=by simpa using hb
  rcases hb' with rfl|rfl
  ·exact ⟨_,he,fun v z=>by cases z⟩
  ·exact ⟨o,ho,fun v z=>by rw [d] at z;cases z⟩
 keep:=fun i h h' st k=>by
  obtain ⟨⟨old,he⟩,o,ho,c,d⟩:=st;exact ⟨⟨old,k e (by simp) _ he⟩,o,k it (by simp) _ ho,c,d⟩
 item:=by
  intro X hP hw hK hc i pins s σ H E I hf st hg;subst hP hw hK;obtain ⟨xs,x,hq,hx⟩:=hg;obtain ⟨its,rv,p,hz⟩:=I.list hq;obtain ⟨u,hu,ru⟩:=rv.get hx;obtain ⟨⟨old,he⟩,hi⟩:=st;have elt:=Heap.lt_size he;have ilt:it<s.heap.objs.size:=by obtain ⟨o,ho,_⟩:=id hi;exact Heap.lt_size ho
  refine wpAny_pyNext_enum_item he hi p.isList (x:=u) (by simpa using hu) hne fun h' hout hit htup hsz hk=> ?_;refine ⟨_,rfl, ?_⟩;refine wpAny_letOwnedTupleGo_enum hout fun h2 he2 sb=> ?_;have hfr:H s.heap.objs.size=none:=I.hok.fresh (Nat.le_refl _)
  have I0:Inv X pins σ (upd H s.heap.objs.size (.tup [.int i,x])) {s with heap:=s.heap.push {cls:= .type "tuple",data:= .seq #[.int i s.toks,u]}}:=
   I.laid (t':=s.toks) (fun b u e=>Heap.get?_push_of_some _ e) (Nat.le_refl _) ⟨by show 2<=sizeLine;decide,[.int i s.toks,u],.cons ⟨_,rfl⟩ (.cons ru .nil),⟨_,Heap.get?_push_size _ rfl,rfl,_,rfl⟩⟩
  have ne1:e≠s.heap.objs.size:=Nat.ne_of_lt elt;have ne2:it≠s.heap.objs.size:=Nat.ne_of_lt ilt
  have Yp:∀b∈[e,it],sZ X pins (upd H s.heap.objs.size (.tup [.int i,x])) b:=fun b hb=>by
   have hb':b=e\/b=it:=by simpa using hb
   rcases hb' with rfl|rfl
   ·exact (hf _ (by simp)).upd ne1
   ·exact (hf _ (by simp)).upd ne2
  have I1:=I0.tE (h':=h2) (t':=s.toks+1) Yp (fun b o hb eb=>by
   have b1:b≠e:=fun z=>hb (by simp [z]);have b2:b≠it:=fun z=>hb (by simp [z]);rw [sb.2 b b1];rcases B_ rfl eb with ⟨rfl,rfl⟩|eb
   ·exact htup
   ·exact hk b o b1 b2 eb)
  refine ⟨.ref s.heap.objs.size,_,I1,rfl,⟨s.heap.objs.size,x,rfl,hfr,fun ys hy=>by rw [I.wD hy hq];exact hx,rfl⟩,⟨⟨u,he2⟩, ?_⟩,fun b hb=>(Yp b hb).1⟩;obtain ⟨o,ho,c,d⟩:=hit;exact ⟨o,(sb.2 it (Ne.symm hne)).trans ho,c,d⟩
 done:=by
  intro X hP hw hK hc i pins s σ H E I hf st hg;subst hP hw hK;obtain ⟨xs,hq,hx⟩:=hg;obtain ⟨its,rv,p,hz⟩:=I.list hq;obtain ⟨⟨old,he⟩,hi⟩:=st;have hl:=rv.length;exact wpAny_pyNext_enum_end (I.ok.hd hc) he hi p.isList (by simp;omega) fun h' eb=>⟨rfl,I.tE (t':=s.toks) hf (fun b o hb e=>eb b o (fun z=>hb (by simp [z])) e)⟩
 self:=fun _ _ _ _ _ st h=>by
  obtain ⟨⟨old,he⟩,_⟩:=st;exact wpAny_pyIter_enum he h
section
variable {X:Cx}
def acL (K:PySem.W.Frag) (ta:TA):TI:=fun σ H R=>ta σ H fun vs H1=>∃l xs,vs=[.ref l]/\bL K H1 l xs/\R (Ite K l) H1
theorem G6:bootBuiltins "enumerate" = some (.type "enumerate"):=by kernel_rfl
theorem Ry {K:PySem.W.Frag} {a:Expr} {ta:TA} {p pos:Pos} {elts:List Expr} {x1:Nat} {tpos:Pos} (hK:X.K=K) (hg:Gl X "enumerate") (hm:X.mg "enumerate" = none) (ha:PA X [a] ta) (hs:starEach [a] X.env=[(false,eval a X.env)]:=by rfl):PI X (.Tuple elts x1 tpos) (.Call (.Name "enumerate" p) [a] [] pos) (acL K ta):=by
 subst hK;intro pins s σ H R I h;refine Call_ (vm I hg hm G6 (PyProof.Rows.callWith_type1 (d9 (ha pos pins s σ H _ I h) fun us s1 ⟨vs,H1,I1,r1,q1⟩=> ?_) hs rfl));obtain ⟨l,xs,e,hq,q⟩:=q1;subst e;cases r1 with
 | cons r rr=>
   cases rr;cases r;obtain ⟨its,rv,pl,hz⟩:=I1.list hq;refine call_enumerate_list pl.isList fun h' hE hI hsz hk=> ?_;refine wpAny_pyIter_enum hE ?_;have I2:Inv X pins σ H1 {s1 with heap:=h'}:=I1.kept (t':=s1.toks) hk;refine ⟨s1.heap.objs.size+1,[s1.heap.objs.size+1,s1.heap.objs.size],_,_,H1,rfl,I2,NQ l _ _ (by simp),⟨⟨_,hE⟩,hI⟩,fun b hb=> ?_,q⟩;have hb':b=s1.heap.objs.size+1\/b=s1.heap.objs.size:=by simpa using hb
   rcases hb' with rfl|rfl
   ·exact I1.Ca (Nat.le_succ _) (I1.hok.fresh (Nat.le_succ _))
   ·exact I1.Ca (Nat.le_refl _) (I1.hok.fresh (Nat.le_refl _))
end
def Itz (K:PySem.W.Frag) (l1 l2:Addr):It:=
 ⟨fun i H=>∃xs ys x y,bL K H l1 xs/\bL K H l2 ys/\xs[i]? = some x/\ys[i]? = some y,
  fun i H x H'=>∃(p:Addr) (y z:V),x = .ref p/\H p=none/\(∀xs,bL K H l1 xs->xs[i]? = some y)/\(∀ys,bL K H l2 ys->ys[i]? = some z)/\H'=upd H p (.tup [y,z]),
  fun i H=>∃xs ys,bL K H l1 xs/\bL K H l2 ys/\(xs.length<=i\/ys.length<=i)⟩
theorem QV {P:Program} {w:World} {K:PySem.W.Frag} {elts:List Expr} {x1:Nat} {pos:Pos} (z TI TO i1 i2 l1 l2:Addr) (ap:ZipApart z TI TO i1 i2 l1 l2):Turn P w K (.Tuple elts x1 pos) (Itz K l1 l2) [z,TI,TO,i1,i2] z
 (fun i h=>IsZip h z TI TO .none/\IsPair h TI (.ref i1) (.ref i2)/\(∃a b,IsPair h TO a b)/\h.IsListIter i1 l1 i/\h.IsListIter i2 l2 i) where
 mem:=by simp
 obj:=fun i h st b hb=>by
  obtain ⟨hz,hTI,⟨a,c,hTO⟩,⟨o1,h1,c1,d1⟩,⟨o2,h2,c2,d2⟩⟩:=st;have hb':b=z\/b=TI\/b=TO\/b=i1\/b=i2:=by simpa using hb
  rcases hb' with rfl|rfl|rfl|rfl|rfl
  ·exact ⟨_,hz,fun v z=>by cases z⟩
  ·exact ⟨_,hTI,fun v z=>by cases z⟩
  ·exact ⟨_,hTO,fun v z=>by cases z⟩
  ·exact ⟨_,h1,fun v z=>by rw [d1] at z;cases z⟩
  ·exact ⟨_,h2,fun v z=>by rw [d2] at z;cases z⟩
 keep:=fun i h h' st k=>by
  obtain ⟨hz,hTI,⟨a,c,hTO⟩,⟨o1,h1,c1,d1⟩,⟨o2,h2,c2,d2⟩⟩:=st;exact ⟨k z (by simp) _ hz,k TI (by simp) _ hTI,⟨a,c,k TO (by simp) _ hTO⟩,⟨o1,k i1 (by simp) _ h1,c1,d1⟩,⟨o2,k i2 (by simp) _ h2,c2,d2⟩⟩
 item:=by
  intro X hP hw hK hc i pins s σ H E I hf st hg;subst hP hw hK;obtain ⟨xs,ys,x,y,hq1,hq2,hx,hy⟩:=hg;obtain ⟨Jd,Vz,p1,hz1⟩:=I.list hq1;obtain ⟨its2,X5,p2,hz2⟩:=I.list hq2;obtain ⟨u1,hu1,ru1⟩:=Vz.get hx;obtain ⟨u2,hu2,ru2⟩:=X5.get hy;obtain ⟨hz,hTI,⟨a,c,hTO⟩,hi1,hi2⟩:=st;have zlt:=Heap.lt_size hz;have aaT:=Heap.lt_size hTI;have aaS:=Heap.lt_size hTO;have aam:i1<s.heap.objs.size:=by obtain ⟨o,ho,_⟩:=id hi1;exact Heap.lt_size ho
  have aal:i2<s.heap.objs.size:=by obtain ⟨o,ho,_⟩:=id hi2;exact Heap.lt_size ho
  refine wpAny_pyNext_zip_item ap hz hTI hTO hi1 hi2 p1.isList p2.isList (x:=u1) (y:=u2) (by simpa using hu1) (by simpa using hu2) fun h' hz' aar aaq hi2' hnew hsz hk=> ?_;refine ⟨_,rfl, ?_⟩;refine wpAny_letOwnedTupleGo_zip hz' fun h2 aan sb=> ?_;have hfr:H s.heap.objs.size=none:=I.hok.fresh (Nat.le_refl _)
  have I0:Inv X pins σ (upd H s.heap.objs.size (.tup [x,y])) {s with heap:=s.heap.push {cls:= .type "tuple",data:= .seq #[u1,u2]}}:=
   I.laid (t':=s.toks) (fun b u e=>Heap.get?_push_of_some _ e) (Nat.le_refl _) ⟨by show 2<=sizeLine;decide,[u1,u2],.cons ru1 (.cons ru2 .nil),⟨_,Heap.get?_push_size _ rfl,rfl,_,rfl⟩⟩
  have Yp:∀b∈[z,TI,TO,i1,i2],sZ X pins (upd H s.heap.objs.size (.tup [x,y])) b:=fun b hb=>by
   refine (hf b hb).upd ?_;have hb':b=z\/b=TI\/b=TO\/b=i1\/b=i2:=by simpa using hb
   rcases hb' with rfl|rfl|rfl|rfl|rfl
   ·exact Nat.ne_of_lt zlt
   ·exact Nat.ne_of_lt aaT
   ·exact Nat.ne_of_lt aaS
   ·exact Nat.ne_of_lt aam
   ·exact Nat.ne_of_lt aal
  have I1:=I0.tE (h':=h2) (t':=s.toks) Yp (fun b o hb eb=>by
   have b1:b≠z:=fun e=>hb (by simp [e]);have b2:b≠TO:=fun e=>hb (by simp [e]);have b3:b≠i1:=fun e=>hb (by simp [e]);have b4:b≠i2:=fun e=>hb (by simp [e]);rw [sb.2 b b1];rcases B_ rfl eb with ⟨rfl,rfl⟩|eb
   ·exact hnew
   ·exact hk b o b1 b2 b3 b4 eb)
  refine ⟨.ref s.heap.objs.size,_,I1,rfl,⟨s.heap.objs.size,x,y,rfl,hfr,fun ys hy=>by rw [I.wD hy hq1];exact hx,fun ys' hy'=>by rw [I.wD hy' hq2];exact hy,rfl⟩, ?_,fun b hb=>(Yp b hb).1⟩;obtain ⟨o1,ho1,c1,d1⟩:=aaq;obtain ⟨o2,ho2,c2,d2⟩:=hi2';exact ⟨aan,(sb.2 TI ap.TIz).trans (hk TI _ ap.TIz ap.TITO ap.TIi1 ap.TIi2 hTI),⟨_,_,(sb.2 TO ap.TOz).trans aar⟩,⟨o1,(sb.2 i1 ap.i1z).trans ho1,c1,d1⟩,⟨o2,(sb.2 i2 ap.i2z).trans ho2,c2,d2⟩⟩
 done:=by
  intro X hP hw hK hc i pins s σ H E I hf st hg;subst hP hw hK;obtain ⟨xs,ys,hq1,hq2,hx⟩:=hg;obtain ⟨Jd,Vz,p1,hz1⟩:=I.list hq1;obtain ⟨its2,X5,p2,hz2⟩:=I.list hq2;obtain ⟨hz,hTI,⟨a,c,hTO⟩,hi1,hi2⟩:=st;have hl1:=Vz.length;have hl2:=X5.length;refine wpAny_pyNext_zip_end (I.ok.hd hc) ap hz hTI hTO hi1 hi2 p1.isList p2.isList ?_ fun h' eb=>⟨rfl,I.tE (t':=s.toks) hf (fun b o hb e=>eb b o (fun z=>hb (by simp [z])) (fun z=>hb (by simp [z])) (fun z=>hb (by simp [z])) (fun z=>hb (by simp [z])) e)⟩;rcases hx with hx|hx
  ·exact .inl (by simp;omega)
  ·exact .inr (by simp;omega)
 self:=fun _ _ _ _ _ st h=>wpAny_pyIter_zip st.1 h
section
variable {X:Cx}
end
end L2
set_option Elab.async false
set_option linter.all false
set_option maxRecDepth 100000
set_option maxHeartbeats 4000000
namespace L2
open PySem PySem.Spec PyProof.Rows
section
variable {K:PySem.W.Frag} {a l1 l2 D:Addr} {xs ys:List V} {g:TG} {tc:TT} {te:TE} {Q:VK} {σ0:St} {H1:Hp}
theorem Uh {n:Nat} (hn1:xs.length=n) (hn2:ys.length=n) (Pv:Nat->St->Hp->Prop) (h0:Pv 0 σ0 (upd H1 D (.lst []))) (hl:∀i σ H,i<=n->Pv i σ H->bL K H l1 xs/\bL K H l2 ys)
 (hs:∀i x y σ H p,xs[i]? = some x->ys[i]? = some y->Pv i σ H->H p=none->g (.ref p) σ (upd H p (.tup [x,y])) fun σ2 H2=>tc σ2 H2 fun b H3=>
   if b=true then te σ2 H3 fun y H4=>∃acc,H4 D=some (.lst acc)/\acc.length<sizeLine/\Pv (i+1) σ2 (upd H4 D (.lst (acc++[y]))) else Pv (i+1) σ2 H3)
 (hd:∀σ H,Pv n σ H->Q (.ref D) H):oK (Itz K l1 l2) g tc te Q D σ0 H1:=by
 refine ⟨fun i m σ H=>m=n - i/\i<=n/\Pv i σ H,⟨n,by simp,Nat.zero_le _,h0⟩, ?_⟩;rintro i m σ H ⟨rfl,hi,p⟩;obtain ⟨q1,q2⟩:=hl i σ H hi p
 by_cases hlt:i<n
 ·refine .inr ⟨⟨xs,ys,xs[i],ys[i],q1,q2,by simp [hn1,hlt],by simp [hn2,hlt]⟩,Pv (i+1),fun σ' H' p'=>⟨n - (i+1),by omega,rfl,hlt,p'⟩,fun x H' y=> ?_⟩
  obtain ⟨t,z,u,rfl,ht,hz,hu,rfl⟩:=y;exact hs i z u σ _ t (hz xs q1) (hu ys q2) p ht
 ·have e:i=n:=by omega
  subst e;exact .inl ⟨⟨xs,ys,q1,q2,.inl (by omega)⟩,hd σ H p⟩
end
section
variable {K:PySem.W.Frag} {a l1 l2:Addr} {xs ys:List V} {g:TG} {tb:TS} {D:Ends} {σ:St} {H:Hp}
theorem Tz (Pv:Nat->St->Hp->Prop) (h0:Pv 0 σ H) (hl:∀i σ H,i<=xs.length->Pv i σ H->bL K H a xs)
 (hs:∀i x σ H p,xs[i]? = some x->Pv i σ H->H p=none->g (.ref p) σ (upd H p (.tup [.int i,x])) fun σ2 H2=>tb {D with nx:=Pv (i+1),ct:=Pv (i+1),bk:=D.nx} σ2 H2) (hd:∀σ H,Pv xs.length σ H->D.nx σ H):
 ∃W:Nat->Nat->St->Hp->Prop,(∃m,W 0 m σ H) /\ ∀i m σ H,W i m σ H ->
  ((Ite K a).stop i H/\D.nx σ H)\/((Ite K a).go i H /\ ∃N:St->Hp->Prop,(∀σ' H',N σ' H' -> ∃m',m'<m/\W (i+1) m' σ' H') /\ ∀x H',(Ite K a).yld i H x H'->g x σ H' fun σ2 H2=>tb {D with nx:=N,ct:=N,bk:=D.nx} σ2 H2):=by
 refine ⟨fun i m σ H=>m=xs.length - i/\i<=xs.length/\Pv i σ H,⟨xs.length,by simp,Nat.zero_le _,h0⟩, ?_⟩;rintro i m σ H ⟨rfl,hi,p⟩;have q:=hl i σ H hi p
 by_cases hlt:i<xs.length
 ·refine .inr ⟨⟨xs,xs[i],q,by simp [hlt]⟩,Pv (i+1),fun σ' H' p'=>⟨xs.length - (i+1),by omega,rfl,hlt,p'⟩,fun x H' y=> ?_⟩
  obtain ⟨t,z,rfl,ht,hz,rfl⟩:=y;exact hs i z σ _ t (hz xs q) p ht
 ·have e:i=xs.length:=by omega
  subst e;exact .inl ⟨⟨xs,q,Nat.le_refl _⟩,hd σ H p⟩
end
section
variable {X:Cx}
theorem Al:∀{ns:List Int} {us:List Value},Vals (ns.map V.int) us->IntsAre us ns
 | [],us,r=>by cases r;exact .nil
 | n::ns,us,r=>by
   cases r with
   | cons r rs=>
     obtain ⟨t,rfl⟩:=r;exact .cons n t (Al rs)
def VR:V->List V->Hp->VK->Prop:=fun x vs H Q=>∃(l:Addr) (ns:List Int) (i:Int),x = .ref l/\vs=[.int i]/\bL X.K H l (ns.map V.int)/\Q (.int (ns.count i)) H
theorem SX:MtR X "list.count" (VR (X:=X)):=by
 intro pins s σ H x vs v us Q I rx rv h;obtain ⟨l,ns,i,rfl,rfl,hq,q⟩:=h;cases rx;obtain ⟨u,rfl,ru⟩:=rv.one;obtain ⟨t,rfl⟩:=ru;obtain ⟨its,r',pl,hz⟩:=I.list hq;exact count_list_ints pl.isList (Al r') ⟨.int _,H,I.tok _,⟨_,rfl⟩,q⟩
theorem Bo (ns:List Int):∀n,n<=ns.length->preSum (fun i=>(ns[i]?).getD 0) n=(ns.take n).sum
 | 0,_=>by simp [preSum]
 | n+1,h=>by
   have ih:=Bo ns n (by omega);have hn:n<ns.length:=h;rw [List.take_succ,List.sum_append,←ih];simp [preSum,hn]
def ahf (K:PySem.W.Frag):List V->Hp->VK->Prop:=fun xs H Q=>∃(p:Addr) (ns:List Int),xs=[.ref p]/\bL K H p (ns.map V.int)/\Q (.int ns.sum) H
theorem Eu {K:PySem.W.Frag} (hK:X.K=K) (hc:X.calm=true):jZ X (.builtin "sum") (ahf K):=by
 subst hK;intro pins s σ H xs us Q I r h;obtain ⟨p,ns,rfl,hq,q⟩:=h;obtain ⟨u,rfl,rx⟩:=vals1 r;cases rx;obtain ⟨its,rv,pl,hz⟩:=I.list hq;have e:=Al rv;have hlen:its.length=ns.length:=by rw [←rv.length,List.length_map]
 refine call_sum_walkG (wpAny_pyIter_list pl.isList ⟨s.heap.objs.size,[s.heap.objs.size,p],[s.heap.objs.size],its.length,_,_,fun i=>(ns[i]?).getD 0,rfl,
  Ak (show X.A.in1.handled=none from I.ok.hd hc) s.heap.objs.size p ?_ its,⟨⟨_,Heap.get?_push_size _ rfl,rfl,rfl⟩, ?_⟩, ?_, ?_, ?_⟩)
 ·intro z
  obtain ⟨o,ho,_⟩:=pl.isList;have:=Heap.lt_size ho;rw [←z] at this;exact Nat.lt_irrefl _ this
 ·obtain ⟨o,ho,hcl⟩:=pl.isList
  exact ⟨o,Heap.get?_push_of_some _ ho,hcl⟩
 ·intro b hb
  have hsz:(s.heap.push {cls:= .type "list_iterator",data:= .fields #[.ref p,.int 0 0]}).objs.size=s.heap.objs.size+1:=by simp [Heap.push]
  have hb':b=s.heap.objs.size\/b=p:=by simpa using hb
  show b<(s.heap.push _).objs.size;rw [hsz];rcases hb' with rfl|rfl
  ·exact Nat.lt_succ_self _
  ·obtain ⟨o,ho,_⟩:=pl.isList
   exact Nat.lt_succ_of_lt (Heap.lt_size ho)
 ·intro i v hP
  obtain ⟨j,hj,rj⟩:∃j,ns[i]? = some j /\ ∃t,v = .int j t:=by
   have hi:i<its.length:=(List.getElem?_eq_some_iff.mp hP).1;have hv:=(rv.get (i:=i) (x:=V.int (ns[i]'(by omega))) (by simp [show i<ns.length by omega]));obtain ⟨u,hu,ru⟩:=hv;rw [hP] at hu;cases hu;obtain ⟨t,ht⟩:=ru;exact ⟨ns[i]'(by omega),by simp [show i<ns.length by omega],t,ht⟩
  obtain ⟨t,rfl⟩:=rj;exact ⟨t,by simp [hj]⟩
 ·intro h' tk t' k
  rw [Bo ns its.length (by omega),List.take_of_length_le (by omega)];have f:=I.Ca (H':=H) (b:=s.heap.objs.size) (Nat.le_refl _) (I.hok.fresh (Nat.le_refl _));have I2:Inv X pins σ H {s with heap:=h',toks:=tk}:=I.turned (h':=h') (t':=tk) (it:=s.heap.objs.size) (fun b o hb e=>k b o (by simpa using hb) (Heap.get?_push_of_some _ e)) f.1 f.2.1 f.2.2.2.1 f.2.2.2.2.1 f.2.2.2.2.2;exact ⟨.int _,H,I2,⟨_,rfl⟩,q⟩
theorem Bq {K:PySem.W.Frag} {T name id:String} {r:V->List V->Hp->VK->Prop} {o e:Expr} {es:List Expr} {to:TE} {t:TA} {apos cpos:Pos} (h:X.K=K) (pa:PlainAttrs T) (slot:Slot T name id) (hty:typeOf (.builtin id)=pure (.type "method_descriptor")) (hm:MtR X id r) (ho:PE X o to) (ha:PA X (e::es) t)
 (hbase:attributeBase o name X.env (eval o X.env)=eval o X.env:=by rfl)
 (hfew:((backTo cpos (starEach (e::es) X.env)).all (fun x=> !x.1)&&(backToKw cpos (keywordEach [] X.env)).all (fun x=>x.1.isSome)
   && decide ((e::es).length+([]:List Keyword).length+(if ([]:List Keyword).isEmpty then 0 else 1)<30))=true:=by rfl)
 (hline:(apos.endLine==cpos.line)=true:=by rfl) (hs:starEach (e::es) X.env=(false,eval e X.env)::starEach es X.env:=by rfl) (hplain:(backTo cpos (starEach es X.env)).any (·.1)=false:=by rfl):
 PE X (.Call (.Attribute o name apos) (e::es) [] cpos) (tBM K T r to t):=by
 subst h;exact X8 pa slot hty hm ho ha hbase hfew hline hs hplain
def Zt (K:PySem.W.Frag):V->List V->Hp->VK->Prop:=fun x vs H Q=>∃(l:Addr) (ns:List Int) (i:Int),x = .ref l/\vs=[.int i]/\bL K H l (ns.map V.int)/\Q (.int (ns.count i)) H
theorem O1 {K:PySem.W.Frag} (h:X.K=K):MtR X "list.count" (Zt K):=by subst h;exact SX
theorem Gf {K:PySem.W.Frag} {es:List Expr} {k:Nat} {t:Yx} {n:Nat} {pos:Pos} (hK:X.K=K) (hc:X.calm=true) (h:PGs X es t)
 (hn:(assignEach es X.env).length=n:=by rfl) (hst:(assignEach es X.env).findIdx? (·.1)=none:=by rfl):PG X (.Tuple es k pos) (W5 K n t):=by subst hK;exact ZG hc h hn hst
end
end L2
set_option Elab.async false
set_option linter.all false
set_option maxRecDepth 100000
set_option maxHeartbeats 4000000
namespace L2
open PySem
section
variable {K:PySem.W.Frag} {a D:Addr} {xs:List V} {tc:TT} {te:TE} {Q:VK} {rest:St} {H1:Hp}
theorem eX {α:Type} (f:Nat->Option α) (n:Nat):(List.range (n+1)).filterMap f=(List.range n).filterMap f++(f n).toList:=by
 rw [List.range_succ,List.filterMap_append];cases h:f n<;>simp [h]
theorem vB {α:Type} (f:Nat->Option α) (n:Nat):((List.range n).filterMap f).length<=n:=by
 have:=List.length_filterMap_le f (List.range n);simpa using this
theorem Same.newly {H H1:Hp} {D:Addr} {o:HO} (h:Same H H1) (n:H D=none):Same H (upd H1 D o):=fun b u e=>by rw [aD (aA e n)];exact h b u e
theorem sJ (f:Nat->Option V) (hD:H1 D=none) (hq:bL K H1 a xs) (hx:xs.length<=100000)
 (hs:∀i x H (G:Hp->Prop) (F:VK),xs[i]? = some x->Same H1 H->(∀H',Same H H'->f i=none->G H')->(∀y H',Same H H'->f i=some y->F y H')->tc (some x::rest) H fun b H3=>if b=true then te (some x::rest) H3 F else G H3)
 (hd:∀H,Same H1 H->H D=some (.lst ((List.range xs.length).filterMap f))->Q (.ref D) H):oK (Yy K a) (gO 0) tc te Q D (none::rest) H1:=by
 refine pL (K:=K) (xs:=xs) (fun i σ H=>(∃v,σ=v::rest)/\Same H1 H/\H D=some (.lst ((List.range i).filterMap f))) ⟨⟨none,rfl⟩,aJ hD,ak⟩ (fun i σ H _ ⟨_,sm,_⟩=>sm.sqL _ _ hq) ?_ (fun σ H ⟨_,sm,e⟩=>hd H sm e);rintro i x σ H hi ⟨⟨v,rfl⟩,sm,e⟩;have hil:i<xs.length:=(List.getElem?_eq_some_iff.mp hi).1;refine hs i x H _ _ hi sm (fun H3 s3 ef=>⟨⟨_,rfl⟩,sm.trans s3,by rw [s3 _ _ e,eX,ef];simp⟩) (fun y H4 s4 ef=> ?_);refine ⟨_,s4 _ _ e, ?_,⟨_,rfl⟩,(sm.trans s4).newly hD, ?_⟩
 ·have:=vB f i
  rw [sizeLine_eq];omega
 ·rw [ak,eX,ef];rfl
theorem PK (f:Nat->Option V) (hD:H1 D=none) (hq:H1 a=some (.tup xs)) (hx:xs.length<=100000)
 (hs:∀i x H (G:Hp->Prop) (F:VK),xs[i]? = some x->Same H1 H->(∀H',Same H H'->f i=none->G H')->(∀y H',Same H H'->f i=some y->F y H')->tc (some x::rest) H fun b H3=>if b=true then te (some x::rest) H3 F else G H3)
 (hd:∀H,Same H1 H->H D=some (.lst ((List.range xs.length).filterMap f))->Q (.ref D) H):oK (Itt K a) (gO 0) tc te Q D (none::rest) H1:=by
 refine Ui (K:=K) (xs:=xs) (fun i σ H=>(∃v,σ=v::rest)/\Same H1 H/\H D=some (.lst ((List.range i).filterMap f))) ⟨⟨none,rfl⟩,aJ hD,ak⟩ (fun i σ H _ ⟨_,sm,_⟩=>cQ.of (sm.tups _ _ hq)) ?_ (fun σ H ⟨_,sm,e⟩=>hd H sm e);rintro i x σ H hi ⟨⟨v,rfl⟩,sm,e⟩;have hil:i<xs.length:=(List.getElem?_eq_some_iff.mp hi).1;refine hs i x H _ _ hi sm (fun H3 s3 ef=>⟨⟨_,rfl⟩,sm.trans s3,by rw [s3 _ _ e,eX,ef];simp⟩) (fun y H4 s4 ef=> ?_);refine ⟨_,s4 _ _ e, ?_,⟨_,rfl⟩,(sm.trans s4).newly hD, ?_⟩
 ·have:=vB f i
  rw [sizeLine_eq];omega
 ·rw [ak,eX,ef];rfl
theorem t_ {n:Nat} (f:Nat->Option V) (hD:H1 D=none) (hx:n<=100000)
 (hs:∀i H (G:Hp->Prop) (F:VK),i<n->Same H1 H->(∀H',Same H H'->f i=none->G H')->(∀y H',Same H H'->f i=some y->F y H')->tc (some (.int (0+i))::rest) H fun b H3=>if b=true then te (some (.int (0+i))::rest) H3 F else G H3)
 (hd:∀H,Same H1 H->H D=some (.lst ((List.range n).filterMap f))->Q (.ref D) H):oK (Vh 0 n) (gO 0) tc te Q D (none::rest) H1:=by
 refine nQ (lo:=0) (n:=n) (fun i σ H=>(∃v,σ=v::rest)/\Same H1 H/\H D=some (.lst ((List.range i).filterMap f))) ⟨⟨none,rfl⟩,aJ hD,ak⟩ ?_ (fun σ H ⟨_,sm,e⟩=>hd H sm e);rintro i σ H hi ⟨⟨v,rfl⟩,sm,e⟩;refine hs i H _ _ hi sm (fun H3 s3 ef=>⟨⟨_,rfl⟩,sm.trans s3,by rw [s3 _ _ e,eX,ef];simp⟩) (fun y H4 s4 ef=> ?_);refine ⟨_,s4 _ _ e, ?_,⟨_,rfl⟩,(sm.trans s4).newly hD, ?_⟩
 ·have:=vB f i
  rw [sizeLine_eq];omega
 ·rw [ak,eX,ef];rfl
theorem PJ {l1 l2:Addr} {ys:List V} {n:Nat} (hn1:xs.length=n) (hn2:ys.length=n) (f:Nat->Option V) (hD:H1 D=none) (hq1:bL K H1 l1 xs) (hq2:bL K H1 l2 ys) (hx:n<=100000)
 (hs:∀i x y H (G:Hp->Prop) (F:VK),xs[i]? = some x->ys[i]? = some y->Same H1 H->(∀H',Same H H'->f i=none->G H')->(∀y H',Same H H'->f i=some y->F y H')->tc (some x::some y::rest) H fun b H3=>if b=true then te (some x::some y::rest) H3 F else G H3)
 (hd:∀H,Same H1 H->H D=some (.lst ((List.range n).filterMap f))->Q (.ref D) H):oK (Itz K l1 l2) (W5 K 2 (Jh (gO 0) (Jh (gO 1) aav))) tc te Q D (none::none::rest) H1:=by
 refine Uh (K:=K) (xs:=xs) (ys:=ys) hn1 hn2 (fun i σ H=>(∃u v,σ=u::v::rest)/\Same H1 H/\H D=some (.lst ((List.range i).filterMap f))) ⟨⟨none,none,rfl⟩,aJ hD,ak⟩ (fun i σ H _ ⟨_,sm,_⟩=>⟨sm.sqL _ _ hq1,sm.sqL _ _ hq2⟩) ?_ (fun σ H ⟨_,sm,e⟩=>hd H sm e);rintro i x y σ H p hix hiy ⟨⟨u,v,rfl⟩,sm,e⟩ hp;have sp:=aJ (o:=HO.tup [x,y]) hp;refine ⟨p,[x,y],rfl,cQ.of ak,rfl,_,_,rfl,_,_,rfl,rfl, ?_⟩;have hil:i<xs.length:=(List.getElem?_eq_some_iff.mp hix).1;refine hs i x y _ _ _ hix hiy (sm.trans sp) (fun H3 s3 ef=>⟨⟨_,_,rfl⟩,(sm.trans sp).trans s3,by rw [s3 _ _ (sp _ _ e),eX,ef];simp⟩) (fun y H4 s4 ef=> ?_);refine ⟨_,s4 _ _ (sp _ _ e), ?_,⟨_,_,rfl⟩,((sm.trans sp).trans s4).newly hD, ?_⟩
 ·have:=vB f i
  rw [sizeLine_eq];omega
 ·rw [ak,eX,ef];rfl
theorem Ji {α β:Type} {f g:α->Option β}:∀(l:List α) (_:True) (h:∀x∈l,f x=g x),l.filterMap f=l.filterMap g
 | [],_,_=>rfl
 | x::l,_,h=>by
   rw [List.filterMap_cons,List.filterMap_cons,h x (by simp),Ji l trivial fun y hy=>h y (by simp [hy])]
theorem snocInd {α:Type} {P:List α->Prop} (h0:P []) (hs:∀xs x,P xs->P (xs++[x])) (xs:List α):P xs:=by
 rw [←List.reverse_reverse xs]
 induction xs.reverse with
 | nil=>exact h0
 | cons x l ih=>rw [List.reverse_cons];exact hs _ _ ih
theorem GK {α β:Type} (xs:List α) (g:α->β):(List.range xs.length).filterMap (fun i=>(xs[i]?).map g)=xs.map g:=by
 refine snocInd (P:=fun xs=>(List.range xs.length).filterMap (fun i=>(xs[i]?).map g)=xs.map g) rfl (fun xs x ih=> ?_) xs
 ·show (List.range (xs++[x]).length).filterMap (fun i=>((xs++[x])[i]?).map g)=(xs++[x]).map g
  rw [List.length_append,List.length_singleton,eX,List.map_append];congr 1
  ·rw [←ih]
   refine Ji _ trivial fun i hi=> ?_;have:i<xs.length:=by simpa using hi
   rw [List.getElem?_append_left this]
  ·simp
end
end L2
namespace L2
open PySem
section
variable {X:Cx} {K:PySem.W.Frag}
end
end L2
namespace L2
open PySem
theorem vW {a b:TS} {D:Ends} {σ:St} {H:Hp} (h:∀R:St->Hp->Prop,(∀σ' H',b D σ' H'->R σ' H')->a {D with nx:=R} σ H):Y4 a b D σ H:=h _ (fun _ _ x=>x)
theorem mL {a b:TS} {D:Ends} {σ:St} {H:Hp} (P:St->Hp->Prop) (h1:∀D':Ends,(∀σ' H',P σ' H'->D'.nx σ' H')->D'.rt=D.rt->a D' σ H) (h2:∀σ' H',P σ' H'->b D σ' H'):Y4 a b D σ H:=h1 _ h2 rfl
end L2
namespace L2
open PySem PySem.Spec PyProof.Rows
section
variable {X:Cx} {K:PySem.W.Frag} {a:Expr} {ta:TE} {pos:Pos}
def agf (K:PySem.W.Frag) (ta:TE):TT:=fun σ H Q=>ta σ H fun x H'=>∃k,aaR K x H' k/\Q k H'
theorem yw (h:X.K=K) (ha:PE X a ta) (he:∀whole,isTrue a X.env whole=(do let v ←whole;standAt a.pos;holding [v] (truthy v)):=by intro _;rfl):PT X a (agf K ta):=by
 subst h;exact Rt ha he
end
end L2
set_option Elab.async false
set_option linter.all false
set_option maxRecDepth 100000
set_option maxHeartbeats 4000000
namespace L2
open PySem PySem.Spec PyProof.Rows
section
variable {X:Cx} {K:PySem.W.Frag}
end
section
variable {K:PySem.W.Frag} {a D:Addr} {xs:List V} {te:TE} {Q:VK} {rest:St} {H1:Hp}
theorem Es {H:Hp} {vs:List V} {ds:List PyData} {v:V} {d:PyData} (h:aR H vs ds) (hd:Dat H v d):aR H (vs++[v]) (ds++[d]):=aR.append h (by simp only [aR,and_true];exact hd)
end
end L2
set_option Elab.async false
set_option linter.all false
namespace L2
open PySem
def Gv (mg:Str->Option Value) (x:Str) (v:V):Prop:=∃u,mg x=some u/\RelV v u
end L2
set_option Elab.async false
set_option linter.all false
set_option maxRecDepth 100000
set_option maxHeartbeats 4000000
namespace L2
open PySem PySem.Spec PyProof.Rows
section
variable {prog:Program} {w:World} {K:Type} [DecidableEq K] {knd:HeapKind prog w K}
theorem Ln {xs:List (K×Addr×Value)} {k:K} (h:∀(j:Nat) (p:Addr×Value),xs[j]? ≠ some (k,p)):atKey xs k=none:=by
 unfold atKey;rw [Option.map_eq_none_iff,List.find?_eq_none];intro x hx e;obtain ⟨j,hj⟩:=List.getElem?_of_mem hx;have e':x.1=k:=of_decide_eq_true e;exact h j x.2 (by rw [hj,←e'])
theorem Lk {xs:List (K×Addr×Value)} {k:K} {j:Nat} {p:Addr×Value} (hn:(xs.map (·.1)).Nodup) (h:xs[j]? = some (k,p)):atKey xs k=some p:=by
 unfold atKey
 induction xs generalizing j with
 | nil=>cases h
 | cons x xs ih=>
   rw [List.find?_cons];cases j with
   | zero=>
     have:x=(k,p):=by simpa using h
     subst this;simp
   | succ j=>
     have hj:xs[j]? = some (k,p):=by simpa using h
     have hn':=List.nodup_cons.mp (by simpa using hn:(x.1::xs.map (·.1)).Nodup);have ne:¬x.1=k:=fun z=>hn'.1 (by rw [z];exact List.mem_map.mpr ⟨(k,p),List.mem_of_getElem? hj,rfl⟩);rw [decide_eq_false ne];exact ih hn'.2 hj
theorem ud {A:Around} {E:Value->Shared->Prop} {s:Shared} {d a:Addr} {xs:List (K×Addr×Value)} {k:K} {dflt:Value} {Q:Value->Shared->Prop}
 (hr:knd.room A) (hk:knd.is s.heap k a) (dd:Heap.DictOfH knd s.heap d xs) (hz:xs.length<=sizeLine)
 (h1:∀p,atKey xs k=some p->Q p.2 {s with toks:=s.toks+knd.draws k})
 (h2:atKey xs k=none -> ∀h',Heap.DictOfH knd h' d (xs++[(k,a,dflt)])->Heap.SameBut d s.heap h'->Q dflt {s with heap:=h',toks:=s.toks+knd.draws k}):
 wpAny (model prog w) A (dictSetDefault d (.ref a) dflt) Q E s:=by
 unfold dictSetDefault;refine wpAny_holding (wpAny_bind (knd.pyHash hr hk ?_));obtain ⟨o,es,ep,ho,hx,hd,he,hi,hn⟩:=id dd;have hl:es.size=xs.length:=by rw [←Array.length_toList,he,List.length_map]
 refine wpAny_bind (wpAny_dictFind_heap (s:={s with toks:=s.toks+knd.draws k}) hr hk ho hd he hi hn (fun hno=> ?_) (fun j p hj=> ?_))
 ·refine wpAny_bind (wpAny_rule ?_)
  have an:=Ln hno;refine wpAny_bind (wpAny_updateDictKeys (s:={s with toks:=s.toks+knd.draws k}) ho hd ?_ (by omega) (by simp));refine wpAny_pure ?_;have sb:=Heap.SameBut.update s.heap d (Obj.mapDictKeys fun x=>x.push {hash:=knd.hash k,key:= .ref a,val:=dflt});refine h2 an _ ?_ sb;obtain ⟨oc,od,aqi,osl⟩:=o;simp only at hd;subst hd;refine ⟨_,es.push {hash:=knd.hash k,key:= .ref a,val:=dflt},ep+1,Heap.get?_update_self _ ho ?_,hx,rfl, ?_, ?_, ?_⟩
  ·obtain ⟨c1,c2,c3⟩:=hx
   simp only at c1;subst c1;rfl
  ·rw [Array.toList_push,he,List.map_append];rfl
  ·intro x hxm
   rcases List.mem_append.mp hxm with hxm|hxm
   ·exact knd.keeps (hi x hxm) ho rfl sb
   ·have:x=(k,a,dflt):=by simpa using hxm
    subst this;exact knd.keeps hk ho rfl sb
  ·rw [List.map_append]
   refine List.nodup_append.mpr ⟨hn,by simp, ?_⟩;intro y hy z hz' e;have:z=k:=by simpa using hz'
   subst this;subst e;obtain ⟨x,hx',rfl⟩:=List.mem_map.mp hy;obtain ⟨j,hj⟩:=List.getElem?_of_mem hx';exact hno j x.2 hj
 ·refine wpAny_bind (wpAny_dictEntries (s:={s with toks:=s.toks+knd.draws k}) ho hd ?_)
  have ej:es[j]? = some (entryOfKey knd (k,p)):=by
   rw [←Array.getElem?_toList,he,List.getElem?_map,hj];rfl
  rw [ej];exact wpAny_bind (wpAny_rule (wpAny_pure (h1 p (Lk hn hj))))
theorem wC (knd:HeapKind prog w K) (d a:Addr) (hd:(d==sysModules)=false) (dflt:Value):MeetsIn prog w (Builtin.«dict.setdefault» {pos:=[.ref d,.ref a,dflt]}) fun A R s=>
 knd.room A.in1 /\ ∃k xs,knd.is s.heap k a/\Heap.DictOfH knd s.heap d xs/\xs.length<=sizeLine/\(∀p,atKey xs k=some p->R (.ok (.ret p.2)) {s with toks:=s.toks+knd.draws k}) /\
  (atKey xs k=none -> ∀h',Heap.DictOfH knd h' d (xs++[(k,a,dflt)])->Heap.SameBut d s.heap h'->R (.ok (.ret dflt)) {s with heap:=h',toks:=s.toks+knd.draws k}):=by
 rintro A R s ⟨hr,k,xs,hk,dd,hz,h1,h2⟩;obtain ⟨o,es,ep,ho,hx,hdat,_⟩:=id dd;unfold Builtin.«dict.setdefault»;have ht:s.TypeIs (.ref d) "dict" :=⟨o,ho,hx.1⟩;refine wpAny_bind ?_;unfold Builtin.Dict.keyAndDefault;refine wpAny_bind ?_;unfold Builtin.Dict.notOrdered;rw [if_pos (by decide)];refine wpAny_bind (wpAny_typeOf ht ?_);rw [if_neg (by decide)];refine wpAny_pure ?_;refine wpAny_bind ?_;unfold Builtin.Dict.nameIsSure;rw [if_neg (by show ¬(false=true);decide)];refine wpAny_pure ?_;refine wpAny_bind ?_;unfold selfAndSome noKeywords;refine wpAny_bind ?_;rw [if_pos (by rfl)];refine wpAny_pure ?_;show wpAny (model prog w) A.in1 (checkCount "setdefault" 1 2 2 >>= fun _=>pure (Value.ref d,[Value.ref a,dflt])) _ _ s;refine wpAny_bind ?_;have ck:checkCount "setdefault" 1 2 2=pure ():=rfl;rw [ck];refine wpAny_pure (wpAny_pure ?_);show wpAny (model prog w) A.in1 (Builtin.Dict.addrOf (.ref d) >>= fun x=>pure (x,Value.ref a,some dflt)) _ _ s;refine wpAny_bind (wpAny_pure (wpAny_pure ?_));show wpAny (model prog w) A.in1 (if (d==sysModules)=true then _ else (dictSetDefault d (.ref a) dflt >>= fun v=>ret v)) _ _ s;rw [if_neg (by rw [hd];decide)];refine wpAny_bind (ud hr hk dd hz (fun p hp=>wpAny_pure (h1 p hp)) (fun hn h' dd' sb=>wpAny_pure (h2 hn h' dd' sb)))
end
section
variable {X:Cx} {o e f:Expr} {td ty tx:TE} {apos cpos:Pos}
def Y9 (td ty tx:TE):TE:=fun σ H Q=>td σ H fun x H1=>∃a,x = .ref a/\IsD H1 a/\ty σ H1 fun y H2=>tx σ H2 fun z H3=>∃kvs k b,H3 a=some (.dT kvs)/\y = .ref b/\H3 b=some (.tup (k.map kV))/\kvs.length<sizeLine /\
 (∀v,gF kvs k=some v->Q v H3)/\(gF kvs k=none->Q z (upd H3 a (.dT (putK kvs k z))))
theorem RM (hu:X.A.units+1<cLine) (ho:PE X o td) (he:PE X e ty) (hf:PE X f tx) (m:M2 X o "setdefault" apos e f cpos):PE X (.Call (.Attribute o "setdefault" apos) [e,f] [] cpos) (Y9 td ty tx):=by
 intro pins s σ H Q I h;refine wpAny_Call_method m.base m.few m.line PySem.F.plainAttrs_dict PySem.F.slot_dict_setdefault PySem.F.type_dict_setdefault (d9 (ho pins s σ H _ I h) fun u s1 ⟨x,H1,I1,rx,a,ex,d,q1⟩=> ?_);subst ex;obtain rfl:u=Value.ref a:=rx;obtain ⟨t1,t2,_⟩:=Ti I1 d;refine ⟨t1,t2, ?_⟩;rw [m.trees]
 refine Calls.callWith_builtin rfl (Calls.evalArgs_plain (Calls.spliced_cons (d9 (he pins s1 σ H1 _ I1 q1) fun iv s2 ⟨y,H2,I2,ry,q2⟩=>
  Calls.spliced_cons (d9 (hf pins s2 σ H2 _ I2 q2) fun fv s3 ⟨z,H3,I3,rz,kvs,k,b,ea,ey,eb,hl,q3,q4⟩=>Calls.spliced_nil ?_))))
 subst ey;cases (show iv=Value.ref b from ry);obtain ⟨hz,hd,xs,rel,dd⟩:=adi I3.hok ea;have hz':xs.length<=sizeLine:=by rw [←Paired.length rel];exact hz
 have rv:=rel.val k;refine call_meetsIn PySem.F.slot_dict_setdefault dd.typeIs PySem.F.entry_dict_setdefault (PySem.F.args_dict_setdefault_3 _ _ _) (wC (tupleKind (gD X.prog X.w)) a b hd fv) ⟨tupleKind_room_in1 hu,k,xs,K7 I3.hok eb,dd,hz',fun p hp=> ?_,fun hn h' dd' sb=> ?_⟩
 ·rw [hp] at rv
  cases lv:gF kvs k with
  | none=>rw [lv] at rv;exact absurd rv (by simp [rA])
  | some v=>
    rw [lv] at rv;exact ⟨v,H3,I3.tok _,rv,q3 v lv⟩
 ·rw [hn] at rv
  have lv:gF kvs k=none:=by
   cases lv:gF kvs k with
   | none=>rfl
   | some v=>rw [lv] at rv;exact absurd rv (by simp [rA])
  have hl':(putK kvs k z).length<=sizeLine:=by have:=za kvs k z;omega
  obtain ⟨q,es,ep,hq,h2,h3,h4,_,h5⟩:=dd';have est:storedH xs k b fv=xs++[(k,b,fv)]:=by unfold storedH;rw [hn];rfl
  have rp:=rel.put k eb rz;rw [est] at rp;refine ⟨z,upd H3 a (.dT (putK kvs k z)),Xd (ob:= .dT (putK kvs k z)) I3 (by rw [ea];exact True.intro) sb ⟨q,hq⟩ ⟨hl',hd,_,rp.keeps fun c ys ec=> ?_,q,es,ep,hq,h2,h3,h4,h5⟩,rz,q4 lv⟩;rw [aD (d_ ec ea (fun z=>nomatch z))];exact ec
end
end L2
namespace L2
open PySem PySem.Spec PyProof.Rows
section
variable {X:Cx} {K:PySem.W.Frag}
def acd (K:PySem.W.Frag):V->V->Hp->VK->Prop:=fun x y H Q=>∃p xs i v,x = .ref p/\y = .int i/\bL K H p xs/\0<=i/\xs[i.toNat]? = some v/\Q v H
theorem Kr (h:X.K=K):aee X (acd K):=by
 subst h;intro pins s σ H o i ov iv Q I ro ri h;obtain ⟨p,xs,k,v,rfl,rfl,hq,k0,he,q⟩:=h;cases ro;obtain ⟨t,rfl⟩:=ri;obtain ⟨its,r,pl,hz⟩:=I.list hq;obtain ⟨w,ew,rw'⟩:=r.get he;have hl:=r.length;have hn:=yF;have:k.toNat<xs.length:=(List.getElem?_eq_some_iff.mp he).1;exact getItem_listL pl.isList k0 (by omega) ew ⟨v,H,I,rw',q⟩
end
end L2
namespace L2
open PySem
theorem Jp {K:PySem.W.Frag} {T:String} {r:V->List V->Hp->VK->Prop} {to:TE} {t:TA} {D:Ends} {σ:St} {H:Hp} (P:V->Hp->Prop) (h1:∀Q':VK,(∀v H',P v H'->Q' v H')->to σ H Q') (h2:∀v H',P v H'->tyV K T v H'/\t σ H' fun xs H2=>r v xs H2 fun _ H3=>D.nx σ H3):XS (tBM K T r to t) D σ H:=h1 _ h2
end L2
set_option Elab.async false
set_option linter.all false
set_option maxRecDepth 100000
set_option maxHeartbeats 4000000
namespace L2
open PySem PySem.Spec PyProof.Rows
section
variable {X:Cx} {K:PySem.W.Frag}
end
def cat:List Str->Str
 | []=>Str.empty
 | x::xs=>x++cat xs
end L2
set_option Elab.async false
set_option linter.all false
set_option maxRecDepth 100000
set_option maxHeartbeats 4000000
namespace L2
open PySem PySem.Spec PyProof.Rows
section
variable {X:Cx} {body suite:List Stmt} {b0:Stmt} {cn:Str} {Dc:Addr} {tb:(St->XK)->TS} {th:TS} {cp hpos pos:Pos}
end
end L2
namespace L2
open PySem PySem.Spec PyProof.Rows
section
variable {X:Cx}
def aem (i j:Int):Prop:=0<j/\j<1329227995784915872903807060280344576
theorem Ik:rB X (binaryOp .FloorDiv) (rI aem fun i j=> .int (i / j)):=opI fun i j _ _ _ _ _ hc q=>by
 have h1:(0:Int)<j:=hc.1;have h2:j<1329227995784915872903807060280344576:=hc.2;refine floordiv_int (by omega) (by rw [Int.fdiv_eq_ediv_of_nonneg i (by omega)];exact q) (.inl ?_);unfold Builtin.divisionGoesByPylong;have hn:j.natAbs<2 ^ 120:=by omega
 have hl:j.natAbs.log2<120:=(Nat.log2_lt (by omega)).mpr hn
 have hz:(j==0)=false:=by
  rw [beq_eq_false_iff_ne];omega
 simp only [hz,Bool.false_eq_true,if_false];have:¬j.natAbs.log2 / 30+1>300:=by omega
 rw [decide_eq_false this,Bool.false_and]
end
end L2
set_option Elab.async false
set_option linter.all false
set_option maxRecDepth 100000
set_option maxHeartbeats 4000000
namespace L2
open PySem PySem.Spec PyProof.Rows
section
variable {X:Cx} {pins:List (Addr×Obj)} {σ:St} {H:Hp} {s:Shared} {d:Addr} {u u':HO}
end
section
variable {X:Cx} {tg:Expr}
end
section
variable {d D:Addr} {o:Obj} {kvs:List (Key×V)} {tc:TT} {te:TE} {Q:VK} {rest:St} {H1:Hp}
end
end L2
set_option Elab.async false
set_option linter.all false
set_option maxRecDepth 100000
set_option maxHeartbeats 4000000
namespace L2
open PySem PySem.Spec PyProof.Rows
section
variable {X:Cx} {tg:Expr}
end
end L2
set_option Elab.async false
set_option linter.all false
set_option maxRecDepth 100000
set_option maxHeartbeats 4000000
namespace L2
open PySem PySem.Spec PyProof.Rows
section
variable {X:Cx} {tg:Expr}
end
end L2
set_option Elab.async false
set_option linter.all false
set_option maxRecDepth 100000
set_option maxHeartbeats 4000000
namespace L2
open PySem PySem.Spec PyProof.Rows
def ahj (K:PySem.W.Frag) (neg:Bool):R2:=fun x y H Q=>∃(p:Addr) (vs:List V) (d:PyData) (ds:List PyData),y = .ref p/\bL K H p vs/\aR H vs ds/\Dat H x d/\SeqAt.shaped d=true/\(∀e∈ds,SeqAt.shaped e=true)/\Q (.bl (if neg then !(ds.any fun e=>PyData.eqv e d) else ds.any fun e=>PyData.eqv e d)) H
section
variable {X:Cx}
theorem Lz {H:Hp} {pins:List (Addr×Obj)} {σ:St} {s:Shared} (I:Inv X pins σ H s):∀{vs:List V} {us:List Value} {ds:List PyData},Vals vs us->aR H vs ds -> ∀u∈us,∃e∈ds,∃as,Reads s.heap u e as
 | [],_,_,.nil,_=>fun u hu=>by cases hu
 | v::vs,_,d::ds,.cons r rs,h=>fun u hu=>by
   simp only [aR] at h;rcases List.mem_cons.mp hu with rfl|hu
   ·obtain ⟨as,ra⟩:=I.reads d h.1 r
    exact ⟨d,by simp,as,ra⟩
   ·obtain ⟨e,he,q⟩:=Lz I rs h.2 u hu
    exact ⟨e,by simp [he],q⟩
 | _::_,_,[],.cons _ _,h=>by simp only [aR] at h
theorem Ly {H:Hp} {pins:List (Addr×Obj)} {σ:St} {s:Shared} (I:Inv X pins σ H s):∀{vs:List V} {us:List Value} {ds:List PyData},Vals vs us->aR H vs ds -> ∀e∈ds,∃u∈us,∃as,Reads s.heap u e as
 | [],_,[],.nil,_=>fun e he=>by cases he
 | [],_,_::_,.nil,h=>by simp only [aR] at h
 | v::vs,_,d::ds,.cons r rs,h=>fun e he=>by
   simp only [aR] at h;rcases List.mem_cons.mp he with rfl|he
   ·obtain ⟨as,ra⟩:=I.reads e h.1 r
    exact ⟨_,by simp,as,ra⟩
   ·obtain ⟨u,hu,q⟩:=Ly I rs h.2 e he
    exact ⟨u,by simp [hu],q⟩
 | _::_,_,[],.cons _ _,h=>by simp only [aR] at h
open Classical in
noncomputable def Vd (s:Shared) (ds:List PyData) (d:PyData) (u:Value):Bool:=decide (∃e∈ds,(∃as,Reads s.heap u e as)/\PyData.eqv e d=true)
open Classical in
theorem zP {s:Shared} {ds:List PyData} {d:PyData} {u:Value}:Vd s ds d u=true ↔ ∃e∈ds,(∃as,Reads s.heap u e as)/\PyData.eqv e d=true:=by unfold Vd;exact decide_eq_true_iff
theorem aak {A:Around} {s:Shared} {ds:List PyData} {d:PyData} {u v:Value} {bs:List Addr} (hd:SeqAt.shaped d=true) (hds:∀e∈ds,SeqAt.shaped e=true) (hu:A.units+64<cLine) (rv:Reads s.heap v d bs) (h:∃e∈ds,∃as,Reads s.heap u e as):SeqAt.EqAt A s u v (Vd s ds d u):=by
 by_cases q:∃e∈ds,(∃as,Reads s.heap u e as)/\PyData.eqv e d=true
 ·have:Vd s ds d u=true:=zP.mpr q
  rw [this];obtain ⟨e,he,⟨as,ra⟩,ee⟩:=q;have:=SeqAt.eqAt_reads e d A s u v as bs ra rv (SeqAt.canLay_of_shaped (hds e he)) (SeqAt.canLay_of_shaped hd) (SeqAt.room_of_shaped (hds e he) hu);rwa [ee] at this
 ·have:Vd s ds d u=false:=by
   cases z:Vd s ds d u with
   | false=>rfl
   | true=>exact absurd (zP.mp z) q
  rw [this];obtain ⟨e,he,as,ra⟩:=h
  have ee:PyData.eqv e d=false:=by
   cases z:PyData.eqv e d with
   | false=>rfl
   | true=>exact absurd ⟨e,he,⟨as,ra⟩,z⟩ q
  have:=SeqAt.eqAt_reads e d A s u v as bs ra rv (SeqAt.canLay_of_shaped (hds e he)) (SeqAt.canLay_of_shaped hd) (SeqAt.room_of_shaped (hds e he) hu);rwa [ee] at this
theorem W0 {H:Hp} {pins:List (Addr×Obj)} {σ:St} {s:Shared} (I:Inv X pins σ H s) {vs:List V} {us:List Value} {ds:List PyData} {d:PyData} (r:Vals vs us) (h:aR H vs ds):us.toArray.any (Vd s ds d)=ds.any fun e=>PyData.eqv e d:=by
 rw [show us.toArray.any (Vd s ds d)=us.any (Vd s ds d) by simp,Bool.eq_iff_iff,List.any_eq_true,List.any_eq_true];constructor
 ·rintro ⟨u,hu,e⟩
  obtain ⟨e,he,_,ee⟩:=zP.mp e;exact ⟨e,he,ee⟩
 ·rintro ⟨e,he,ee⟩
  obtain ⟨u,hu,q⟩:=Ly I r h e he;exact ⟨u,hu,zP.mpr ⟨e,he,q,ee⟩⟩
theorem Wb {K:PySem.W.Frag} (hK:X.K=K) (hu:X.A.in1.units+64<cLine):rB X (compareOp .In) (ahj K false):=by
 subst hK;intro pins s σ H x y v u Q I rx ry h;obtain ⟨p,vs,d,ds,rfl,hq,hds,hd,s1,s2,q⟩:=h;cases ry;obtain ⟨its,r,pl,hz⟩:=I.list hq;obtain ⟨bs,rv⟩:=I.reads d hd rx;refine SeqAt.in_listAt (Vd s ds d) pl.isList (fun w hw=>aak s1 s2 hu rv (Lz I r hds w (by simpa using hw))) ⟨.bl _,H,I,rfl, ?_⟩;rw [W0 I r hds];exact q
end
end L2
set_option Elab.async false
set_option linter.all false
set_option maxRecDepth 100000
set_option maxHeartbeats 4000000
namespace L2
open PySem PySem.Spec PyProof.Rows
section
variable {H H':Hp}
mutual
theorem Dat.same (k:Same H H'):∀(d:PyData) {v:V},Dat H v d->Dat H' v d
 | .none,_,h=>by simp only [Dat] at h ⊢;exact h
 | .bool _,_,h=>by simp only [Dat] at h ⊢;exact h
 | .int _,_,h=>by simp only [Dat] at h ⊢;exact h
 | .str _,_,h=>by simp only [Dat] at h ⊢;exact h
 | .list ds,_,h=>by simp only [Dat] at h ⊢;obtain ⟨a,vs,e,q,r⟩:=h;exact ⟨a,vs,e,k _ _ q,aR.same k ds r⟩
 | .tuple ds,_,h=>by simp only [Dat] at h ⊢;obtain ⟨a,vs,e,q,r⟩:=h;exact ⟨a,vs,e,k _ _ q,aR.same k ds r⟩
 | .dict _,_,h=>by simp only [Dat] at h
theorem aR.same (k:Same H H'):∀(ds:List PyData) {vs:List V},aR H vs ds->aR H' vs ds
 | [],[],_=>by simp only [aR]
 | d::ds,v::vs,h=>by simp only [aR] at h ⊢;exact ⟨Dat.same k d h.1,aR.same k ds h.2⟩
 | _::_,[],h=>by simp only [aR] at h
 | [],_::_,h=>by simp only [aR] at h
end
end
section
variable {X:Cx} {K:PySem.W.Frag}
theorem sE (K:PySem.W.Frag):PySem.W.kitOne K (.type "tuple") (.type "list")=some false:=by kernel_rfl
theorem nP (K:PySem.W.Frag):PySem.W.kitOne K (.type "list") (.type "tuple")=some false:=by kernel_rfl
end
section
variable {K:PySem.W.Frag} {a D:Addr} {xs:List V} {tc:TT} {te:TE} {Q:VK} {rest:St} {H1:Hp}
theorem Gx {f:Nat->Option PyData} (hf:∀i d,f i=some d->Gy d=true):∀l:List Nat,vo (l.filterMap f)=true
 | []=>rfl
 | i::l=>by
   rw [List.filterMap_cons];cases e:f i with
   | none=>exact Gx hf l
   | some d=>simp only [vo,hf i d e,Gx hf l,Bool.and_self]
theorem P0 (f:Nat->Option PyData) (hf:∀i d,f i=some d->Gy d=true) (hD:H1 D=none) (hq:bL K H1 a xs) (hx:xs.length<=100000)
 (hs:∀i x H (G:Hp->Prop) (F:VK),xs[i]? = some x->Same H1 H->(∀H',Same H H'->f i=none->G H')->(∀y d H',Same H H'->f i=some d->Dat H' y d->F y H')->tc (some x::rest) H fun b H3=>if b=true then te (some x::rest) H3 F else G H3)
 (hd:∀H vs,Same H1 H->H D=some (.lst vs)->aR H vs ((List.range xs.length).filterMap f)->Q (.ref D) H):oK (Yy K a) (gO 0) tc te Q D (none::rest) H1:=by
 refine pL (K:=K) (xs:=xs) (fun i σ H=>(∃v,σ=v::rest)/\Same H1 H /\ ∃vs,H D=some (.lst vs)/\aR H vs ((List.range i).filterMap f)) ⟨⟨none,rfl⟩,aJ hD,[],ak,by simp [aR]⟩ (fun i σ H _ ⟨_,sm,_⟩=>sm.sqL _ _ hq) ?_ (fun σ H ⟨_,sm,vs,e,d⟩=>hd H vs sm e d);rintro i x σ H hi ⟨⟨v,rfl⟩,sm,vs,e,d⟩;have hil:i<xs.length:=(List.getElem?_eq_some_iff.mp hi).1;have im:=Gx hf (List.range i);refine hs i x H _ _ hi sm (fun H3 s3 ef=>⟨⟨_,rfl⟩,sm.trans s3,vs,s3 _ _ e, ?_⟩) (fun y dd H4 s4 ef dy=> ?_)
 ·rw [eX,ef]
  simpa using aR.keep s3.tups _ im d
 ·have hl:vs.length<=i:=by rw [d.length];exact vB f i
  have kp:Kp D H4 (upd H4 D (.lst (vs++[y]))):=Kp.set;have tp:=kp.tups (s4 _ _ e);refine ⟨vs,s4 _ _ e, ?_,⟨_,rfl⟩,(sm.trans s4).newly hD,vs++[y],ak, ?_⟩
  ·rw [sizeLine_eq];omega
  ·rw [eX,ef]
   exact Es (aR.keep (fun a xs h=>tp _ _ (s4.tups _ _ h)) _ im d) (Dat.keep tp _ (hf i dd ef) dy)
end
section
variable {X:Cx}
def Zu:R2:=fun x y H Q=>∃a b xs ys,x = .ref a/\y = .ref b/\H a=some (.tup xs)/\H b=some (.tup ys)/\xs.length+ys.length<=sizeLine /\ ∀p H',H' p=some (.tup (xs++ys))->Same H H'->Q (.ref p) H'
theorem R0:rB X (binaryOp .Add) Zu:=by
 intro pins s σ H x y v u Q I rx ry h;obtain ⟨a,b,xs,ys,rfl,rfl,ha,hb,hz,q⟩:=h;cases rx;cases ry;obtain ⟨its,r1,p1,_⟩:=I.tuple (cQ.of ha);obtain ⟨its2,r2,p2,_⟩:=I.tuple (cQ.of hb)
 by_cases hv:its=[]
 ·obtain ⟨⟨cls,dd,data,sl⟩,ho,hc,n,hd⟩:=id p1
  obtain ⟨⟨cls2,dd2,data2,sl2⟩,ho2,hc2,n2,hd2⟩:=id p2;simp only at hc hd hc2 hd2;subst hc hd hc2 hd2
  exact concat_meets ⟨_,ho,rfl⟩ ⟨_,ho2,rfl⟩ noFill_tuple_add seq_tuple_add PySem.F.slot_tuple_add PySem.F.entry_tuple_add (PySem.F.args_tuple_add_2 _ _)
   (tuple_addW0 a b its.toArray its2.toArray n n2 dd dd2 sl sl2 (by simp [hv])) ⟨ho,ho2,⟨.ref b,H,I,rfl,q b H (by rw [hb,r1.Mx.mp hv];rfl) (Same.refl _)⟩⟩
 refine HT.Xh p1 p2 hv (fun z=>⟨.ref a,H,I,rfl,q a H (by rw [ha,r2.Mx.mp z,List.append_nil]) (Same.refl _)⟩) (fun z=> ?_) (by rw [←r1.length,←r2.length];exact hz);have fr:=I.hok.fresh (Nat.le_refl s.heap.objs.size);refine ⟨.ref s.heap.objs.size,_,I.laid (t':=s.toks) (o:= .tup (xs++ys)) (fun b ob q=>Heap.get?_push_of_some _ q) (Nat.le_refl _) ?_,rfl,q _ _ ak (aJ fr)⟩;exact ⟨by rw [List.length_append];exact hz,_,r1.append r2,IsTup.new _ _⟩
end
end L2
set_option Elab.async false
set_option linter.all false
set_option maxRecDepth 100000
set_option maxHeartbeats 4000000
namespace L2
open PySem PySem.Spec PyProof.Rows
theorem dZ.YJ {k:Nat} {A:Around} (r:dZ k A):A.in1.units+64<cLine:=by have:=r.un;show A.units+1+64<_;omega
section
variable {X:Cx} {K:PySem.W.Frag} {e st:Expr} {te tk:TE} {pos p2:Pos}
end
end L2
set_option Elab.async false
set_option linter.all false
set_option maxRecDepth 100000
set_option maxHeartbeats 4000000
namespace L2
open PySem PySem.Spec PyProof.Rows
section
variable {H:Hp}
mutual
theorem Dat.fn:∀(d e:PyData) {v:V},Dat H v d->Dat H v e->d=e
 | .none,e,v,h,g=>by cases e<;>simp only [Dat] at h g<;>first |rfl|(subst h;first |(obtain ⟨_,_,z,_⟩:=g;cases z;done)|(cases g;done))
 | .bool _,e,v,h,g=>by cases e<;>simp only [Dat] at h g<;>first |(subst h;first |(injection g with g;rw [g];done)|(obtain ⟨_,_,z,_⟩:=g;cases z;done)|(cases g;done))
 | .int _,e,v,h,g=>by cases e<;>simp only [Dat] at h g<;>first |(subst h;first |(injection g with g;rw [g];done)|(obtain ⟨_,_,z,_⟩:=g;cases z;done)|(cases g;done))
 | .str _,e,v,h,g=>by cases e<;>simp only [Dat] at h g<;>first |(subst h;first |(injection g with g;rw [g];done)|(obtain ⟨_,_,z,_⟩:=g;cases z;done)|(cases g;done))
 | .list ds,.list es,v,h,g=>by
   simp only [Dat] at h g;obtain ⟨a,vs,rfl,ha,da⟩:=h;obtain ⟨b,ws,e,hb,db⟩:=g;injection e with e
   subst e;rw [ha] at hb;injection hb with hb
   injection hb with hb
   subst hb;rw [aR.fn ds es da db]
 | .tuple ds,.tuple es,v,h,g=>by
   simp only [Dat] at h g;obtain ⟨a,vs,rfl,ha,da⟩:=h;obtain ⟨b,ws,e,hb,db⟩:=g;injection e with e
   subst e;rw [ha] at hb;injection hb with hb
   injection hb with hb
   subst hb;rw [aR.fn ds es da db]
 | .list ds,.tuple es,v,h,g=>by
   simp only [Dat] at h g;obtain ⟨a,vs,rfl,ha,da⟩:=h;obtain ⟨b,ws,e,hb,db⟩:=g;injection e with e
   subst e;rw [ha] at hb;injection hb with hb
   cases hb
 | .tuple ds,.list es,v,h,g=>by
   simp only [Dat] at h g;obtain ⟨a,vs,rfl,ha,da⟩:=h;obtain ⟨b,ws,e,hb,db⟩:=g;injection e with e
   subst e;rw [ha] at hb;injection hb with hb
   cases hb
 | .list ds,.none,v,h,g=>by simp only [Dat] at h g;obtain ⟨a,vs,rfl,_⟩:=h;cases g
 | .list ds,.bool _,v,h,g=>by simp only [Dat] at h g;obtain ⟨a,vs,rfl,_⟩:=h;cases g
 | .list ds,.int _,v,h,g=>by simp only [Dat] at h g;obtain ⟨a,vs,rfl,_⟩:=h;cases g
 | .list ds,.str _,v,h,g=>by simp only [Dat] at h g;obtain ⟨a,vs,rfl,_⟩:=h;cases g
 | .tuple ds,.none,v,h,g=>by simp only [Dat] at h g;obtain ⟨a,vs,rfl,_⟩:=h;cases g
 | .tuple ds,.bool _,v,h,g=>by simp only [Dat] at h g;obtain ⟨a,vs,rfl,_⟩:=h;cases g
 | .tuple ds,.int _,v,h,g=>by simp only [Dat] at h g;obtain ⟨a,vs,rfl,_⟩:=h;cases g
 | .tuple ds,.str _,v,h,g=>by simp only [Dat] at h g;obtain ⟨a,vs,rfl,_⟩:=h;cases g
 | .list ds,.dict _,v,h,g=>by simp only [Dat] at g
 | .tuple ds,.dict _,v,h,g=>by simp only [Dat] at g
 | .dict _,_,v,h,g=>by simp only [Dat] at h
theorem aR.fn:∀(ds es:List PyData) {vs:List V},aR H vs ds->aR H vs es->ds=es
 | [],[],_,_,_=>rfl
 | d::ds,e::es,v::vs,h,g=>by
   simp only [aR] at h g;rw [Dat.fn d e h.1 g.1,aR.fn ds es h.2 g.2]
 | [],_::_,[],_,g=>by simp only [aR] at g
 | [],_::_,_::_,h,_=>by simp only [aR] at h
 | _::_,[],[],h,_=>by simp only [aR] at h
 | _::_,[],_::_,_,g=>by simp only [aR] at g
 | _::_,_::_,[],h,_=>by simp only [aR] at h
end
end
section
variable {X:Cx}
end
end L2
set_option Elab.async false
set_option linter.all false
set_option maxRecDepth 100000
set_option maxHeartbeats 4000000
namespace L2
open PySem PySem.Spec PyProof.Rows
section
variable {X:Cx} {K:PySem.W.Frag} {e e1 e2 l:Expr} {te t1 t2 tl:TE} {pos:Pos} {tg:Expr}
end
section
variable {X:Cx}
end
end L2
set_option Elab.async false
set_option linter.all false
set_option maxRecDepth 100000
set_option maxHeartbeats 4000000
namespace L2
open PySem PySem.Spec PyProof.Rows PySem.Builtin PySem.Builtin.Str
section
variable {X:Cx} {K:PySem.W.Frag}
def Its (x:Str):It:=⟨fun i _=>i<x.cps.size,fun i H v H'=>H'=H /\ ∃c,x.cps[i]? = some c/\v = .str ⟨#[c]⟩,fun i _=>x.cps.size<=i⟩
theorem QW {P:Program} {w:World} {K:PySem.W.Frag} {tg:Expr} (x:Str) (t:Tok) (it:Addr):Turn P w K tg (Its x) [it] it (fun i h=>i<=x.cps.size/\(h.IsStrIter it "str_ascii_iterator" x t i\/h.IsStrIter it "str_iterator" x t i)) where
 mem:=by simp
 obj:=fun i h st b hb=>by
  have e:b=it:=by simpa using hb
  subst e;rcases st.2 with ⟨o,e,c,d⟩|⟨o,e,c,d⟩
  ·exact ⟨o,e,fun v z=>by rw [d] at z;cases z⟩
  ·exact ⟨o,e,fun v z=>by rw [d] at z;cases z⟩
 keep:=fun i h h' st k=>⟨st.1,st.2.imp (fun ⟨o,e,r⟩=>⟨o,k it (by simp) o e,r⟩) (fun ⟨o,e,r⟩=>⟨o,k it (by simp) o e,r⟩)⟩
 item:=by
  intro X hP hw hK hc i pins s σ H E I hf st hg;subst hP hw hK;have hi:i<x.cps.size:=hg;have hx:x.cps[i]? = some x.cps[i]:=by simp [hi]
  obtain ⟨f0,f1,f2,f3,f4,f5⟩:=hf it (by simp);rcases st.2 with st|st
  ·refine wpAny_pyNext_ascii_item st hx fun h' st' sb=> ?_
   have I1:Inv X pins σ H {s with heap:=h',toks:=s.toks+1}:=I.turned (t':=s.toks+1) (fun b o hb e=>(sb.2 b hb).trans e) f0 f1 f3 f4 f5;obtain ⟨o,e,c,d⟩:=id st';exact ⟨_,rfl,Jg (s:={s with heap:=h',toks:=s.toks+1}) e c d (by decide) ⟨.str ⟨#[x.cps[i]]⟩,H,I1,⟨_,rfl⟩,⟨rfl,_,hx,rfl⟩,⟨hi,.inl st'⟩,fun b hb=>(hf b hb).1⟩⟩
  ·refine wpAny_pyNext_wide_item st hx fun h' st' sb=> ?_
   have I1:Inv X pins σ H {s with heap:=h',toks:=s.toks+1}:=I.turned (t':=s.toks+1) (fun b o hb e=>(sb.2 b hb).trans e) f0 f1 f3 f4 f5;obtain ⟨o,e,c,d⟩:=id st';exact ⟨_,rfl,Jg (s:={s with heap:=h',toks:=s.toks+1}) e c d (by decide) ⟨.str ⟨#[x.cps[i]]⟩,H,I1,⟨_,rfl⟩,⟨rfl,_,hx,rfl⟩,⟨hi,.inr st'⟩,fun b hb=>(hf b hb).1⟩⟩
 done:=by
  intro X hP hw hK hc i pins s σ H E I hf st hg;subst hP hw hK;have hx:x.cps[i]? = none:=by simpa using (show x.cps.size<=i from hg)
  obtain ⟨f0,f1,f2,f3,f4,f5⟩:=hf it (by simp);rcases st.2 with st|st
  ·exact wpAny_pyNext_ascii_end (I.ok.hd hc) st hx fun h' eb=>⟨rfl,I.turned (t':=s.toks) (fun b o hb e=>eb b o hb e) f0 f1 f3 f4 f5⟩
  ·exact wpAny_pyNext_wide_end (I.ok.hd hc) st hx fun h' eb=>⟨rfl,I.turned (t':=s.toks) (fun b o hb e=>eb b o hb e) f0 f1 f3 f4 f5⟩
 self:=fun _ _ _ _ _ st h=>st.2.elim (fun st=>wpAny_pyIter_striter_ascii st h) (fun st=>wpAny_pyIter_striter_wide st h)
def akK (tl:TE):TI:=fun σ H R=>tl σ H fun x H1=>∃a,x = .str a/\R (Its a) H1
theorem ZF {tg l:Expr} {tl:TE} (hl:PE X l tl):PI X tg l (akK tl):=by
 intro pins s σ H R I h;refine d9 (hl pins s σ H _ I h) fun v s1 ⟨x,H1,I1,r1,q1⟩=> ?_;obtain ⟨a,rfl,q⟩:=q1;obtain ⟨t,rfl⟩:=r1
 have fin:∀o,(s1.heap.push o).IsStrIter s1.heap.objs.size "str_ascii_iterator" a t 0\/(s1.heap.push o).IsStrIter s1.heap.objs.size "str_iterator" a t 0->PIE X pins σ tg R (.ref s1.heap.objs.size) {s1 with heap:=s1.heap.push o}:=by
  intro o st;refine ⟨s1.heap.objs.size,[s1.heap.objs.size],_,_,H1,rfl,I1.kept (t':=s1.toks) fun b o e=>Heap.get?_push_of_some _ e,QW a t _,⟨Nat.zero_le _,st⟩,fun b hb=> ?_,q⟩;have e:b=s1.heap.objs.size:=by simpa using hb
  subst e;exact I1.Ca (Nat.le_refl _) (I1.hok.fresh (Nat.le_refl _))
 cases ha:a.cps.all (· < 128)
 ·exact wpAny_pyIter_wide ha (fin _ (.inr ⟨_,Heap.get?_push_size _ rfl,rfl,rfl⟩))
 ·exact wpAny_pyIter_ascii ha (fin _ (.inl ⟨_,Heap.get?_push_size _ rfl,rfl,rfl⟩))
end
section
variable {K:PySem.W.Frag} {D:Addr} {tc:TT} {te:TE} {Q:VK} {rest:St} {H1:Hp}
theorem PX {x:Str} {g:TG} {σ0:St} (Pv:Nat->St->Hp->Prop) (h0:Pv 0 σ0 (upd H1 D (.lst [])))
 (hs:∀i c σ H,x.cps[i]? = some c->Pv i σ H->g (.str ⟨#[c]⟩) σ H fun σ2 H2=>tc σ2 H2 fun b H3=>
   if b=true then te σ2 H3 fun y H4=>∃acc,H4 D=some (.lst acc)/\acc.length<sizeLine/\Pv (i+1) σ2 (upd H4 D (.lst (acc++[y]))) else Pv (i+1) σ2 H3)
 (hd:∀σ H,Pv x.cps.size σ H->Q (.ref D) H):oK (Its x) g tc te Q D σ0 H1:=by
 refine ⟨fun i m σ H=>m=x.cps.size - i/\i<=x.cps.size/\Pv i σ H,⟨x.cps.size,by simp,Nat.zero_le _,h0⟩, ?_⟩;rintro i m σ H ⟨rfl,hi,p⟩
 by_cases hlt:i<x.cps.size
 ·refine .inr ⟨hlt,Pv (i+1),fun σ' H' p'=>⟨x.cps.size - (i+1),by omega,rfl,hlt,p'⟩,fun y H' e=> ?_⟩
  obtain ⟨e,c,hc,rfl⟩:=e;subst e;exact hs i c σ _ hc p
 ·have e:i=x.cps.size:=by omega
  subst e;exact .inl ⟨Nat.le_refl _,hd σ H p⟩
theorem PN {x:Str} (f:Nat->Option V) (hD:H1 D=none) (hx:x.cps.size<=100000)
 (hs:∀i c H (G:Hp->Prop) (F:VK),x.cps[i]? = some c->Same H1 H->(∀H',Same H H'->f i=none->G H')->(∀y H',Same H H'->f i=some y->F y H')->tc (some (.str ⟨#[c]⟩)::rest) H fun b H3=>if b=true then te (some (.str ⟨#[c]⟩)::rest) H3 F else G H3)
 (hd:∀H,Same H1 H->H D=some (.lst ((List.range x.cps.size).filterMap f))->Q (.ref D) H):oK (Its x) (gO 0) tc te Q D (none::rest) H1:=by
 refine PX (fun i σ H=>(∃v,σ=v::rest)/\Same H1 H/\H D=some (.lst ((List.range i).filterMap f))) ⟨⟨none,rfl⟩,aJ hD,ak⟩ ?_ (fun σ H ⟨_,sm,e⟩=>hd H sm e);rintro i c σ H hi ⟨⟨v,rfl⟩,sm,e⟩;have hil:i<x.cps.size:=(Array.getElem?_eq_some_iff.mp hi).1;refine hs i c H _ _ hi sm (fun H3 s3 ef=>⟨⟨_,rfl⟩,sm.trans s3,by rw [s3 _ _ e,eX,ef];simp⟩) (fun y H4 s4 ef=> ?_);refine ⟨_,s4 _ _ e, ?_,⟨_,rfl⟩,(sm.trans s4).newly hD, ?_⟩
 ·have:=vB f i
  rw [sizeLine_eq];omega
 ·rw [ak,eX,ef];rfl
end
section
variable {X:Cx}
end
end L2
set_option Elab.async false
set_option linter.all false
set_option maxRecDepth 100000
set_option maxHeartbeats 4000000
namespace L2
open PySem PySem.Spec PyProof.Rows PySem.Builtin PySem.Builtin.Str
end L2
set_option Elab.async false
set_option linter.all false
set_option maxRecDepth 100000
set_option maxHeartbeats 4000000
namespace L2
open PySem PySem.Spec PyProof.Rows
section
variable (P:Program) (w:World) (K:PySem.W.Frag) (mg:Str->Option Value) (base:Heap)
def MethAt (k:Nat) (C:Addr) (m:Str) (ps:List Str) (sp:Sp):Prop:=∃f fd,bV P w K mg base j4 k f fd ps sp/\Meth K C m f/\Binds K fd ps []
def jU (k:Nat) (C:Addr) (m:Str) (ps:List Str) (sp:Sp):Prop:=∃f fd,bV P w K mg base (vH P w) k f fd ps sp/\Meth K C m f/\Binds K fd ps []
def sW (k:Nat) (C:Addr) (x:Str) (ps:List Str) (rE:List V) (sp:Sp):Prop:=∃f fd ds,bV P w K mg base j4 k f fd ps sp/\Mk K C f/\mg x=some (.ref C)/\Binds K fd ps ds/\Vals rE ds
def oJ (k:Nat) (C:Addr) (x:Str) (ps:List Str) (rE:List V) (sp:Sp):Prop:=∃f fd ds,bV P w K mg base (vH P w) k f fd ps sp/\Mk K C f/\mg x=some (.ref C)/\Binds K fd ps ds/\Vals rE ds
def Xw (k:Nat) (C:Addr) (x:Str) (ps:List Str) (kn:Str) (sp:Sp):Prop:=∃f fd,bV P w K mg base (vH P w) k f fd ps sp/\Mk K C f/\mg x=some (.ref C) /\
 ∀(s:Shared) (us:List Value) (z:Value),K.In s.heap->(us++[z]).length=ps.length->BindsTo s fd ⟨us,[(kn,z)]⟩ (ps.zip (us++[z]))
end
section
variable {P:Program} {w:World} {K:PySem.W.Frag} {mg:Str->Option Value} {base:Heap} {k:Nat} {C:Addr} {m x:Str} {ps:List Str} {sp:Sp} {rE:List V}
theorem bV.calm {f:Addr} {fd:FuncData} (G:bV P w K mg base (vH P w) k f fd ps sp):bV P w K mg base j4 k f fd ps (fun vs H Q _=>sp vs H Q fun _ _ _=>False):=by
 refine ⟨fun vs H Q E q=>G.len vs H Q _ q,fun A outer s H args us vs Q E hr he hbd hv hs=> ?_⟩;refine codeAny_mono (G.run A outer s H args us vs Q (fun _ _ _=>False) hr he hbd hv hs) fun res s' hq=> ?_
 match res,hq with
 | .error ev,hq=>
   obtain ⟨e,cls,dx,H',_,_,_,_,_,_,_,_,z⟩:=hq;exact z.elim
 | .ok (.ret u),hq=>exact hq
theorem jU.calm (F:jU P w K mg base k C m ps sp):MethAt P w K mg base k C m ps (fun vs H Q _=>sp vs H Q fun _ _ _=>False):=by
 obtain ⟨f,fd,G,r⟩:=F;exact ⟨f,fd,G.calm,r⟩
theorem oJ.calm (F:oJ P w K mg base k C x ps rE sp):sW P w K mg base k C x ps rE (fun vs H Q _=>sp vs H Q fun _ _ _=>False):=by
 obtain ⟨f,fd,ds,G,r⟩:=F;exact ⟨f,fd,ds,G.calm,r⟩
end
section
variable {X:Cx} {k:Nat} {C:Addr} {x m:Str} {ps:List Str} {sp:Sp} {rE:List V} {e o:Expr} {es:List Expr} {ta:TE} {t:TA} {p pos apos:Pos} {E:St->XK}
theorem dX {pl:Sem Bool} (M:MethAt X.prog X.w X.K X.mg X.base k C m ps sp) (c:Cls X.K C) (hr:dZ k X.A) (he:PE X o ta) (ha:PA X (e::es) t)
 (hst:starEach (e::es) X.env=(false,eval e X.env)::starEach es X.env:=by rfl) (hpl:(backTo pos (starEach es X.env)).any (·.1)=false:=by rfl)
 (ht:eval (.Call (.Attribute o m apos) (e::es) [] pos) X.env=(do
   let ov ←eval o X.env
   standAt apos.atName
   let (f,first) ←holding [ov] (getMethod ov m pl)
   callWith pos f first (backTo pos (starEach (e::es) X.env)) (backToKw pos (keywordEach [] X.env))):=by rfl):
 PE X (.Call (.Attribute o m apos) (e::es) [] pos) (LQ C m sp [] E0 ta t):=by
 obtain ⟨f,fd,G,hm,hb⟩:=M;exact V7 he c hm G hr hb .nil Mq ha hst hpl ht
theorem fX {pl:Sem Bool} (M:MethAt X.prog X.w X.K X.mg X.base k C m ps sp) (c:Cls X.K C) (hr:dZ k X.A) (he:PE X o ta)
 (ht:eval (.Call (.Attribute o m apos) [] [] pos) X.env=(do
   let ov ←eval o X.env
   standAt apos.atName
   let (f,first) ←holding [ov] (getMethod ov m pl)
   callWith pos f first (backTo pos (starEach [] X.env)) (backToKw pos (keywordEach [] X.env))):=by rfl):
 PE X (.Call (.Attribute o m apos) [] [] pos) (LQ C m sp [] E0 ta Vs):=by
 obtain ⟨f,fd,G,hm,hb⟩:=M;exact RG he c hm G hr hb .nil Mq ht
def Y7 (C:Addr) (m:Str) (sp:Sp) (E:St->XK) (ta:TE) (t:TA):TE:=fun σ H Q=>ta σ H fun x H1=>∃a dx fs,x = .ref a/\H1 a=some (.ins C dx fs)/\fs.lookup m=none/\t σ H1 fun vs H2=>sp (x::vs) H2 Q (E σ)
theorem VD {pins:List (Addr×Obj)} {σ:St} {H:Hp} {s:Shared} {Q:VK} {us:List Value} {vs:List V} {f:Addr} {fd:FuncData} (G:bV X.prog X.w X.K X.mg X.base (vH X.prog X.w) k f fd ps sp) (hx:X.ex=[]) (R:Rz X E) (hr:dZ k X.A) (hb:Binds X.K fd ps [])
 (I:Inv X pins σ H s) (r:Vals vs us) (q:sp vs H Q (E σ)):wpAny (model X.prog X.w) X.A (call (.ref f) us) (EP X pins σ Q) X.xe s:=by
 have hlen:us.length=ps.length:=by rw [←r.length];exact G.len _ _ _ _ q
 have hbd:=hb s us I.qK (by rw [List.append_nil];exact hlen);rw [List.append_nil] at hbd;refine wpAny_call (codeAny_mono (G.run X.A X.stack s H ⟨us,[]⟩ us vs Q (E σ) hr I.env0 hbd r q) fun res s' hq=> ?_)
 match res,hq with
 | .error ev,hq=>exact zO hx R I hq
 | .ok (.ret u),hq=>exact I.after hq
theorem wk {pl:Sem Bool} (M:jU X.prog X.w X.K X.mg X.base k C m ps sp) (c:Cls X.K C) (hx:X.ex=[]) (R:Rz X E) (hr:dZ k X.A) (he:PE X o ta) (ha:PA X (e::es) t)
 (hst:starEach (e::es) X.env=(false,eval e X.env)::starEach es X.env:=by rfl) (hpl:(backTo pos (starEach es X.env)).any (·.1)=false:=by rfl)
 (ht:eval (.Call (.Attribute o m apos) (e::es) [] pos) X.env=(do
   let ov ←eval o X.env
   standAt apos.atName
   let (f,first) ←holding [ov] (getMethod ov m pl)
   callWith pos f first (backTo pos (starEach (e::es) X.env)) (backToKw pos (keywordEach [] X.env))):=by rfl):
 PE X (.Call (.Attribute o m apos) (e::es) [] pos) (Y7 C m sp E ta t):=by
 obtain ⟨f,fd,G,hm,hb⟩:=M;intro pins s σ H Q I h;refine PySem.W.methodCall_KW (pl:=pl) (d9 (he pins s σ H _ I h) fun u s1 ⟨x,H1,I1,rx,a,dx,fs,ex,ea,l,q⟩=> ?_) ht;subst ex;obtain rfl:u=Value.ref a:=rx;refine vA I1 ea c hm l ?_;refine PySem.W.callWith_K (first:=[.ref a]) (h₀:=X.base) I.ok.mod.Pb hm.kp (d9 (ha pos pins s1 σ H1 _ I1 q) fun us s2 ⟨vs,H2,I2,r,q2⟩=>⟨I2.qK, ?_⟩) hst hpl;exact VD (us:= .ref a::us) (vs:= .ref a::vs) G hx R hr hb I2 (.cons rfl r) q2
theorem rT (M:sW X.prog X.w X.K X.mg X.base k C x ps rE sp) (hr:dZ (k+1) X.A) (hg:Gl X x) (ha:PA X (e::es) t) (hdb:(x==("__debug__" :Str))=false:=by decide)
 (he:starEach (e::es) X.env=(false,eval e X.env)::starEach es X.env:=by rfl) (hpl:(backTo pos (starEach es X.env)).any (·.1)=false:=by rfl):
 PE X (.Call (.Name x p) (e::es) [] pos) (XQ C sp rE E0 t):=by
 obtain ⟨f,fd,ds,G,mk,hm,hb,hd⟩:=M;exact V8 mk G hr hg hm hb hd Mq ha hdb he hpl
def Y8 (C:Addr) (sp:Sp) (rE:List V) (E:St->XK) (t:TA):TE:=fun σ H Q=>t σ H fun vs H1=>∀x dx,H1 x=none->H1 dx=none->dx≠x ->
 sp (.ref x::(vs++rE)) (upd (upd H1 dx (.own x)) x (.ins C dx [])) (fun v H2=>v = .non/\Q (.ref x) H2) (E σ)
theorem Oc {pins:List (Addr×Obj)} {σ:St} {H:Hp} {s:Shared} {Q:VK} {args:Args} {us:List Value} {vs:List V} {f:Addr} {fd:FuncData} (M:Mk X.K C f) (G:bV X.prog X.w X.K X.mg X.base (vH X.prog X.w) k f fd ps sp) (hx:X.ex=[]) (R:Rz X E) (hr:dZ (k+1) X.A)
 (I:Inv X pins σ H s) (r:Vals vs us) (hb:∀s':Shared,X.K.In s'.heap -> ∀a:Addr,(Value.ref a::us).length=ps.length->BindsTo s' fd ⟨Value.ref a::args.pos,args.kw⟩ (ps.zip (Value.ref a::us)))
 (h:∀x dx,H x=none->H dx=none->dx≠x->sp (.ref x::vs) (upd (upd H dx (.own x)) x (.ins C dx [])) (fun v H2=>v = .non/\Q (.ref x) H2) (E σ)):
 wpAny (model X.prog X.w) X.A (call (.ref C) args.pos args.kw) (EP X pins σ Q) X.xe s:=by
 have hq:=h (s.heap.objs.size+1) s.heap.objs.size (I.hok.fresh (Nat.le_succ _)) (I.hok.fresh (Nat.le_refl _)) (Nat.ne_of_lt (Nat.lt_succ_self _));have I2:=Inv.made (C:=C) I;have r2:Vals (V.ref (s.heap.objs.size+1)::vs) (Value.ref (s.heap.objs.size+1)::us):= .cons rfl r
 have hl:(Value.ref (s.heap.objs.size+1)::us).length=ps.length:=by
  have e:=r2.length;rw [G.len _ _ _ _ hq] at e;exact e.symm
 refine wpAny_call (IK (f:=f) I.qK M.makes M.init (beq_iff_eq.mp M.fn) (codeAny_mono (G.run _ X.stack _ _ ⟨Value.ref (s.heap.objs.size+1)::args.pos,args.kw⟩ (Value.ref (s.heap.objs.size+1)::us) _ _ (E σ) (hr.make C args.pos args.kw)
  (I2.env0.make C args.pos args.kw) (hb _ I2.qK _ hl) r2 hq) fun r s' hq'=> ?_))
 match r,hq' with
 | .error ev,hq'=>exact zO hx R I2 hq'
 | .ok (.ret u),hq'=>
   obtain ⟨v,H',I3,rv,ev,q3⟩:=I2.after hq';subst ev;exact ⟨rv,⟨V.ref (s.heap.objs.size+1),H',I3,rfl,q3⟩⟩
theorem Ij (M:oJ X.prog X.w X.K X.mg X.base k C x ps rE sp) (hx:X.ex=[]) (R:Rz X E) (hr:dZ (k+1) X.A) (hg:Gl X x) (ha:PA X (e::es) t) (hdb:(x==("__debug__" :Str))=false:=by decide)
 (he:starEach (e::es) X.env=(false,eval e X.env)::starEach es X.env:=by rfl) (hpl:(backTo pos (starEach es X.env)).any (·.1)=false:=by rfl):
 PE X (.Call (.Name x p) (e::es) [] pos) (Y8 C sp rE E t):=by
 obtain ⟨f,fd,ds,G,mk,hm,hb,hd⟩:=M;intro pins s σ H Q I h;refine wpAny_Call_Name_kw (oA I hg hm ?_ hdb);refine PySem.W.callWith_K (h₀:=X.base) I.ok.mod.Pb mk.kp (d9 (ha pos pins s σ H _ I h) fun us s1 ⟨vs,H1,I1,r,q⟩=>⟨I1.qK, ?_⟩) he hpl;exact Oc (args:=⟨us,[]⟩) (us:=us++ds) (vs:=vs++rE) mk G hx R hr I1 (r.append hd) (fun s' ki a hl=>hb s' (Value.ref a::us) ki hl) q
end
end L2
namespace L2
open PySem PySem.Spec PyProof.Rows PySem.Builtin PySem.Builtin.Str
section
variable {X:Cx} {K:PySem.W.Frag} {o e value:Expr} {f:Str} {pos pos' tpos:Pos} {ta tv:TE}
theorem bC (hK:X.K=K) (he:PE X e ta) (hb:attributeBase e f X.env (eval e X.env)=eval e X.env):PE X (.Attribute e f pos) (abQ K ta f):=by subst hK;exact ZK he hb
theorem dB (hK:X.K=K) (ha:PE X o ta) (hv:PE X value tv) (hs:swapsWith value (some (.Attribute o f pos')) pos.line X.env=pure false):PS X (.Assign [.Attribute o f pos'] value pos) (abZ K ta tv f):=by subst hK;exact Zy ha hv hs
theorem Bl {op:Operator} {rd:V->V->Hp->VK->Prop} (hK:X.K=K) (ha:PE X o ta) (hv:PE X value tv) (hop:aei X op rd):PS X (.AugAssign (.Attribute o f tpos) op value pos) (Mh K ta tv rd f):=by subst hK;exact Od ha hv hop
def ab':V->List V->Hp->VK->Prop:=fun x vs H Q=>∃(a y:Str) (i:Nat) (r:List Nat),x = .str a/\vs=[.str y]/\occurrences a y 0 a.length 1=i::r/\Q (.int i) H
theorem Eb:MtR X "str.index" ab':=by
 intro pins s σ H x vs v us Q I rx rv h;obtain ⟨a,y,i,r,rfl,rfl,ho,q⟩:=h;obtain ⟨t,rfl⟩:=rx;obtain ⟨u,rfl,ru⟩:=rv.one;obtain ⟨t2,rfl⟩:=ru;exact call_meets PySem.F.slot_str_index (typeIs_str _ _ _) PySem.F.entry_str_index (PySem.F.args_str_index_2 _ _) (gives_str_index a y t t2 i r ho).meets ⟨.int i,H,I.tok _,⟨_,rfl⟩,q⟩
end
structure Xy (K:PySem.W.Frag) (x qual:Str) (st:Stmt) (ds:List Value) (f:Addr) (fd:FuncData):Prop where
 ex:∃(oc:Value) (od:Option Addr) (T:Addr) (kV doc pm:Value) (an:Option Addr) (cdv ct:Value) (osl:Array (Option Value)) (tc:Value) (td:Option Addr) (tn:Nat) (Vj:Array (Option Value)),
  fd=PySem.W.fnOf x qual (aN st) (aK st) (ao st) (.ref T) kV doc pm an cdv ct/\K.lookup f=some ⟨oc,od,.func fd,osl⟩/\PySem.W.codeIn K cdv qual=true/\K.lookup T=some ⟨tc,td,.seq ds.toArray tn,Vj⟩
 kp:PySem.W.keepIn K (.ref f)=true
section
variable {P:Program} {w:World} {K:PySem.W.Frag} {mg:Str->Option Value} {base:Heap}
theorem Xy.Vb {x qual:Str} {st:Stmt} {ds:List Value} {f:Addr} {fd:FuncData} {N ps:List Str} {k:Nat} {sp:Sp} (F:Xy K x qual st ds f fd) (S:bw N ps (ao st)) (len:∀vs H Q E,sp vs H Q E->vs.length=ps.length)
 (hbody:∀(cdv:Value) (A:Around) (outer:List Env) (s:Shared) (H:Hp) (vs:List V) (Q:VK) (E:XK),dZ k (A.deeper (envOfC qual (ao st) s.heap.objs.size f cdv))->sp vs H Q E ->
   Rz (qO (vH P w) P w K mg base N qual (ao st) f cdv A outer s H E) (fun _=>E) ->
   ∃t,HJ (qO (vH P w) P w K mg base N qual (ao st) f cdv A outer s H E) (aK st) t/\t {nx:=fun _ H'=>Q .non H',rt:=Q} (start N vs) H):bV P w K mg base (vH P w) (k+1) f fd ps sp:=by
 obtain ⟨oc,od,T,kV,doc,pm,an,cdv,ct,osl,tc,td,tn,Vj,rfl,lk,hcd,_⟩:=F.ex;exact M5 lk hcd S len fun A outer s H vs Q E hr hsp=>hbody cdv A outer s H vs Q E hr hsp Ib
end
section
variable {X:Cx} {k:Nat} {C:Addr} {x kn:Str} {ps:List Str} {sp:Sp} {e ke:Expr} {es:List Expr} {te:TE} {t:TA} {p pos kpos:Pos} {E:St->XK}
end
end L2
set_option Elab.async false
set_option linter.all false
set_option maxRecDepth 100000
set_option maxHeartbeats 4000000
namespace L2
open PySem PySem.Spec PyProof.Rows
section
variable {prog:Program} {w:World} {A:Around} {E:Value->Shared->Prop} {s:Shared} {it d:Addr} {ep:Nat} {od:Obj} {es:Array DictEntry}
end
end L2
set_option Elab.async false
set_option linter.all false
set_option maxRecDepth 100000
set_option maxHeartbeats 4000000
namespace L2
open PySem PySem.Spec PyProof.Rows
section
variable {X:Cx} {pins:List (Addr×Obj)} {σ:St} {H:Hp} {s:Shared} {d:Addr}
end
section
variable {X:Cx} {tg:Expr}
end
section
variable {d D:Addr} {o:Obj} {kvs:List (List Key×V)} {tc:TT} {te:TE} {Q:VK} {rest:St} {H1:Hp}
end
end L2
set_option Elab.async false
set_option linter.all false
set_option maxRecDepth 100000
set_option maxHeartbeats 4000000
namespace L2
open PySem PySem.Spec PyProof.Rows
section
variable {prog:Program} {w:World} {A:Around} {E:Value->Shared->Prop} {s:Shared}
end
section
variable {X:Cx} {pos:Pos}
end
end L2
set_option Elab.async false
set_option linter.all false
set_option maxRecDepth 100000
set_option maxHeartbeats 4000000
namespace L2
open PySem
abbrev Tg:=Addr->List Nat
def aV (τ:Tg) (x:Addr) (t:List Nat):Tg:=fun y=>if y=x then t else τ y
theorem bJ {τ:Tg} {x:Addr} {t:List Nat}:aV τ x t x=t:=if_pos rfl
theorem aW {τ:Tg} {x y:Addr} {t:List Nat} (h:y≠x):aV τ x t y=τ y:=if_neg h
def pU (τ:Tg) (H:Hp):Prop:=∀x,H x=none->τ x=[]
theorem pU.dom {τ:Tg} {H H':Hp} (u:pU τ H) (d:∀x,H' x=none->H x=none):pU τ H':=fun x e=>u x (d x e)
theorem pU.same {τ:Tg} {H H':Hp} (u:pU τ H) (k:Same H H'):pU τ H':=u.dom fun _ e=>k.free e
theorem pU.claim {τ:Tg} {H H':Hp} {p:Addr} {t:List Nat} (u:pU τ H) (k:Same H H') (hp:∃o,H' p=some o):pU (aV τ p t) H':=fun x e=>by
 have n:x≠p:=fun z=>by
  obtain ⟨o,ho⟩:=hp;rw [z,ho] at e;cases e
 rw [aW n];exact u.same k x e
theorem eY {τ:Tg} {a b:Addr} {s t:List Nat} (ha:τ a=s) (hb:τ b=t) (h:s≠t):a≠b:=fun e=>h (by rw [←ha,←hb,e])
structure rF (i:Nat) (τ:Tg) (H H':Hp):Prop where
 keep:∀x o,H x=some o->(τ x).head?≠some i->H' x=some o
 tup:∀x xs,H x=some (.tup xs)->H' x=some (.tup xs)
 dom:∀x,H' x=none->H x=none
theorem rF.of_same {i:Nat} {τ:Tg} {H H':Hp} (k:Same H H'):rF i τ H H':=⟨fun x o e _=>k _ _ e,fun x xs e=>k _ _ e,fun x e=>k.free e⟩
theorem rF.trans {i:Nat} {τ:Tg} {H H1 H2:Hp} (a:rF i τ H H1) (b:rF i τ H1 H2):rF i τ H H2:=⟨fun x o e n=>b.keep _ _ (a.keep _ _ e n) n,fun x xs e=>b.tup _ _ (a.tup _ _ e),fun x e=>a.dom _ (b.dom _ e)⟩
theorem rF.set {i:Nat} {τ:Tg} {H:Hp} {x:Addr} {o u:HO} (ht:(τ x).head?=some i) (hx:H x=some o) (hn:∀xs,o ≠ .tup xs):rF i τ H (upd H x u):=by
 refine ⟨fun y v e n=> ?_,fun y xs e=> ?_,fun y e=> ?_⟩
 ·have z:y≠x:=fun z=>n (by rw [z];exact ht)
  rw [aD z];exact e
 ·rw [aD (d_ e hx fun z=>hn xs z.symm)];exact e
 ·by_cases z:y=x
  ·rw [z,ak] at e;cases e
  ·rw [aD z] at e;exact e
theorem rF.un {i:Nat} {τ:Tg} {H H':Hp} (a:rF i τ H H') (u:pU τ H):pU τ H':=u.dom a.dom
structure Mv (i:Nat) (τ:Tg) (H:Hp) (τ':Tg) (H':Hp):Prop where
 keep:∀x o,H x=some o->τ x=[0]\/(τ x).head?=some i->H' x=some o/\τ' x=τ x
 tup:∀x xs,H x=some (.tup xs)->H' x=some (.tup xs)
theorem Mv.of_same {i:Nat} {τ:Tg} {H H':Hp} (k:Same H H'):Mv i τ H τ H':=⟨fun x o e _=>⟨k _ _ e,rfl⟩,fun x xs e=>k _ _ e⟩
theorem Mv.tags {i:Nat} {τ τ':Tg} {H H':Hp} (k:Same H H') (t:∀x o,H x=some o->τ' x=τ x):Mv i τ H τ' H':=⟨fun x o e _=>⟨k _ _ e,t x o e⟩,fun x xs e=>k _ _ e⟩
theorem Mv.claim {i:Nat} {τ:Tg} {H H':Hp} {p:Addr} {t:List Nat} (k:Same H H') (hp:H p=none):Mv i τ H (aV τ p t) H':= .tags k fun x o e=>aW (aA e hp)
theorem Mv.o_ {i j:Nat} {τ:Tg} {H H':Hp} (k:rF j τ H H') (h:j≠i) (h0:j≠0):Mv i τ H τ H':=⟨fun x o e t=>⟨k.keep _ _ e (by
 rcases t with t|t
 ·rw [t];intro z;exact h0 (Option.some.inj z).symm
 ·rw [t];intro z;exact h (Option.some.inj z).symm),rfl⟩,k.tup⟩
theorem Mv.aco {i:Nat} {τ:Tg} {H H':Hp} {a:Addr} {o:HO} (k:Kp a H H') (ha:H a=some o) (hn:∀xs,o ≠ .tup xs) (ht:τ a=[]):Mv i τ H τ H':=⟨fun x u e t=>⟨k _ _ e (fun z=>by
 rw [z,ht] at t;rcases t with t|t<;>cases t),rfl⟩,fun x xs e=>k _ _ e (d_ e ha fun z=>hn xs z.symm)⟩
theorem Mv.trans {i:Nat} {τ τ1 τ2:Tg} {H H1 H2:Hp} (a:Mv i τ H τ1 H1) (b:Mv i τ1 H1 τ2 H2):Mv i τ H τ2 H2:=⟨fun x o e t=>by
 obtain ⟨e1,t1⟩:=a.keep x o e t;obtain ⟨e2,t2⟩:=b.keep x o e1 (by rw [t1];exact t);exact ⟨e2,by rw [t2,t1]⟩,fun x xs e=>b.tup _ _ (a.tup _ _ e)⟩
end L2
set_option Elab.async false
set_option linter.all false
set_option maxRecDepth 100000
set_option maxHeartbeats 4000000
namespace Prf
open PySem L2
inductive Yz where
 | num (n:Int)
 | box (b:Nat)
 deriving DecidableEq
inductive Lw where
 | one (x:Yz)
 | two (p:Bool) (x y:Yz)
 deriving DecidableEq
inductive Rw where
 | load (b c:Nat)
 | store (c:Nat) (e:Lw)
 | swap (b c:Nat) (e:Lw)
 | Gr (b:Nat) (e:Lw)
 | say (e:Lw)
 | go (k:Nat)
 | HB (q:Bool) (e f:Lw) (k:Nat)
 deriving DecidableEq
def Qt (b:Nat):Str:=⟨#[97+b]⟩
def XJ:Yz->PyData
 | .num n=> .tuple [.str "number",.int n]
 | .box b=> .tuple [.str "box",.str (Qt b)]
def En:Lw->PyData
 | .one x=>XJ x
 | .two p x y=> .tuple [.str (if p then "plus" else "minus"),XJ x,XJ y]
def DY:Rw->PyData
 | .load b c=> .tuple [.str "load",.str (Qt b),.int c]
 | .store c e=> .tuple [.str "store",.int c,En e]
 | .swap b c e=> .tuple [.str "swap",.str (Qt b),.int c,En e]
 | .Gr b e=> .tuple [.str "let",.str (Qt b),En e]
 | .say e=> .tuple [.str "say",En e]
 | .go k=> .tuple [.str "go",.int k]
 | .HB q e f k=> .tuple [.str "unless",.str (if q then "=" else "<"),En e,En f,.int k]
def YF:Yz->Prop
 | .num n=>0<=n/\n<1000
 | .box b=>b<8
def Cd:Lw->Prop
 | .one x=>YF x
 | .two _ x y=>YF x/\YF y
def ab1 (m:Nat):Rw->Prop
 | .load b c=>b<8/\c<m
 | .store c e=>c<m/\Cd e
 | .swap b c e=>b<8/\c<m/\Cd e
 | .Gr b e=>b<8/\Cd e
 | .say e=>Cd e
 | .go _=>True
 | .HB _ e f _=>Cd e/\Cd f
theorem Tj:∀x:Yz,Gy (XJ x)=true
 | .num _=>rfl
 | .box _=>rfl
theorem BW:∀e:Lw,Gy (En e)=true
 | .one x=>Tj x
 | .two p x y=>by simp only [En,Gy,vo,Tj,Bool.and_self]
theorem Tn:∀r:Rw,Gy (DY r)=true
 | .load _ _=>rfl
 | .store _ e=>by simp only [DY,Gy,vo,BW,Bool.and_self]
 | .swap _ _ e=>by simp only [DY,Gy,vo,BW,Bool.and_self]
 | .Gr _ e=>by simp only [DY,Gy,vo,BW,Bool.and_self]
 | .say e=>by simp only [DY,Gy,vo,BW,Bool.and_self]
 | .go _=>rfl
 | .HB _ e f _=>by simp only [DY,Gy,vo,BW,Bool.and_self]
section
variable {H:Hp} {v:V}
theorem Yv {x:Yz} (h:Dat H v (XJ x)):∃t,v = .ref t/\H t=some (.tup (match x with | .num n=>[.str "number",.int n] | .box b=>[.str "box",.str (Qt b)])):=by
 cases x<;>simp only [XJ,Dat] at h<;>obtain ⟨t,vs,rfl,e,d⟩:=h<;>refine ⟨t,rfl, ?_⟩<;>rw [e] <;>
 ·match vs,d with
  | [a,b],d=>
    simp only [aR,Dat,and_true] at d;obtain ⟨rfl,rfl⟩:=d;rfl
theorem aaQ {p:Bool} {x y:Yz} (h:Dat H v (En (.two p x y))):∃t a b,v = .ref t/\H t=some (.tup [.str (if p then "plus" else "minus"),a,b])/\Dat H a (XJ x)/\Dat H b (XJ y):=by
 simp only [En,Dat] at h;obtain ⟨t,vs,rfl,e,d⟩:=h
 match vs,d with
 | [a,b,c],d=>
   simp only [aR,Dat,and_true] at d;obtain ⟨rfl,d1,d2⟩:=d;exact ⟨t,_,_,rfl,e,d1,d2⟩
def Parts (H:Hp) (vs:List V):Rw->Prop
 | .load b c=>vs=[.str "load",.str (Qt b),.int c]
 | .store c e=>∃x,vs=[.str "store",.int c,x]/\Dat H x (En e)
 | .swap b c e=>∃x,vs=[.str "swap",.str (Qt b),.int c,x]/\Dat H x (En e)
 | .Gr b e=>∃x,vs=[.str "let",.str (Qt b),x]/\Dat H x (En e)
 | .say e=>∃x,vs=[.str "say",x]/\Dat H x (En e)
 | .go k=>vs=[.str "go",.int k]
 | .HB q e f k=>∃x y,vs=[.str "unless",.str (if q then "=" else "<"),x,y,.int k]/\Dat H x (En e)/\Dat H y (En f)
theorem Nk {r:Rw} (h:Dat H v (DY r)):∃t vs,v = .ref t/\H t=some (.tup vs)/\Parts H vs r:=by
 cases r<;>simp only [DY,Dat] at h<;>obtain ⟨t,vs,rfl,e,d⟩:=h<;>refine ⟨t,vs,rfl,e, ?_⟩
 ·match vs,d with
  | [a,b,c],d=>
    simp only [aR,Dat,and_true] at d;obtain ⟨rfl,rfl,rfl⟩:=d;rfl
 ·match vs,d with
  | [a,b,c],d=>
    simp only [aR,Dat,and_true] at d;obtain ⟨rfl,rfl,d⟩:=d;exact ⟨_,rfl,d⟩
 ·match vs,d with
  | [a,b,c,x],d=>
    simp only [aR,Dat,and_true] at d;obtain ⟨rfl,rfl,rfl,d⟩:=d;exact ⟨_,rfl,d⟩
 ·match vs,d with
  | [a,b,c],d=>
    simp only [aR,Dat,and_true] at d;obtain ⟨rfl,rfl,d⟩:=d;exact ⟨_,rfl,d⟩
 ·match vs,d with
  | [a,b],d=>
    simp only [aR,Dat,and_true] at d;obtain ⟨rfl,d⟩:=d;exact ⟨_,rfl,d⟩
 ·match vs,d with
  | [a,b],d=>
    simp only [aR,Dat,and_true] at d;obtain ⟨rfl,rfl⟩:=d;rfl
 ·match vs,d with
  | [a,b,c,x,y],d=>
    simp only [aR,Dat,and_true] at d;obtain ⟨rfl,rfl,d1,d2,rfl⟩:=d;exact ⟨_,_,rfl,d1,d2⟩
end
def v1 (bs:List Int):Yz->Int
 | .num n=>n % 1000
 | .box b=>(bs[b]?).getD 0
def vx (bs:List Int):Lw->Int
 | .one x=>v1 bs x
 | .two true x y=>(v1 bs x+v1 bs y) % 1000
 | .two false x y=>(v1 bs x - v1 bs y) % 1000
structure bU where
 (rws:List Rw) (pos:Nat) (bs sy:List Int) (st:Str)
def touch:Rw->Bool
 | .load _ _=>true
 | .store _ _=>true
 | .swap _ _ _=>true
 | _=>false
def yH (bs:List Int):Rw->Bool
 | .HB true e f _=>decide (vx bs e=vx bs f)
 | .HB false e f _=>decide (vx bs e<vx bs f)
 | _=>false
def zm (s:bU):Rw->bU
 | .Gr b e=>{s with pos:=s.pos+1,bs:=s.bs.set b (vx s.bs e)}
 | .say e=>{s with pos:=s.pos+1,sy:=s.sy++[vx s.bs e]}
 | .go k=>{s with pos:=k}
 | .HB q e f k=>{s with pos:=if yH s.bs (.HB q e f k) then s.pos+1 else k}
 | _=>s
def led:Nat->bU->bU
 | 0,s=>match s.rws[s.pos]? with
   | none=>{s with st:= "ends" }
   | some r=>if touch r then {s with st:= "waits" } else {s with st:= "lost" }
 | n+1,s=>match s.rws[s.pos]? with
   | none=>{s with st:= "ends" }
   | some r=>if touch r then {s with st:= "waits" } else led n (zm s r)
def lead (s:bU):bU:=led 60 s
theorem Ep (s:bU) (r:Rw):(zm s r).rws=s.rws:=by cases r<;>rfl
theorem Jq (s:bU) (r:Rw):(zm s r).sy.length<=s.sy.length+1:=by cases r<;>simp [zm]
theorem wG:∀(n:Nat) (s:bU),(led n s).rws=s.rws
 | 0,s=>by
   unfold led;split
   ·rfl
   ·split<;>rfl
 | n+1,s=>by
   unfold led;split
   ·rfl
   ·split
    ·rfl
    ·rw [wG,Ep]
theorem K4:∀(n:Nat) (s:bU),(led n s).sy.length<=s.sy.length+n
 | 0,s=>by
   unfold led;split
   ·simp
   ·split<;>simp
 | n+1,s=>by
   unfold led;split
   ·simp
   ·split
    ·simp
    ·rename_i r _ _
     have:=K4 n (zm s r);have:=Jq s r;omega
def nY (s:bU):Prop:=s.st = "waits" -> ∃r,s.rws[s.pos]? = some r/\touch r=true
theorem M7:(Str.ofString "ends")≠Str.ofString "waits" :=by decide +kernel
theorem Wv:(Str.ofString "lost")≠Str.ofString "waits" :=by decide +kernel
theorem K5:∀(n:Nat) (s:bU),nY (led n s)
 | 0,s=>by
   unfold led nY;split
   ·intro z;exact absurd z M7
   ·rename_i r e
    split
    ·intro _;exact ⟨r,e,by assumption⟩
    ·intro z;exact absurd z Wv
 | n+1,s=>by
   unfold led;split
   ·intro z;exact absurd z M7
   ·rename_i r e
    split
    ·intro _;exact ⟨r,e,by assumption⟩
    ·exact K5 n _
def new (rws:List Rw):bU:=⟨rws,0,List.replicate 8 0,[],"waits"⟩
structure pO where
 (m:Nat) (ns:List Int) (hs:List bU) (ts:List Int)
def Jz:Rw->Nat
 | .load _ c=>c
 | .store c _=>c
 | .swap _ c _=>c
 | _=>0
def abB:Rw->Str
 | .load _ _=> "load"
 | .store _ _=> "store"
 | .swap _ _ _=> "swap"
 | .Gr _ _=> "let"
 | .say _=> "say"
 | .go _=> "go"
 | .HB _ _ _ _=> "unless"
def ab3 (ns:List Int):Rw->Option Int
 | .load _ c=>ns[c]?
 | .swap _ c _=>ns[c]?
 | _=>none
def abA (bs:List Int):Rw->Option Int
 | .store _ e=>some (vx bs e)
 | .swap _ _ e=>some (vx bs e)
 | _=>none
def oV:Option Int->V
 | none=> .non
 | some i=> .int i
def oD:Option Int->PyData
 | none=> .none
 | some i=> .int i
def J2 (ns bs:List Int) (r:Rw):List V:=[.str (abB r),.int (Jz r),oV (ab3 ns r),oV (abA bs r)]
def G8 (ns bs:List Int):Rw->List Int
 | .load b c=>bs.set b ((ns[c]?).getD 0)
 | .swap b c _=>bs.set b ((ns[c]?).getD 0)
 | _=>bs
def sO (ns bs:List Int):Rw->List Int
 | .store c e=>ns.set c (vx bs e)
 | .swap _ c e=>ns.set c (vx bs e)
 | _=>ns
def wL (ns:List Int) (s:bU) (r:Rw):bU:=lead {s with pos:=s.pos+1,bs:=G8 ns s.bs r}
def nu (S:pO) (k:Nat):pO:=match S.hs[k]? with
 | none=>S
 | some s=>match s.rws[s.pos]? with
   | none=>S
   | some r=>{S with ns:=sO S.ns s.bs r,hs:=S.hs.set k (wL S.ns s r),ts:=S.ts++[(k:Int)]}
def Hj (m:Nat) (ns:List Int) (rws:List (List Rw)):pO:=⟨m,ns,rws.map fun r=>lead (new r),[]⟩
end Prf
namespace L2
open PySem Prf
end L2
set_option Elab.async false
set_option linter.all false
set_option maxRecDepth 100000
set_option maxHeartbeats 4000000
namespace L2
open PySem PySem.Spec PyProof.Rows
section
variable {X:Cx} {k:Nat} {C:Addr} {sp:Sp}
theorem VB {pins:List (Addr×Obj)} {σ:St} {H:Hp} {s:Shared} {Q:VK} {us:List Value} {vs:List V} {f:Addr} {fd:FuncData} {ps:List Str} (G:bV X.prog X.w X.K X.mg X.base j4 k f fd ps sp) (hr:dZ (k+1) X.A) (hb:Binds X.K fd ps [])
 (I:Inv X pins σ H s) (r:Vals vs us) (q:sp vs H Q E0):wpAny (model X.prog X.w) X.A.in1 (call (.ref f) us) (EP X pins σ Q) X.xe s:=by
 have hlen:us.length=ps.length:=by rw [←r.length];exact G.len _ _ _ _ q
 have hbd:=hb s us I.qK (by rw [List.append_nil];exact hlen);rw [List.append_nil] at hbd;refine wpAny_call (codeAny_mono (G.run X.A.in1 X.stack s H ⟨us,[]⟩ us vs Q E0 hr.in1 I.env0.in1 hbd r q) fun res s' hq=> ?_)
 match res,hq with
 | .error ev,hq=>exact False.elim hq
 | .ok (.ret u),hq=>exact I.after hq
def ab8 (C:Addr) (sp:Sp):List V->Hp->VK->Prop:=fun xs H Q=>∃(a dx:Addr) (fs:List (Str×V)),xs=[.ref a]/\H a=some (.ins C dx fs)/\sp [.ref a] H (fun v H'=>∃n:Int,v = .int n/\0<=n/\n<2 ^ 62/\Q (.int n) H') E0
theorem Qc (M:MethAt X.prog X.w X.K X.mg X.base k C "__len__" ["self"] sp) (hr:dZ (k+1) X.A):jZ X (.builtin "len") (ab8 C sp):=by
 intro pins s σ H xs us Q I rv h;obtain ⟨f,fd,G,hm,hb⟩:=M;obtain ⟨a,dx,fs,rfl,ea,q⟩:=h;obtain ⟨u,rfl,ru⟩:=rv.one;obtain rfl:u=Value.ref a:=ru;obtain ⟨mm,Fm⟩:=I.fr;obtain ⟨mA,O,_⟩:=wJ I.hok ea;obtain ⟨od,J,_⟩:=O.look;refine PySem.W.len_K Fm I.mod.Pb J hm.at_ hm.fn (d9 (VB (us:=[.ref a]) (vs:=[.ref a]) G hr hb I (.cons rfl .nil) q) fun v s' hv=> ?_)
 obtain ⟨x,H',I',rx,n,rfl,n0,n1,q'⟩:=hv;obtain ⟨t,rfl⟩:=rx;exact ⟨⟨n0,by omega⟩,.int n,H',I'.tok _,⟨_,rfl⟩,q'⟩
end
end L2
set_option Elab.async false
set_option linter.all false
set_option maxRecDepth 100000
set_option maxHeartbeats 4000000
namespace L2
open PySem PySem.Spec PyProof.Rows
section
variable {prog:Program} {w:World} {A:Around} {E:Value->Shared->Prop} {s:Shared}
theorem nxT {it t:Addr} {i:Nat} {its:Array Value} {x:Value} {Q:Value->Shared->Prop} (hi:s.heap.IsTupleIter it t i) (ht:s.heap.IsTuple t its) (hx:its[i]? = some x)
 (k:∀h',h'.IsTupleIter it t (i+1)->Heap.SameBut it s.heap h'->Q x {s with heap:=h'}):wpAny (model prog w) A (Builtin.SmallTypes.nextOf (.ref it)) Q E s:=by
 obtain ⟨ob,e1,e2,e3⟩:=id hi;obtain ⟨ot,f1,_,nn,f3⟩:=ht;unfold Builtin.SmallTypes.nextOf;refine wpAny_bind (wpAny_callSpecial?_slot (name:=Str.ofString "__next__") hi.typeIs PySem.F.slot_tuple_iterator_next (wpAny_call_entry PySem.F.slot_tuple_iterator_next hi.typeIs PySem.F.entry_tuple_iterator_next ?_ (PySem.F.args_tuple_iterator_next_1 _)));show wpAny _ _ (field (.ref it) 0 >>= _) _ _ s;refine wpAny_bind (wpAny_field e1 e3 (x:= .ref t) rfl ?_);show wpAny _ _ (if (Value.ref t==Value.none)=true then _ else _) _ _ s;rw [if_neg (show ¬((Value.ref t==Value.none)=true) from Bool.false_ne_true)];show wpAny _ _ (field (.ref it) 1 >>= _) _ _ s;refine wpAny_bind (wpAny_field e1 e3 (x:= .int i 0) rfl ?_);show wpAny _ _ (seqItems? (.ref t) >>= _) _ _ s;refine wpAny_bind (wpAny_seqItems f1 f3 ?_);simp only [Int.toNat_natCast,hx];refine wpAny_bind (wpAny_setField e1 e3 (by simp) (wpAny_pure ⟨x,rfl,wpAny_pure (k _ ?_ (Heap.SameBut.update ..))⟩));refine ⟨_,Heap.get?_update_self _ e1 (Obj.isFreed_of_fields (Obj.data_mapFields e3 _)),(Obj.cls_mapFields ..).trans e2, ?_⟩;rw [Obj.data_mapFields e3];simp [rawInt]
theorem aja {it t:Addr} {i:Nat} {its:Array Value} {Q:Value->Shared->Prop} (hh:A.handled=none) (hi:s.heap.IsTupleIter it t i) (ht:s.heap.IsTuple t its) (hx:its[i]? = none)
 (k:∀h' e,Heap.ExtBut it s.heap h'->(∃o,h'.get? e=some o/\o.cls = .type "StopIteration")->E (.ref e) {s with heap:=h'}):wpAny (model prog w) A (Builtin.SmallTypes.nextOf (.ref it)) Q E s:=by
 obtain ⟨ob,e1,e2,e3⟩:=id hi;obtain ⟨ot,f1,_,nn,f3⟩:=ht;unfold Builtin.SmallTypes.nextOf;refine wpAny_bind (wpAny_callSpecial?_slot (name:=Str.ofString "__next__") hi.typeIs PySem.F.slot_tuple_iterator_next (wpAny_call_entry PySem.F.slot_tuple_iterator_next hi.typeIs PySem.F.entry_tuple_iterator_next ?_ (PySem.F.args_tuple_iterator_next_1 _)));show wpAny _ _ (field (.ref it) 0 >>= _) _ _ s;refine wpAny_bind (wpAny_field e1 e3 (x:= .ref t) rfl ?_);show wpAny _ _ (if (Value.ref t==Value.none)=true then _ else _) _ _ s;rw [if_neg (show ¬((Value.ref t==Value.none)=true) from Bool.false_ne_true)];show wpAny _ _ (field (.ref it) 1 >>= _) _ _ s;refine wpAny_bind (wpAny_field e1 e3 (x:= .int i 0) rfl ?_);show wpAny _ _ (seqItems? (.ref t) >>= _) _ _ s;refine wpAny_bind (wpAny_seqItems f1 f3 ?_);simp only [Int.toNat_natCast,hx];refine wpAny_bind (wpAny_rule (wpAny_bind (wpAny_setField e1 e3 (by simp) ?_)));show wpAny _ _ (newExc (.type "StopIteration") [] >>= _) _ _ _;refine wpAny_bind ?_;simp only [newExc,newTuple];refine wpAny_bind (wpAny_newObj_type ?_ (by size_fits));refine wpAny_bind (m:=firstArgMember _ _) (wpAny_of_eq (a:=Value.none) (by first |rfl|(simp only [firstArgMember];rfl)) ?_);refine wpAny_newObj_type ?_ (by size_fits);simp only [raiseNew];refine wpAny_bind (wpAny_handled ?_)
 first |rw [show A.in1.handled=none from hh]|rw [hh]
 refine wpAny_bind (wpAny_pure (wpAny_throw (k _ _ (((Heap.SameBut.update ..).extBut.push _).push _) ⟨_,Heap.get?_push_size _ rfl,rfl⟩)))
theorem YC {z TI TO i1 i2 l1 l2:Addr} {k1 k2:Nat} {xs ys:Array Value} {x y a b:Value} {Q:Option Value->Shared->Prop} (D:ZipApart z TI TO i1 i2 l1 l2) (hz:IsZip s.heap z TI TO .none) (hI:IsPair s.heap TI (.ref i1) (.ref i2)) (hO:IsPair s.heap TO a b)
 (h1:s.heap.IsTupleIter i1 l1 k1) (h2:s.heap.IsTupleIter i2 l2 k2) (m1:s.heap.IsTuple l1 xs) (m2:s.heap.IsTuple l2 ys) (hx:xs[k1]? = some x) (hy:ys[k2]? = some y)
 (k:∀h',IsZip h' z TI TO (rawInt s.heap.objs.size)->IsPair h' TO x y->h'.IsTupleIter i1 l1 (k1+1)->h'.IsTupleIter i2 l2 (k2+1)->IsPair h' s.heap.objs.size x y->h'.objs.size=s.heap.objs.size+1->(∀c o,c≠z->c≠TO->c≠i1->c≠i2->s.heap.get? c=some o->h'.get? c=some o)->Q (some (.ref s.heap.objs.size)) {s with heap:=h'}):
 wpAny (model prog w) A (pyNext (.ref z)) Q E s:=by
 have tz:s.TypeIs (.ref z) "zip" :=⟨_,hz,rfl⟩;unfold pyNext;refine wpAny_bind (wpAny_attempt (wpAny_callSpecial?_slot (name:=Str.ofString "__next__") tz PySem.F.slot_zip_next (wpAny_call_entry PySem.F.slot_zip_next tz PySem.F.entry_zip_next ?_ (PySem.F.args_zip_next_1 _))));show wpAny _ _ (field (.ref z) 2 >>= _) _ _ _;refine wpAny_bind (wpAny_field hz rfl (x:= .bool false) rfl ?_);show wpAny _ _ (field (.ref z) 3 >>= _) _ _ _;refine wpAny_bind (wpAny_field hz rfl (x:= .ref TI) rfl ?_);refine wpAny_bind (wpAny_seqItems hI rfl ?_);show wpAny _ _ (Builtin.SmallTypes.ownedTupleIsFree (.ref z) >>= _) _ _ _;refine wpAny_bind ?_;unfold Builtin.SmallTypes.ownedTupleIsFree;refine wpAny_bind (wpAny_field hz rfl (x:= .none) rfl (wpAny_pure ?_));simp only [if_true];refine wpAny_bind (wpAny_rule (wpAny_bind (wpAny_field hz rfl (x:= .ref TO) rfl ?_)));refine wpAny_bind (wpAny_setField_rec hz (by simp) fun g1 z1 s1=> ?_)
 replace z1:IsZip g1 z TI TO .ellipsis:=z1
 refine wpAny_bind ?_;simp only [List.zipIdx_cons,List.zipIdx_nil,List.forIn_cons,List.forIn_nil];refine wpAny_bind (wpAny_bind (wpAny_onRaise ?_));show wpAny _ _ (Builtin.SmallTypes.nextOf (.ref i1) >>= _) _ _ _
 refine wpAny_bind (nxT (h1.extBut s1.extBut D.i1z) (m1.extBut s1.extBut D.l1z) hx fun g2 j1 s2=>wpAny_pure ?_);have O2:IsPair g2 TO a b:=s2.extBut _ _ D.TOi1 (s1.extBut _ _ D.TOz hO);refine wpAny_bind (wpAny_seqItems O2 rfl ?_);refine wpAny_bind (wpAny_updateSeq_pair O2 fun g3 O3 s3=> ?_)
 replace O3:IsPair g3 TO x b:=O3
 refine wpAny_bind (wpAny_letGo (wpAny_pure (wpAny_bind (wpAny_bind (wpAny_onRaise ?_)))));show wpAny _ _ (Builtin.SmallTypes.nextOf (.ref i2) >>= _) _ _ _
 refine wpAny_bind (nxT (((h2.extBut s1.extBut D.i2z).extBut s2.extBut D.i12.symm).extBut s3.extBut D.TOi2.symm) (((m2.extBut s1.extBut D.l2z).extBut s2.extBut D.l2i1).extBut s3.extBut D.l2TO) hy fun g4 j2 s4=>wpAny_pure ?_);have O4:IsPair g4 TO x b:=s4.extBut _ _ D.TOi2 O3;refine wpAny_bind (wpAny_seqItems O4 rfl ?_);refine wpAny_bind (wpAny_updateSeq_pair O4 fun g5 O5 s5=> ?_)
 replace O5:IsPair g5 TO x y:=O5
 refine wpAny_bind (wpAny_letGo (wpAny_pure (wpAny_pure (wpAny_bind (wpAny_seqItems O5 rfl (wpAny_bind (wpAny_newTuple ?_)))))));have sz:g5.objs.size=s.heap.objs.size:=by rw [s5.1,s4.1,s3.1,s2.1,s1.1]
 have z5:IsZip g5 z TI TO .ellipsis:=s5.extBut _ _ D.TOz.symm (s4.extBut _ _ D.i2z.symm (s3.extBut _ _ D.TOz.symm (s2.extBut _ _ D.i1z.symm z1)));have k5:∀c o,c≠z->c≠TO->c≠i1->c≠i2->s.heap.get? c=some o->g5.get? c=some o:=fun c o n1 n2 n3 n4 e=>s5.extBut _ _ n2 (s4.extBut _ _ n4 (s3.extBut _ _ n2 (s2.extBut _ _ n3 (s1.extBut _ _ n1 e))));have p1:g5.IsTupleIter i1 l1 (k1+1):=((j1.extBut s3.extBut D.TOi1.symm).extBut s4.extBut D.i12).extBut s5.extBut D.TOi1.symm;have p2:g5.IsTupleIter i2 l2 (k2+1):=j2.extBut s5.extBut D.TOi2.symm;have zlt:z<g5.objs.size:=Heap.lt_size z5;show wpAny _ _ (Builtin.SmallTypes.ownedTupleHandOut (.ref z) (.ref g5.objs.size) >>= _) _ _ _;refine wpAny_bind ?_;unfold Builtin.SmallTypes.ownedTupleHandOut;have z6:IsZip (g5.push {cls:= .type "tuple",data:= .seq #[x,y]}) z TI TO .ellipsis:=Heap.get?_push_of_some _ z5;refine wpAny_bind (wpAny_setField_rec z6 (by simp) fun g7 z7 s7=> ?_)
 replace z7:IsZip g7 z TI TO (rawInt g5.objs.size):=z7
 refine wpAny_setField_rec z7 (by simp) fun g8 z8 s8=> ?_
 replace z8:IsZip g8 z TI TO (rawInt g5.objs.size):=z8
 have up:∀c o,c≠z->g5.get? c=some o->g8.get? c=some o:=fun c o n1 e=>s8.extBut _ _ n1 (s7.extBut _ _ n1 (Heap.get?_push_of_some _ e));have t8:IsPair g8 g5.objs.size x y:=s8.extBut _ _ (Nat.ne_of_gt zlt) (s7.extBut _ _ (Nat.ne_of_gt zlt) (Heap.get?_push_size _ rfl));have e8:g8.objs.size=g5.objs.size+1:=by rw [s8.1,s7.1,Heap.size_push]
 rw [sz] at z8 t8 e8;refine wpAny_pure ⟨_,rfl,wpAny_pure ?_⟩;show Q (some (.ref g5.objs.size)) _;rw [sz];refine k g8 z8 (up _ _ D.TOz O5) ?_ ?_ t8 e8 fun c o n1 n2 n3 n4 e=>up c o n1 (k5 c o n1 n2 n3 n4 e)
 ·obtain ⟨o,e,r⟩:=p1;exact ⟨o,up _ _ D.i1z e,r⟩
 ·obtain ⟨o,e,r⟩:=p2;exact ⟨o,up _ _ D.i2z e,r⟩
theorem abz {z TI TO i1 i2 l1 l2:Addr} {k1 k2:Nat} {xs ys:Array Value} {a b:Value} {Q:Option Value->Shared->Prop} (hh:A.handled=none) (D:ZipApart z TI TO i1 i2 l1 l2) (hz:IsZip s.heap z TI TO .none) (hI:IsPair s.heap TI (.ref i1) (.ref i2)) (hO:IsPair s.heap TO a b)
 (h1:s.heap.IsTupleIter i1 l1 k1) (h2:s.heap.IsTupleIter i2 l2 k2) (m1:s.heap.IsTuple l1 xs) (m2:s.heap.IsTuple l2 ys) (hx:xs[k1]? = none)
 (k:∀h',(∀c o,c≠z->c≠TO->c≠i1->c≠i2->s.heap.get? c=some o->h'.get? c=some o)->Q none {s with heap:=h'}):wpAny (model prog w) A (pyNext (.ref z)) Q E s:=by
 have tz:s.TypeIs (.ref z) "zip" :=⟨_,hz,rfl⟩
 have stop:∀(h':Heap) (e:Addr),(∀c o,c≠z->c≠TO->c≠i1->c≠i2->s.heap.get? c=some o->h'.get? c=some o)->(∃o,h'.get? e=some o/\o.cls = .type "StopIteration")->wpAny (model prog w) A (do if ←isInstance (.ref e) (.type "StopIteration") then pure none else throw (.ref e)) Q E {s with heap:=h'}:=fun h' e hk he=>by
  obtain ⟨o,ho,hc⟩:=he;exact wpAny_bind (wpAny_isInstance (T:= "StopIteration") (b:=true) ⟨o,ho,hc⟩ isSubtype_stop (wpAny_pure (k _ hk)))
 unfold pyNext;refine wpAny_bind (wpAny_attempt (wpAny_callSpecial?_slot (name:=Str.ofString "__next__") tz PySem.F.slot_zip_next (wpAny_call_entry PySem.F.slot_zip_next tz PySem.F.entry_zip_next ?_ (PySem.F.args_zip_next_1 _))));show wpAny _ _ (field (.ref z) 2 >>= _) _ _ _;refine wpAny_bind (wpAny_field hz rfl (x:= .bool false) rfl ?_);show wpAny _ _ (field (.ref z) 3 >>= _) _ _ _;refine wpAny_bind (wpAny_field hz rfl (x:= .ref TI) rfl ?_);refine wpAny_bind (wpAny_seqItems hI rfl ?_);show wpAny _ _ (Builtin.SmallTypes.ownedTupleIsFree (.ref z) >>= _) _ _ _;refine wpAny_bind ?_;unfold Builtin.SmallTypes.ownedTupleIsFree;refine wpAny_bind (wpAny_field hz rfl (x:= .none) rfl (wpAny_pure ?_));simp only [if_true];refine wpAny_bind (wpAny_rule (wpAny_bind (wpAny_field hz rfl (x:= .ref TO) rfl ?_)));refine wpAny_bind (wpAny_setField_rec hz (by simp) fun g1 z1 s1=> ?_)
 replace z1:IsZip g1 z TI TO .ellipsis:=z1
 refine wpAny_bind ?_;simp only [List.zipIdx_cons,List.zipIdx_nil,List.forIn_cons,List.forIn_nil];refine wpAny_bind (wpAny_bind (wpAny_onRaise ?_));show wpAny _ _ (Builtin.SmallTypes.nextOf (.ref i1) >>= _) _ _ _
 refine wpAny_bind (aja hh (h1.extBut s1.extBut D.i1z) (m1.extBut s1.extBut D.l1z) hx fun g2 e s2 he=> ?_);obtain ⟨oe,hoe,hce⟩:=he;have z2:IsZip g2 z TI TO .ellipsis:=s2 _ _ D.i1z.symm z1;have nez:e≠z:=fun q=>by subst q;rw [z2] at hoe;cases hoe;simp at hce
 refine wpAny_setField_rec z2 (by simp) fun g3 _ s3=> ?_;obtain st:=stop g3 e (fun c o n1 _ n3 _ q=>s3.extBut _ _ n1 (s2 _ _ n3 (s1.extBut _ _ n1 q))) ⟨oe,s3.extBut _ _ nez hoe,hce⟩;exact st
end
end L2
set_option Elab.async false
set_option linter.all false
set_option maxRecDepth 100000
set_option maxHeartbeats 4000000
namespace L2
open PySem PySem.Spec PyProof.Rows
abbrev Qx (l:Addr):Obj:={cls:= .type "tuple_iterator",data:= .fields #[.ref l,.int 0 0]}
abbrev zt3 (h:Heap) (l1 l2:Addr):Heap:=((h.push (Qx l1)).push (Qx l2)).push {cls:= .type "tuple",data:= .seq #[.ref h.objs.size,.ref (h.push (Qx l1)).objs.size]}
abbrev zt4 (h:Heap) (l1 l2:Addr):Heap:=(zt3 h l1 l2).push {cls:= .type "tuple",data:= .seq #[.none,.none]}
abbrev zt5 (h:Heap) (l1 l2:Addr):Heap:=(zt4 h l1 l2).push {cls:= .type "zip",data:= .fields #[.none,.bool false,.bool false,.ref ((h.push (Qx l1)).push (Qx l2)).objs.size,.ref (zt3 h l1 l2).objs.size]}
theorem aby (l1 l2:Addr) (xs ys:Array Value):Meets (Builtin.«zip.__new__» ⟨[.type "zip",.ref l1,.ref l2],[]⟩) (fun _ R s=>s.heap.IsTuple l1 xs/\s.heap.IsTuple l2 ys/\R (.ok (.ret (.ref (zt4 s.heap l1 l2).objs.size))) {s with heap:=zt5 s.heap l1 l2}):=
 .of_wp fun prog w A R s h=>by
  obtain ⟨hp,g,d,tk,os⟩:=s;obtain ⟨m1,m2,h⟩:=h;have sub:=sub_zip;have M1:Heap.IsTuple (Shared.heap ⟨hp,g,d,tk,os⟩) l1 xs:=m1;have M2:Heap.IsTuple (Shared.heap ⟨hp.push {cls:= .type "tuple_iterator",data:= .fields #[.ref l1,.int 0 0]},g,d,tk,os⟩) l2 ys:=Heap.IsTuple.push m2 _
  wp_walk using wpAny_pyIter_tuple M1,wpAny_pyIter_tuple M2
  exact ⟨_,rfl,h⟩
section
variable {prog:Program} {w:World} {A:Around} {E:Value->Shared->Prop} {s:Shared}
theorem YD {l1 l2:Addr} {xs ys:Array Value} {Q:Value->Shared->Prop} (m1:s.heap.IsTuple l1 xs) (m2:s.heap.IsTuple l2 ys)
 (k:∀h',IsZip h' (s.heap.objs.size+4) (s.heap.objs.size+2) (s.heap.objs.size+3) .none->IsPair h' (s.heap.objs.size+2) (.ref s.heap.objs.size) (.ref (s.heap.objs.size+1))->IsPair h' (s.heap.objs.size+3) .none .none->h'.IsTupleIter s.heap.objs.size l1 0->h'.IsTupleIter (s.heap.objs.size+1) l2 0 ->
   (∀c o,s.heap.get? c=some o->h'.get? c=some o)->Q (.ref (s.heap.objs.size+4)) {s with heap:=h'}):wpAny (model prog w) A (call (.type "zip") [.ref l1,.ref l2]) Q E s:=by
 refine callType_new PySem.F.called_zip (by decide) (PySem.F.typeCall_zip_2 _ _) (PySem.F.newCall_zip_2 _ _) (fun obj=>PySem.F.args_object_init_3 obj _ _) PySem.F.entry_zip_new (aby l1 l2 xs ys) ⟨m1,m2, ?_⟩;have n1:(s.heap.push (Qx l1)).objs.size=s.heap.objs.size+1:=Heap.size_push ..;have n2:((s.heap.push (Qx l1)).push (Qx l2)).objs.size=s.heap.objs.size+2:=by rw [Heap.size_push,n1]
 have n3:(zt3 s.heap l1 l2).objs.size=s.heap.objs.size+3:=by rw [Heap.size_push,n2]
 have n4:(zt4 s.heap l1 l2).objs.size=s.heap.objs.size+4:=by rw [Heap.size_push,n3]
 have e5:(zt5 s.heap l1 l2).get? (zt4 s.heap l1 l2).objs.size=some _:=Heap.get?_push_size _ rfl;have e4:(zt5 s.heap l1 l2).get? (zt3 s.heap l1 l2).objs.size=some _:=Heap.get?_push_of_some _ (Heap.get?_push_size _ rfl);have e3:(zt5 s.heap l1 l2).get? ((s.heap.push (Qx l1)).push (Qx l2)).objs.size=some _:=Heap.get?_push_of_some _ (Heap.get?_push_of_some _ (Heap.get?_push_size _ rfl));have e2:(zt5 s.heap l1 l2).get? (s.heap.push (Qx l1)).objs.size=some _:=Heap.get?_push_of_some _ (Heap.get?_push_of_some _ (Heap.get?_push_of_some _ (Heap.get?_push_size _ rfl)));have e1:(zt5 s.heap l1 l2).get? s.heap.objs.size=some _:=Heap.get?_push_of_some _ (Heap.get?_push_of_some _ (Heap.get?_push_of_some _ (Heap.get?_push_of_some _ (Heap.get?_push_size _ rfl))));show _/\_;rw [n2,n3,n4] at e5;rw [n1,n2] at e3;rw [n3] at e4;rw [n1] at e2;rw [n4];refine ⟨⟨_,e5,rfl⟩,k _ e5 e3 e4 ⟨_,e1,rfl,rfl⟩ ⟨_,e2,rfl,rfl⟩ fun c o q=> ?_⟩
 iterate 5 refine Heap.get?_push_of_some _ ?_
 exact q
end
def aaX (K:PySem.W.Frag) (l1 l2:Addr):It:=
 ⟨fun i H=>∃xs ys x y,cQ K H l1 xs/\cQ K H l2 ys/\xs[i]? = some x/\ys[i]? = some y,
  fun i H x H'=>∃(p:Addr) (y z:V),x = .ref p/\H p=none/\(∀xs,cQ K H l1 xs->xs[i]? = some y)/\(∀ys,cQ K H l2 ys->ys[i]? = some z)/\H'=upd H p (.tup [y,z]),
  fun i H=>∃xs ys,cQ K H l1 xs/\cQ K H l2 ys/\xs.length<=i⟩
theorem NK {P:Program} {w:World} {K:PySem.W.Frag} {elts:List Expr} {x1:Nat} {pos:Pos} (z TI TO i1 i2 l1 l2:Addr) (ap:ZipApart z TI TO i1 i2 l1 l2):Turn P w K (.Tuple elts x1 pos) (aaX K l1 l2) [z,TI,TO,i1,i2] z
 (fun i h=>IsZip h z TI TO .none/\IsPair h TI (.ref i1) (.ref i2)/\(∃a b,IsPair h TO a b)/\h.IsTupleIter i1 l1 i/\h.IsTupleIter i2 l2 i) where
 mem:=by simp
 obj:=fun i h st b hb=>by
  obtain ⟨hz,hTI,⟨a,c,hTO⟩,⟨o1,h1,c1,d1⟩,⟨o2,h2,c2,d2⟩⟩:=st;have hb':b=z\/b=TI\/b=TO\/b=i1\/b=i2:=by simpa using hb
  rcases hb' with rfl|rfl|rfl|rfl|rfl
  ·exact ⟨_,hz,fun v z=>by cases z⟩
  ·exact ⟨_,hTI,fun v z=>by cases z⟩
  ·exact ⟨_,hTO,fun v z=>by cases z⟩
  ·exact ⟨_,h1,fun v z=>by rw [d1] at z;cases z⟩
  ·exact ⟨_,h2,fun v z=>by rw [d2] at z;cases z⟩
 keep:=fun i h h' st k=>by
  obtain ⟨hz,hTI,⟨a,c,hTO⟩,⟨o1,h1,c1,d1⟩,⟨o2,h2,c2,d2⟩⟩:=st;exact ⟨k z (by simp) _ hz,k TI (by simp) _ hTI,⟨a,c,k TO (by simp) _ hTO⟩,⟨o1,k i1 (by simp) _ h1,c1,d1⟩,⟨o2,k i2 (by simp) _ h2,c2,d2⟩⟩
 item:=by
  intro X hP hw hK hc i pins s σ H E I hf st hg;subst hP hw hK;obtain ⟨xs,ys,x,y,hq1,hq2,hx,hy⟩:=hg;obtain ⟨Jd,Vz,p1,hz1⟩:=I.tuple hq1;obtain ⟨its2,X5,p2,hz2⟩:=I.tuple hq2;obtain ⟨u1,hu1,ru1⟩:=Vz.get hx;obtain ⟨u2,hu2,ru2⟩:=X5.get hy;obtain ⟨hz,hTI,⟨a,c,hTO⟩,hi1,hi2⟩:=st;have zlt:=Heap.lt_size hz;have aaT:=Heap.lt_size hTI;have aaS:=Heap.lt_size hTO;have aam:i1<s.heap.objs.size:=by obtain ⟨o,ho,_⟩:=id hi1;exact Heap.lt_size ho
  have aal:i2<s.heap.objs.size:=by obtain ⟨o,ho,_⟩:=id hi2;exact Heap.lt_size ho
  refine YC ap hz hTI hTO hi1 hi2 (show s.heap.IsTuple l1 Jd.toArray from p1) (show s.heap.IsTuple l2 its2.toArray from p2) (x:=u1) (y:=u2) (by simpa using hu1) (by simpa using hu2) fun h' hz' aar aaq hi2' hnew hsz hk=> ?_;refine ⟨_,rfl, ?_⟩;refine wpAny_letOwnedTupleGo_zip hz' fun h2 aan sb=> ?_;have hfr:H s.heap.objs.size=none:=I.hok.fresh (Nat.le_refl _)
  have I0:Inv X pins σ (upd H s.heap.objs.size (.tup [x,y])) {s with heap:=s.heap.push {cls:= .type "tuple",data:= .seq #[u1,u2]}}:=
   I.laid (t':=s.toks) (fun b u e=>Heap.get?_push_of_some _ e) (Nat.le_refl _) ⟨by show 2<=sizeLine;decide,[u1,u2],.cons ru1 (.cons ru2 .nil),⟨_,Heap.get?_push_size _ rfl,rfl,_,rfl⟩⟩
  have Yp:∀b∈[z,TI,TO,i1,i2],sZ X pins (upd H s.heap.objs.size (.tup [x,y])) b:=fun b hb=>by
   refine (hf b hb).upd ?_;have hb':b=z\/b=TI\/b=TO\/b=i1\/b=i2:=by simpa using hb
   rcases hb' with rfl|rfl|rfl|rfl|rfl
   ·exact Nat.ne_of_lt zlt
   ·exact Nat.ne_of_lt aaT
   ·exact Nat.ne_of_lt aaS
   ·exact Nat.ne_of_lt aam
   ·exact Nat.ne_of_lt aal
  have I1:=I0.tE (h':=h2) (t':=s.toks) Yp (fun b o hb eb=>by
   have b1:b≠z:=fun e=>hb (by simp [e]);have b2:b≠TO:=fun e=>hb (by simp [e]);have b3:b≠i1:=fun e=>hb (by simp [e]);have b4:b≠i2:=fun e=>hb (by simp [e]);rw [sb.2 b b1];rcases B_ rfl eb with ⟨rfl,rfl⟩|eb
   ·exact hnew
   ·exact hk b o b1 b2 b3 b4 eb)
  refine ⟨.ref s.heap.objs.size,_,I1,rfl,⟨s.heap.objs.size,x,y,rfl,hfr,fun ys hy=>by rw [I.xW hy hq1];exact hx,fun ys' hy'=>by rw [I.xW hy' hq2];exact hy,rfl⟩, ?_,fun b hb=>(Yp b hb).1⟩;obtain ⟨o1,ho1,c1,d1⟩:=aaq;obtain ⟨o2,ho2,c2,d2⟩:=hi2';exact ⟨aan,(sb.2 TI ap.TIz).trans (hk TI _ ap.TIz ap.TITO ap.TIi1 ap.TIi2 hTI),⟨_,_,(sb.2 TO ap.TOz).trans aar⟩,⟨o1,(sb.2 i1 ap.i1z).trans ho1,c1,d1⟩,⟨o2,(sb.2 i2 ap.i2z).trans ho2,c2,d2⟩⟩
 done:=by
  intro X hP hw hK hc i pins s σ H E I hf st hg;subst hP hw hK;obtain ⟨xs,ys,hq1,hq2,hx⟩:=hg;obtain ⟨Jd,Vz,p1,hz1⟩:=I.tuple hq1;obtain ⟨its2,X5,p2,hz2⟩:=I.tuple hq2;obtain ⟨hz,hTI,⟨a,c,hTO⟩,hi1,hi2⟩:=st;have hl1:=Vz.length;refine abz (I.ok.hd hc) ap hz hTI hTO hi1 hi2 (show s.heap.IsTuple l1 Jd.toArray from p1) (show s.heap.IsTuple l2 its2.toArray from p2) (by simp;omega) fun h' eb=>⟨rfl,I.tE (t':=s.toks) hf (fun b o hb e=>eb b o (fun z=>hb (by simp [z])) (fun z=>hb (by simp [z])) (fun z=>hb (by simp [z])) (fun z=>hb (by simp [z])) e)⟩
 self:=fun _ _ _ _ _ st h=>wpAny_pyIter_zip st.1 h
section
variable {X:Cx}
def acH (K:PySem.W.Frag) (ta:TA):TI:=fun σ H R=>ta σ H fun vs H1=>∃l1 l2 xs ys,vs=[.ref l1,.ref l2]/\((bL K H1 l1 xs/\bL K H1 l2 ys/\R (Itz K l1 l2) H1)\/(cQ K H1 l1 xs/\cQ K H1 l2 ys/\R (aaX K l1 l2) H1))
theorem V4 {K:PySem.W.Frag} {a b:Expr} {ta:TA} {p pos:Pos} {elts:List Expr} {x1:Nat} {tpos:Pos} (hK:X.K=K) (hg:Gl X "zip") (hm:X.mg "zip" = none) (ha:PA X [a,b] ta) (hs:starEach [a,b] X.env=[(false,eval a X.env),(false,eval b X.env)]:=by rfl) (hs2:starEach [b] X.env=[(false,eval b X.env)]:=by rfl):PI X (.Tuple elts x1 tpos) (.Call (.Name "zip" p) [a,b] [] pos) (acH K ta):=by
 subst hK;intro pins s σ H R I h;refine Call_ (vm I hg hm boot_zip (PyProof.Rows.callWith_type1 (d9 (ha pos pins s σ H _ I h) fun us s1 ⟨vs,H1,I1,r1,q1⟩=> ?_) (by rw [hs,hs2]) (by rw [hs2];rfl)));obtain ⟨l1,l2,xs,ys,e,q1⟩:=q1;subst e
 obtain ⟨u1,us',rfl,r,rr⟩:∃u1 us',us=u1::us'/\RelV (.ref l1) u1/\Vals [.ref l2] us':=by
  cases r1 with
  | cons r rr=>exact ⟨_,_,rfl,r,rr⟩
 obtain ⟨u2,rfl,r'⟩:=rr.one;cases r;cases r'
 have Wt:∀b∈[s1.heap.objs.size+4,s1.heap.objs.size+2,s1.heap.objs.size+3,s1.heap.objs.size,s1.heap.objs.size+1],s1.heap.objs.size<=b:=fun b hb=>by
  have:b=s1.heap.objs.size+4\/b=s1.heap.objs.size+2\/b=s1.heap.objs.size+3\/b=s1.heap.objs.size\/b=s1.heap.objs.size+1:=by simpa using hb
  rcases this with rfl|rfl|rfl|rfl|rfl
  ·exact Nat.le_add_right _ _
  ·exact Nat.le_add_right _ _
  ·exact Nat.le_add_right _ _
  ·exact Nat.le_refl _
  ·exact Nat.le_add_right _ _
 rcases q1 with ⟨hq1,hq2,q⟩|⟨hq1,hq2,q⟩
 ·obtain ⟨Jd,Vz,pl1,hz1⟩:=I1.list hq1
  obtain ⟨its2,X5,Va,hz2⟩:=I1.list hq2;have O7:l1<s1.heap.objs.size:=by obtain ⟨o,ho,_⟩:=pl1.isList;exact Heap.lt_size ho
  have O6:l2<s1.heap.objs.size:=by obtain ⟨o,ho,_⟩:=Va.isList;exact Heap.lt_size ho
  refine call_zip_2 pl1.isList Va.isList fun h' hZ hTI hTO hi1 hi2 hsz hk=> ?_;refine wpAny_pyIter_zip hZ ?_;have I2:Inv X pins σ H1 {s1 with heap:=h'}:=I1.kept (t':=s1.toks) hk;exact ⟨s1.heap.objs.size+4,[s1.heap.objs.size+4,s1.heap.objs.size+2,s1.heap.objs.size+3,s1.heap.objs.size,s1.heap.objs.size+1],_,_,H1,rfl,I2,QV _ _ _ _ _ l1 l2 (zipApart_new O7 O6),⟨hZ,hTI,⟨_,_,hTO⟩,hi1,hi2⟩,fun b hb=>I1.Ca (Wt b hb) (I1.hok.fresh (Wt b hb)),q⟩
 ·obtain ⟨Jd,Vz,pl1,hz1⟩:=I1.tuple hq1
  obtain ⟨its2,X5,Va,hz2⟩:=I1.tuple hq2;have m1:s1.heap.IsTuple l1 Jd.toArray:=pl1;have m2:s1.heap.IsTuple l2 its2.toArray:=Va;have O7:l1<s1.heap.objs.size:=by obtain ⟨o,ho,_⟩:=id m1;exact Heap.lt_size ho
  have O6:l2<s1.heap.objs.size:=by obtain ⟨o,ho,_⟩:=id m2;exact Heap.lt_size ho
  refine YD m1 m2 fun h' hZ hTI hTO hi1 hi2 hk=> ?_;refine wpAny_pyIter_zip hZ ?_;have I2:Inv X pins σ H1 {s1 with heap:=h'}:=I1.kept (t':=s1.toks) hk;exact ⟨s1.heap.objs.size+4,[s1.heap.objs.size+4,s1.heap.objs.size+2,s1.heap.objs.size+3,s1.heap.objs.size,s1.heap.objs.size+1],_,_,H1,rfl,I2,NK _ _ _ _ _ l1 l2 (zipApart_new O7 O6),⟨hZ,hTI,⟨_,_,hTO⟩,hi1,hi2⟩,fun b hb=>I1.Ca (Wt b hb) (I1.hok.fresh (Wt b hb)),q⟩
end
section
variable {K:PySem.W.Frag} {D:Addr} {xs:List V} {tc:TT} {te:TE} {Q:VK} {rest:St} {H1:Hp}
theorem Lb {l1 l2:Addr} {ys:List V} {n:Nat} (hn1:xs.length=n) (hn2:ys.length=n) (f:Nat->Option V) (hD:H1 D=none) (hq1:H1 l1=some (.tup xs)) (hq2:H1 l2=some (.tup ys)) (hx:n<=100000)
 (hs:∀i x y H (G:Hp->Prop) (F:VK),xs[i]? = some x->ys[i]? = some y->Same H1 H->(∀H',Same H H'->f i=none->G H')->(∀y H',Same H H'->f i=some y->F y H')->tc (some x::some y::rest) H fun b H3=>if b=true then te (some x::some y::rest) H3 F else G H3)
 (hd:∀H,Same H1 H->H D=some (.lst ((List.range n).filterMap f))->Q (.ref D) H):oK (aaX K l1 l2) (W5 K 2 (Jh (gO 0) (Jh (gO 1) aav))) tc te Q D (none::none::rest) H1:=by
 refine ⟨fun i m σ H=>m=n - i/\i<=n/\(∃u v,σ=u::v::rest)/\Same H1 H/\H D=some (.lst ((List.range i).filterMap f)),⟨n,by simp,Nat.zero_le _,⟨none,none,rfl⟩,aJ hD,ak⟩, ?_⟩;rintro i m σ H ⟨rfl,hi,⟨u,v,rfl⟩,sm,e⟩
 by_cases hlt:i<n
 ·have q1:cQ K H l1 xs:=cQ.of (sm _ _ hq1)
  have q2:cQ K H l2 ys:=cQ.of (sm _ _ hq2);have hx1:xs[i]? = some (xs[i]'(by omega)):=List.getElem?_eq_getElem _;have hy1:ys[i]? = some (ys[i]'(by omega)):=List.getElem?_eq_getElem _;refine .inr ⟨⟨xs,ys,_,_,q1,q2,hx1,hy1⟩,fun σ' H'=>(∃u v,σ'=u::v::rest)/\Same H1 H'/\H' D=some (.lst ((List.range (i+1)).filterMap f)),fun σ' H' p'=>⟨n - (i+1),by omega,rfl,hlt,p'⟩, ?_⟩;rintro x H' ⟨p,y,z,rfl,hp,e1,e2,rfl⟩;have sp:=aJ (o:=HO.tup [y,z]) hp;refine ⟨p,[y,z],rfl,cQ.of ak,rfl,_,_,rfl,_,_,rfl,rfl, ?_⟩;refine hs i y z _ _ _ (e1 _ q1) (e2 _ q2) (sm.trans sp) (fun H3 s3 ef=>⟨⟨_,_,rfl⟩,(sm.trans sp).trans s3,by rw [s3 _ _ (sp _ _ e),eX,ef];simp⟩) (fun y H4 s4 ef=> ?_);refine ⟨_,s4 _ _ (sp _ _ e), ?_,⟨_,_,rfl⟩,((sm.trans sp).trans s4).newly hD, ?_⟩
  ·have:=vB f i
   rw [sizeLine_eq];omega
  ·rw [ak,eX,ef];rfl
 ·have ei:i=n:=by omega
  subst ei;exact .inl ⟨⟨xs,ys,cQ.of (sm _ _ hq1),cQ.of (sm _ _ hq2),by omega⟩,hd H sm e⟩
end
end L2
set_option Elab.async false
set_option linter.all false
set_option maxRecDepth 100000
set_option maxHeartbeats 4000000
namespace Prf
open PySem L2
def inR (x:Int):Prop:=0<=x/\x<1000
def allR (l:List Int):Prop:=∀x∈l,inR x
theorem JG {l:List Int} (h:allR l) (i:Nat):inR ((l[i]?).getD 0):=by
 cases e:l[i]? with
 | none=>exact ⟨by decide,by decide⟩
 | some x=>exact h x (List.mem_of_getElem? e)
theorem CV {l:List Int} (h:allR l) (i:Nat) {x:Int} (hx:inR x):allR (l.set i x):=fun y hy=>by
 rcases List.mem_or_eq_of_mem_set hy with m|e
 ·exact h y m
 ·rw [e];exact hx
theorem Gp (x:Int):inR (x % 1000):=⟨Int.emod_nonneg _ (by decide),Int.emod_lt_of_pos _ (by decide)⟩
theorem QS {bs:List Int} (h:allR bs):∀e:Lw,inR (vx bs e)
 | .one (.num n)=>Gp n
 | .one (.box b)=>JG h b
 | .two true x y=>Gp _
 | .two false x y=>Gp _
theorem Xc {s:bU} (h:allR s.bs) (r:Rw):allR (zm s r).bs:=by
 cases r<;>first |exact h|exact CV h _ (QS h _)
theorem S6:∀(n:Nat) (s:bU),allR s.bs->allR (led n s).bs
 | 0,s,h=>by
   unfold led;split
   ·exact h
   ·split<;>exact h
 | n+1,s,h=>by
   unfold led;split
   ·exact h
   ·split
    ·exact h
    ·exact S6 n _ (Xc h _)
def abV (x:Str):Prop:=x = "waits" \/ x = "ends" \/ x = "lost"
theorem BL:∀(n:Nat) (s:bU),abV (led n s).st
 | 0,s=>by
   unfold led;split
   ·exact .inr (.inl rfl)
   ·split
    ·exact .inl rfl
    ·exact .inr (.inr rfl)
 | n+1,s=>by
   unfold led;split
   ·exact .inr (.inl rfl)
   ·split
    ·exact .inl rfl
    ·exact BL n _
structure q_ (S:pO):Prop where
 n:allR S.ns
 b:∀s∈S.hs,allR s.bs
 t:∀s∈S.hs,abV s.st
theorem Xf {ns bs:List Int} (h:allR ns) (hb:allR bs) (r:Rw):allR (sO ns bs r):=by
 cases r<;>first |exact h|exact CV h _ (QS hb _)
theorem Xj {ns bs:List Int} (h:allR ns) (hb:allR bs) (r:Rw):allR (G8 ns bs r):=by
 cases r<;>first |exact hb|exact CV hb _ (JG h _)
theorem q_.turn {S:pO} (g:q_ S) (k:Nat):q_ (nu S k):=by
 unfold nu;split
 ·exact g
 ·rename_i s es
  split
  ·exact g
  ·rename_i r er
   have hb:=g.b s (List.mem_of_getElem? es);refine ⟨Xf g.n hb r,fun s' hs'=> ?_,fun s' hs'=> ?_⟩
   ·rcases List.mem_or_eq_of_mem_set hs' with m|e
    ·exact g.b s' m
    ·rw [e]
     exact S6 _ _ (Xj g.n hb r)
   ·rcases List.mem_or_eq_of_mem_set hs' with m|e
    ·exact g.t s' m
    ·rw [e]
     exact BL _ _
theorem Pu {m:Nat} {ns:List Int} {rws:List (List Rw)} (h:allR ns):q_ (Hj m ns rws):=⟨h,fun s hs=>by
 obtain ⟨r,_,rfl⟩:=List.mem_map.mp hs;refine S6 _ _ fun x hx=> ?_;rw [(List.mem_replicate.mp hx).2];exact ⟨by decide,by decide⟩,fun s hs=>by
 obtain ⟨r,_,rfl⟩:=List.mem_map.mp hs;exact BL _ _⟩
mutual
theorem Jl:∀d:PyData,d.canLay0=true->PyData.eqv d d=true
 | .none,_=>rfl
 | .bool b,_=>by simp [PyData.eqv]
 | .int i,_=>by simp [PyData.eqv]
 | .str x,_=>by simp [PyData.eqv]
 | .list ds,h=>by simp only [PyData.eqv];exact yI ds (by simpa [PyData.canLay0] using h)
 | .tuple ds,h=>by simp only [PyData.eqv];exact yI ds (by simpa [PyData.canLay0] using h)
 | .dict _,h=>by simp [PyData.canLay0] at h
theorem yI:∀ds:List PyData,PyData.canLayAll0 ds=true->PyData.eqvAll ds ds=true
 | [],_=>rfl
 | d::ds,h=>by
   simp only [PyData.canLayAll0,Bool.and_eq_true] at h;simp only [PyData.eqvAll,Bool.and_eq_true];exact ⟨Jl d h.1,yI ds h.2⟩
end
theorem TV {d:PyData} (h:SeqAt.shaped d=true):PyData.eqv d d=true:=by
 unfold SeqAt.shaped at h;rw [Bool.and_eq_true] at h;exact Jl d h.1
def isLoad:Rw->Bool
 | .load _ _=>true
 | _=>false
def apart (r q:Rw):Prop:=Jz r≠Jz q\/(isLoad r=true/\isLoad q=true)
end Prf
set_option Elab.async false
set_option linter.all false
set_option maxRecDepth 100000
set_option maxHeartbeats 4000000
namespace L2
open PySem
section
variable {K:PySem.W.Frag} {a D:Addr} {xs:List V} {te:TE} {Q:VK} {rest:St} {H1:Hp}
end
end L2
set_option Elab.async false
set_option linter.all false
set_option maxRecDepth 100000
set_option maxHeartbeats 1000000
namespace L2
open PySem PySem.Spec PyProof.Rows PySem.W
section
variable {P:Program} {w:World} {H:Hp} {h h':Heap} {p:Addr} {ps:Array Value}
theorem Un.YX {fs ex:List Addr} {more:Array Value} {c f:Addr} {o1 o2:HO} (hp:H p=some (.u6 ps)) (k:∀b u,b≠p->h.get? b=some u->h'.get? b=some u) (hn:∃u,h'.get? p=some u) (hc:H c=none) (hf:H f=none) (sc:h.objs.size<=c) (sf:h.objs.size<=f):
 Un fs ex H (upd (upd (upd H p (.u6 (ps++more))) c o1) f o2) h h':=by
 have np:∀b,H b=none->b≠p:=fun b n z=>by rw [z,hp] at n;cases n
 have at_:∀b u,H b=some u->b≠p->(upd (upd (upd H p (.u6 (ps++more))) c o1) f o2) b=some u:=fun b u e n=>by
  rw [aD (aA e hf),aD (aA e hc),aD n];exact e
 have lt:∀b u,h.get? b=some u->b≠c/\b≠f:=fun b u e=>⟨Nat.ne_of_lt (Nat.lt_of_lt_of_le (Heap.lt_size e) sc),Nat.ne_of_lt (Nat.lt_of_lt_of_le (Heap.lt_size e) sf)⟩;refine ⟨fun b u q n _ _=>k b u (np b n) q,fun b u q n _ _=>⟨u.slots,k b u (np b n) q⟩,fun b u q n _=> ?_,fun b u q _=> ?_,fun b xs q=>at_ b _ q fun z=> ?_,fun b u xs q=>at_ b _ q fun z=> ?_,fun b qs q=> ?_⟩
 ·rw [aD (lt b u q).2,aD (lt b u q).1,aD (np b n)];exact n
 ·by_cases z:b=p
  ·rw [z];exact hn
  ·exact ⟨u,k b u z q⟩
 ·rw [z,hp] at q;cases q
 ·rw [z,hp] at q;cases q
 ·by_cases z:b=p
  ·subst z
   rw [hp] at q;cases q;exact ⟨more,by rw [aD (aA hp hf),aD (aA hp hc),ak]⟩
  ·exact ⟨#[],by rw [at_ b _ q z];simp⟩
theorem nY.YX {more:Array Value} {c f:Addr} {o1 o2:HO} (ok:nY P w H h) (hp:H p=some (.u6 ps)) (k:∀b u,b≠p->h.get? b=some u->h'.get? b=some u) (new:h'.get? p=some (tabObj (ps++more))) (hc:H c=none) (hf:H f=none) (ncf:c≠f)
 (n1:dG P w (upd (upd (upd H p (.u6 (ps++more))) c o1) f o2) h' c o1) (n2:dG P w (upd (upd (upd H p (.u6 (ps++more))) c o1) f o2) h' f o2):nY P w (upd (upd (upd H p (.u6 (ps++more))) c o1) f o2) h':=fun b u q=>by
 by_cases hbf:b=f
 ·subst hbf;rw [ak] at q;cases q;exact n2
 rw [aD hbf] at q
 by_cases hbc:b=c
 ·subst hbc;rw [ak] at q;cases q;exact n1
 rw [aD hbc] at q
 by_cases hb:b=p
 ·subst hb;rw [ak] at q;cases q;exact new
 ·rw [aD hb] at q
  have at_:∀d u,H d=some u->d≠p->(upd (upd (upd H p (.u6 (ps++more))) c o1) f o2) d=some u:=fun d u e n=>by
   rw [aD (aA e hf),aD (aA e hc),aD n];exact e
  refine (ok b u q).stay (fun d v hd r=>k d v ?_ r) (fun d r=>at_ d _ r fun z=> ?_) fun d xs r=>at_ d _ r fun z=> ?_
  ·rcases hd with rfl|hd
   ·exact hb
   ·intro z;rw [z,hp] at hd;cases hd
  ·rw [z,hp] at r;cases r
  ·rw [z,hp] at r;cases r
end
def Bm (mg:Str->Option Value) (h:Heap):Prop:=∃bm ob,mg "__builtins__" = some (.ref bm)/\bm≠builtinsNs/\h.get? bm=some ob/\ob.cls = .type "module" /\ ob.dict=some builtinsNs/\ob.data = .plain
abbrev CdO (c:Addr) (qual:Str):HO:= .ext fun h=>h.CodeRec (.ref c) qual
abbrev FnO (f:Addr) (o:Obj):HO:= .ext fun h=>h.get? f=some o
def aaW (H:Hp) (p:Addr) (pos:Pos) (qual:Str):Prop:=H p=some (.u6 #[]) \/ ∃c,H p=some (.u6 #[rawInt pos.line,rawInt pos.col,.ref c])/\H c=some (CdO c qual)
section
variable {X:Cx}
theorem adp {P:Program} {w:World} {H:Hp} {h:Heap} {c:Addr} {qual:Str} (r:h.CodeRec (.ref c) qual):dG P w H h c (CdO c qual):=by
 obtain ⟨c',o,vs,t,e,g,d⟩:=id r;cases e;exact ⟨r,⟨o,g⟩,fun h1 h2 ⟨c2,o2,vs2,t2,e2,g2,d2⟩ kp=>by cases e2;exact ⟨_,o2,vs2,t2,rfl,kp o2 g2,d2⟩⟩
theorem Yq {P:Program} {w:World} {H:Hp} {h:Heap} {f:Addr} {o:Obj} (e:h.get? f=some o):dG P w H h f (FnO f o):=⟨e,⟨o,e⟩,fun h1 h2 e1 kp=>kp o e1⟩
end
end L2
set_option Elab.async false
set_option linter.all false
set_option maxRecDepth 100000
set_option maxHeartbeats 1000000
namespace L2
open PySem PySem.Spec PyProof.Rows PySem.W
section
variable {X:Cx} {k:Nat} {N ps:List Str} {qual:Str} {params:Arguments} {body:Expr} {scope:Scope} {sp:List V->Hp->VK->Prop} {pm:Value} {f:Addr}
end
section
variable {X:Cx} {pins:List (Addr×Obj)} {σ:St} {H:Hp} {q l I S:Addr} {xs:List V}
end
section
variable {X:Cx} {a:Expr} {ta:TA} {tk:TE} {p pos kp aq6:Pos} {k:Nat} {N ps:List Str} {qual:Str} {params:Arguments} {body:Expr} {scope:Scope} {sp:List V->Hp->VK->Prop} {pm:Value}
end
end L2
set_option Elab.async false
set_option linter.all false
set_option maxRecDepth 100000
set_option maxHeartbeats 1000000
namespace L2
open PySem PySem.Spec PyProof.Rows PySem.W
structure Qm (K:PySem.W.Frag) (x qual:Str) (st:Stmt) (p:Addr) (f:Addr) (fd:FuncData):Prop where
 ex:∃(oc:Value) (od:Option Addr) (kV doc pm:Value) (an:Option Addr) (c:Addr) (ct:Value) (osl:Array (Option Value)),
  fd=PySem.W.fnOf x qual (aN st) (aK st) (ao st) .none kV doc pm an (.ref c) ct/\K.lookup f=some ⟨oc,od,.func fd,osl⟩/\PySem.W.codeIn K (.ref c) qual=true/\codeHdIn K c p=true
 kp:PySem.W.keepIn K (.ref f)=true
section
variable {P:Program} {w:World} {K:PySem.W.Frag} {mg:Str->Option Value} {base:Heap}
theorem Qm.fun {x qual:Str} {st:Stmt} {p f:Addr} {fd:FuncData} (F:Qm K x qual st p f fd):jY K x qual st f fd:=by
 obtain ⟨oc,od,kV,doc,pm,an,c,ct,osl,e,l,cd,_⟩:=F.ex;exact ⟨⟨oc,od,kV,doc,pm,an,.ref c,ct,osl,e,l,cd⟩,F.kp⟩
theorem Qm.ok {x qual:Str} {st:Stmt} {p f:Addr} {fd:FuncData} {N ps:List Str} {k:Nat} {sp:Sp} (F:Qm K x qual st p f fd) (S:bw N ps (ao st)) (len:∀vs H Q E,sp vs H Q E->vs.length=ps.length)
 (hbody:∀(c:Addr) (A:Around) (outer:List Env) (s:Shared) (H:Hp) (vs:List V) (Q:VK) (E:XK),codeHdIn K c p=true->dZ k (A.deeper (envOfC qual (ao st) s.heap.objs.size f (.ref c)))->sp vs H Q E ->
   ∃t,HJ (qO j4 P w K mg base N qual (ao st) f (.ref c) A outer s H E).Qq (aK st) t/\t {nx:=fun _ H'=>Q .non H',rt:=Q} (start N vs) H):bV P w K mg base j4 (k+1) f fd ps sp:=by
 obtain ⟨oc,od,kV,doc,pm,an,c,ct,osl,rfl,lk,hcd,hh⟩:=F.ex;refine M5 lk hcd S len fun A outer s H vs Q E hr hsp=> ?_;obtain ⟨t,h,q⟩:=hbody c A outer s H vs Q E hh hr hsp;exact ⟨t,h.Qq,q⟩
theorem W6 {x qual:Str} {st:Stmt} {p f c:Addr} {oc:Value} {od an:Option Addr} {osl:Array (Option Value)} {kV doc pm ct:Value} (l:K.lookup f=some ⟨oc,od,.func (PySem.W.fnOf x qual (aN st) (aK st) (ao st) .none kV doc pm an (.ref c) ct),osl⟩)
 (cd:PySem.W.codeIn K (.ref c) qual=true) (k:PySem.W.keepIn K (.ref f)=true) (h:codeHdIn K c p=true):Qm K x qual st p f (PySem.W.fnOf x qual (aN st) (aK st) (ao st) .none kV doc pm an (.ref c) ct):=⟨⟨oc,od,kV,doc,pm,an,c,ct,osl,rfl,l,cd,h⟩,k⟩
end
def UJ (p:Addr) (H:Hp):Prop:=∀b,H b=none\/(∃o xs,H b=some (.Df o (.lst xs)))\/(b=p/\H b=some (.u6 #[]))
theorem O_ {P:Program} {w:World} {K:PySem.W.Frag} {mg mb:Str->Option Value} {CX:Nv} {k:Nat} {fa a p:Addr} {fd:FuncData} {x:Str} {sp:Sp} {s₁:Shared} {vs:List Value} {ns:List Int}
 (KX:K.In s₁.heap) (hns:s₁.heap.Ns mainGlobals mg) (hb:s₁.heap.Ns builtinsNs mb) (hbb:∀x:Str,x ≠ "__name__" -> mb x=bootBuiltins x) (hlim:s₁.heap.NoLimit) (hbm:Bm mg s₁.heap) (hg:s₁.gens = #[])
 (hp:s₁.heap.get? p=some (tabObj #[])) (hc:∃c,codeHdIn K c p=true)
 (ha:s₁.heap.get? a=some {cls:= .type "list",data:= .seq vs.toArray}) (hi:IntsAre vs ns) (hl:ns.length<=sizeLine) (hr:dZ k callerA) (hKp:K.lookup p=none)
 (F:∀base:Heap,K.In base->base.Ns mainGlobals mg->Bm mg base->bV P w K mg base CX k fa fd [x] sp) (hbind:∀(s:Shared) (u:Value),BindsTo s fd ⟨[u],[]⟩ [(x,u)])
 (hsp:∀H:Hp,UJ p H->bL K H a (ns.map V.int)->H p=some (.u6 #[])->sp [.ref a] H (fun v _=>v = .bl true) fun _ _ _=>False)
 (hCX:∀H e s',CX [] H s₁ (fun _ _ _=>False) e s'->False):
 codeAny (model P w) callerA (.call (.ref fa) ⟨[.ref a],[]⟩) (fun r s'=>r = .ok (.ret (.bool true))/\OldK s₁.heap s'.heap/\s'.os=s₁.os/\AllBare s'.gens) s₁:=by
 have rv:=DQ hi;have lenV:=hi.length;have npa:p≠a:=fun z=>by rw [z,ha] at hp;cases hp
 obtain ⟨c,hc⟩:=hc;have CT:isCodeTable s₁.heap p:=((codeHd_of_K KX hc).tab hp).isCodeTable
 have core:∀H:Hp,UJ p H->bL K H a (ns.map V.int)->H p=some (.u6 #[])->nY P w H s₁.heap->(∀b,H b≠none->b=a\/b=p)->(H a≠none->K.lookup a=none) ->
  codeAny (model P w) callerA (.call (.ref fa) ⟨[.ref a],[]⟩) (fun r s'=>r = .ok (.ret (.bool true))/\OldK s₁.heap s'.heap/\s'.os=s₁.os/\AllBare s'.gens) s₁:=by
  intro H hO hS hHp hok hA hK;have uc:∀{b:Addr} {o:Obj},s₁.heap.get? b=some o->H b=none->(vp s₁.heap H).get? b=some o:=fun e n=>Jf e n
  have noO:∀{b:Addr} {o:Obj},s₁.heap.get? b=some o->(∀vs n,o.data ≠ .seq vs n)->(∀vs,o.data ≠ .fields vs)->H b=none:=fun {b o} e d1 d2=>by
   cases q:H b with
   | none=>rfl
   | some u=>
     rcases hA b (by rw [q];simp) with e'|e'
     ·subst e'
      rw [ha] at e;cases e;exact absurd rfl (d1 _ _)
     ·subst e'
      rw [hp] at e;cases e;exact absurd rfl (d2 _)
  have SM:∀{b:Addr} {o:Obj} {es:Array DictEntry} {ep:Nat},s₁.heap.get? b=some o->o.data = .dict es ep->H b=none:=fun {b o es ep} e d=>noO e (fun _ _ z=>by rw [d] at z;cases z) (fun _ z=>by rw [d] at z;cases z);have Wr:∀{b:Addr} {m:Str->Option Value},s₁.heap.Ns b m->(vp s₁.heap H).Ns b m:=fun {b m} ⟨o,es,ep,e,d,r⟩=>⟨o,es,ep,uc e (SM e d),d,r⟩
  have hKb:K.In (vp s₁.heap H):=fun b o e=>uc (KX b o e) (by
   cases q:H b with
   | none=>rfl
   | some u=>
     rcases hA b (by rw [q];simp) with e'|e'
     ·subst e'
      rw [hK (by rw [q];simp)] at e;cases e
     ·subst e'
      rw [hKp] at e;cases e)
  have hM:Mod K mg (vp s₁.heap H):=⟨hKb,Wr hns,⟨mb,Wr hb,hbb⟩,let ⟨mc,h1,h2⟩:=hlim;⟨mc,Wr h1,h2⟩⟩
  have hBm:Bm mg (vp s₁.heap H):=by
   obtain ⟨bm,ob,b1,b2,b3,b4,b5,b6⟩:=hbm;exact ⟨bm,ob,b1,b2,uc b3 (noO b3 (fun _ _ z=>by rw [b6] at z;cases z) (fun _ z=>by rw [b6] at z;cases z)),b4,b5,b6⟩
  have e0:xG P w K mg (vp s₁.heap H) callerA [] s₁ H:=⟨rfl,hM,fun b o e=>Mt e,Nat.le_of_eq (Ek _ _),trivial,fun b hb=>absurd (show b∈([]:List Addr) from hb) (by simp),hok,.of_eq hg⟩;refine codeAny_mono ((F _ hKb (Wr hns) hBm).run callerA [] s₁ H ⟨[.ref a],[]⟩ [.ref a] [.ref a] _ _ hr e0 (hbind s₁ (.ref a)) (.cons rfl .nil) (hsp H hO hS hHp)) fun r s' h=> ?_;cases r with
  | error e=>exact (hCX H e s' h).elim
  | ok fl=>
    cases fl with
    | next=>exact False.elim h
    | brk=>exact False.elim h
    | cont=>exact False.elim h
    | ret u=>
      obtain ⟨v,H',os,bare,un,hok',r',q⟩:=h;have q':v = .bl true:=q;subst q';obtain rfl:u=Value.bool true:=r'
      have each:∀b o,s₁.heap.get? b=some o->s'.heap.get? b=some o\/(b=p /\ ∃more,s'.heap.get? b=some (tabObj (#[]++more))):=fun b o e=>by
       cases q:H b with
       | none=>exact .inl (un.keep b o e q (by intro z;exact absurd (show b∈([]:List Addr) from z) (by simp)) (by simp))
       | some u=>
         rcases hO b with z|⟨ob,xs,z⟩|⟨z1,z⟩
         ·rw [q] at z;cases z
         ·have z2:=un.qM b ob _ z
          obtain ⟨e1,_⟩:=hok b _ z;obtain ⟨e2,_⟩:=hok' b _ z2;rw [e] at e1;cases e1;exact .inl e2
         ·obtain ⟨more,z2⟩:=un.u5 b _ z
          exact .inr ⟨z1,more,hok' b _ z2⟩
      refine ⟨rfl,⟨fun b o e=> ?_,fun b o e=> ?_⟩,os,bare⟩
      ·rcases each b o e with z|⟨rfl,more,z⟩
       ·exact .inl z
       ·rw [hp] at e
        cases e;exact .inr (.inl ⟨CT,rfl, #[],more,rfl,z⟩)
      ·rcases each b o e with z|⟨rfl,more,z⟩
       ·exact ⟨_,z⟩
       ·exact ⟨_,z⟩
 cases hk:K.lookup a with
 | some o=>
   have e:=KX a o hk;rw [ha] at e;cases e;refine core (fun b=>if b=p then some (.u6 #[]) else none) (fun b=> ?_) (.inr ⟨_,vs.toArray,_,hk,rfl,rfl,rfl,by rw [List.size_toArray,lenV];exact hl,by simpa using rv⟩) (if_pos rfl) (fun b u z=> ?_) (fun b z=> ?_) fun z=>absurd (if_neg (Ne.symm npa)) z
   ·by_cases hb:b=p
    ·exact .inr (.inr ⟨hb,if_pos hb⟩)
    ·exact .inl (if_neg hb)
   ·by_cases hb:b=p
    ·have z':=(if_pos hb).symm.trans z
     cases z';subst hb;exact hp
    ·have z':=(if_neg hb).symm.trans z
     cases z'
   ·by_cases hb:b=p
    ·exact .inr hb
    ·exact absurd (if_neg hb) z
 | none=>
   refine core (fun b=>if b=p then some (.u6 #[]) else if b=a then some (.Df {cls:= .type "list",data:= .seq vs.toArray} (.lst (ns.map V.int))) else none) (fun b=> ?_) (.inl (.inr ⟨{cls:= .type "list",data:= .seq vs.toArray},(if_neg (Ne.symm npa)).trans (if_pos rfl)⟩)) (if_pos rfl) (fun b u z=> ?_) (fun b z=> ?_) fun _=>hk
   ·by_cases hb:b=p
    ·exact .inr (.inr ⟨hb,if_pos hb⟩)
    ·by_cases hb2:b=a
     ·exact .inr (.inl ⟨_,_,(if_neg hb).trans (if_pos hb2)⟩)
     ·exact .inl ((if_neg hb).trans (if_neg hb2))
   ·by_cases hb:b=p
    ·have z':=(if_pos hb).symm.trans z
     cases z';subst hb;exact hp
    ·have z:=(if_neg hb).symm.trans z
     by_cases hb2:b=a
     ·have z':=(if_pos hb2).symm.trans z
      cases z';subst hb2;exact ⟨ha,by rw [List.length_map];exact hl,vs,_,rv,ha⟩
     ·have z':=(if_neg hb2).symm.trans z
      cases z'
   ·by_cases hb:b=p
    ·exact .inr hb
    ·by_cases hb2:b=a
     ·exact .inl hb2
     ·exact absurd ((if_neg hb).trans (if_neg hb2)) z
theorem QL {l:PySem.W.OpenLaw} {n k:Nat} {q:Program} {loose:List Str} {XP:(Str->Option Value)->Heap->Prop} {YP:World->Heap->Prop} {d:DefRec} {K:Params->PySem.W.Frag} {CX:World->Nv} {sp:World->Sp} {x:Str} {p:Addr}
 (hn:l.most=some n) (hn2:n<=sizeLine) (hdf:d.params.defaults=[]) (hr:dZ k callerA)
 (hY:∀(w:World) (h:Heap),YP w h->(K w.params).In h) (hT:∀(w:World) (h:Heap),YP w h->h.get? p=some (tabObj #[]))
 (F:∀(w:World) (mg:Str->Option Value) (fa:Addr) (h:Heap),(K w.params).In h->h.Ns mainGlobals mg->mg d.name=some (.ref fa) ->
   ((K w.params).lookup p=none /\ ∃c,codeHdIn (K w.params) c p=true) /\ ∃fd:FuncData,(∀(s:Shared) (u:Value),BindsTo s fd ⟨[u],[]⟩ [(x,u)]) /\
     ∀base:Heap,(K w.params).In base->base.Ns mainGlobals mg->Bm mg base->bV l.prog w (K w.params) mg base (CX w) k fa fd [x] (sp w))
 (hsp:∀(w:World) (H:Hp) (a:Addr) (ns:List Int),ns.length<=n->UJ p H->bL (K w.params) H a (ns.map V.int)->H p=some (.u6 #[])->sp w [.ref a] H (fun v _=>v = .bl true) fun _ _ _=>False)
 (hCX:∀(w:World) (H:Hp) (s:Shared) (e:Value) (s':Shared),CX w [] H s (fun _ _ _=>False) e s'->False):
 PySem.W.WalkO q loose XP YP l.row.toRowW d [] (fun f vs=>PySem.call f vs):=by
 refine Att.zu hn hdf fun w s₀ s₁ mg mb fa o pm cd doc a vs ns G Y ho hd hcd hmg hobj hints hlen hg=> ?_;have KX:=hY w _ Y;obtain ⟨⟨kp,hc⟩,fd,hb,hF⟩:=F w mg fa _ KX G.T.g hmg;exact O_ KX G.T.g G.T.b G.T.builtins G.T.nolimit G.T.bmain hg (hT w _ Y) hc hobj hints (Nat.le_trans hlen hn2) hr kp hF hb (fun H hO hS hH=>hsp w H a ns hlen hO hS hH) fun H e s'=>hCX w H s₁ e s'
end L2
set_option Elab.async false
set_option linter.all false
set_option maxRecDepth 100000
set_option maxHeartbeats 1000000
namespace L2
open PySem PySem.Spec PyProof.Rows
def ab7 (K:PySem.W.Frag) (neg:Bool):R2:=fun x y H Q=>∃(p q:Addr) (vs:List V),x = .ref p/\y = .ref q/\bL K H p vs/\bL K H q []/\Q (.bl (if neg then !vs.isEmpty else vs.isEmpty)) H
section
variable {X:Cx} {K:PySem.W.Frag}
theorem wz {us:List Value} (r:Vals [] us):us=[]:=by cases r;rfl
theorem RW (hK:X.K=K) (hu:X.A.units+64<cLine):rB X (compareOp .NotEq) (ab7 K true):=by
 subst hK;intro pins s σ H x y v u Q I rx ry h;obtain ⟨p,q,vs,rfl,rfl,hp,hq,k⟩:=h;cases rx;cases ry;obtain ⟨its,r,pl,_⟩:=I.list hp;obtain ⟨its2,r2,Va,_⟩:=I.list hq;have e2:=wz r2;subst e2;have hl:=r.length;have hu':X.A.units<cLine:=by have:=yX hu;exact Nat.lt_of_le_of_lt (Nat.le_add_right _ 64) this
 cases vs with
 | nil=>
   have e1:=wz r;subst e1;exact SeqAt.RcNeAt.lists (e:=fun _=>true) pl.isList Va.isList rfl hu' (fun j h1=>absurd h1 (Nat.not_lt_zero j)) X.prog X.w X.xe _ ⟨.bl false,H,I,rfl,k⟩
 | cons a vs=>
   refine SeqAt.RcNeAt.lists_lengths pl.isList Va.isList ?_ hu' X.prog X.w X.xe _ ⟨.bl true,H,I,rfl,k⟩;cases its with
   | nil=>cases hl
   | cons b l=>rfl
theorem RZ (hK:X.K=K) (hu:X.A.units+64<cLine):rB X (compareOp .Eq) (ab7 K false):=by
 subst hK;intro pins s σ H x y v u Q I rx ry h;obtain ⟨p,q,vs,rfl,rfl,hp,hq,k⟩:=h;cases rx;cases ry;obtain ⟨its,r,pl,_⟩:=I.list hp;obtain ⟨its2,r2,Va,_⟩:=I.list hq;have e2:=wz r2;subst e2;have hl:=r.length;have hu':X.A.units<cLine:=by have:=yX hu;exact Nat.lt_of_le_of_lt (Nat.le_add_right _ 64) this
 cases vs with
 | nil=>
   have e1:=wz r;subst e1;exact SeqAt.RcAt.lists (e:=fun _=>true) pl.isList Va.isList rfl hu' (fun j h1=>absurd h1 (Nat.not_lt_zero j)) X.prog X.w X.xe _ ⟨.bl true,H,I,rfl,k⟩
 | cons a vs=>
   refine SeqAt.RcAt.lists_lengths pl.isList Va.isList ?_ hu' X.prog X.w X.xe _ ⟨.bl false,H,I,rfl,k⟩;cases its with
   | nil=>cases hl
   | cons b l=>rfl
end
end L2
set_option Elab.async false
set_option linter.all false
set_option maxRecDepth 100000
set_option maxHeartbeats 1000000
namespace L2
open PySem PySem.Spec PyProof.Rows PySem.W
abbrev ug (o:Obj):HO:= .Df o (.ext fun _=>True)
def hide (H:Hp) (cs:List Addr):Hp:=fun b=>if b∈cs then none else H b
def U_ (H H':Hp) (cs:List Addr):Hp:=fun b=>if b∈cs then H b else H' b
theorem je {H:Hp} {cs:List Addr} {b:Addr} (h:b∈cs):hide H cs b=none:=if_pos h
theorem cu {H:Hp} {cs:List Addr} {b:Addr} (h:b∉cs):hide H cs b=H b:=if_neg h
theorem FQ {H H':Hp} {cs:List Addr} {b:Addr} (h:b∈cs):U_ H H' cs b=H b:=if_pos h
theorem nZ {H H':Hp} {cs:List Addr} {b:Addr} (h:b∉cs):U_ H H' cs b=H' b:=if_neg h
def JM (H:Hp) (f:Addr) (qual:Str) (params:Arguments) (body:Expr) (scope:Scope) (pm:Value) (cl:List (Str×Addr)):Prop:=∃c ctv,H f=some (FnO f (kla_obj "<lambda>" qual params body scope cl pm c ctv))/\H c=some (CdO c qual)
structure xH (H:Hp) (cl:List (Str×Addr)) (xs:List Str) (vs:List V):Prop where
 all:∀c∈cl.map (·.2),∃o q,H c=some (ug o)/\o.data = .cell q
 val:∀(j:Nat) (x:Str) (v:V),xs[j]? = some x->vs[j]? = some v -> ∃c o u,cl.lookup x=some c/\H c=some (ug o)/\o.data = .cell (some u)/\RelV v u
 inj:∀x y c,cl.lookup x=some c->cl.lookup y=some c->x=y
theorem Gq {cl:List (Str×Addr)} {x:Str} {c:Addr} (h:cl.lookup x=some c):c∈cl.map (·.2):=List.mem_map.mpr ⟨(x,c),PySem.mem_of_lookup h,rfl⟩
theorem xH.keep {H H':Hp} {cl:List (Str×Addr)} {xs:List Str} {vs:List V} (C:xH H cl xs vs) (k:∀b o u,H b=some (.Df o u)->H' b=some (.Df o u)):xH H' cl xs vs:=
 ⟨fun c hc=>let ⟨o,q,a,b⟩:=C.all c hc;⟨o,q,k _ _ _ a,b⟩,fun j x v h1 h2=>let ⟨c,o,u,a,b,d⟩:=C.val j x v h1 h2;⟨c,o,u,a,k _ _ _ b,d⟩,C.inj⟩
theorem BX {P:Program} {w:World} {H:Hp} {h:Heap} {cs:List Addr} (ok:nY P w H h) (hc:∀c∈cs,∃o,H c=some (ug o)):nY P w (hide H cs) h:=fun b u q=>by
 have e:∀{d:Addr} {x:HO},H d=some x->(∀o,x≠ug o)->hide H cs d=some x:=fun {d x} e n=>by
  rw [cu]
  ·exact e
  ·intro z
   obtain ⟨o,r⟩:=hc d z;rw [e] at r;exact n o (Option.some.inj r)
 have hb:b∉cs:=fun z=>by rw [je z] at q;cases q
 rw [cu hb] at q;exact (ok b u q).stay (fun _ _ _ z=>z) (fun d r=>e r (by intro o z;cases z)) fun d xs r=>e r (by intro o z;cases z)
theorem aaJ {P:Program} {w:World} {H:Hp} {h:Heap} {c:Addr} {o:Obj} (e:h.get? c=some o):dG P w H h c (ug o):=⟨e,trivial,⟨o,e⟩,fun _ _ _ _=>trivial⟩
theorem M4 {P:Program} {w:World} {H H':Hp} {h:Heap} {cs:List Addr} (ok:nY P w H' h) (hn:∀c∈cs,H' c=none) (hc:∀c∈cs,∃o,H c=some (ug o)/\h.get? c=some o):nY P w (U_ H H' cs) h:=fun b u q=>by
 by_cases hb:b∈cs
 ·obtain ⟨o,r,g⟩:=hc b hb
  rw [FQ hb,r] at q;cases q;exact aaJ g
 ·rw [nZ hb] at q
  have e:∀{d:Addr} {x:HO},H' d=some x->U_ H H' cs d=some x:=fun {d x} e=>by rw [nZ fun z=>by rw [hn d z] at e;cases e];exact e
  exact (ok b u q).stay (fun _ _ _ z=>z) (fun d r=>e r) fun d xs r=>e r
structure UW (ps xs:List Str) (scope:Scope):Prop where
 kind:scope.kind = .function
 co:scope.isCoroutine=false
 gen:scope.isGenerator=false
 BJ:∀y∈scope.names,y.2 ≠ .cell
 par:∀x∈ps,scope.names.lookup x=some .local
 cap:∀x∈xs,scope.names.lookup x=some .free
 only:∀y,scope.names.lookup y=some .free->y∈xs
 nd:(ps++xs).Nodup
def Ud (P:Program) (w:World) (K:PySem.W.Frag) (mg:Str->Option Value) (base:Heap) (N:List Str) (qual:Str) (scope:Scope) (f:Addr) (cd:Value) (cl:List (Str×Addr)) (A:Around) (outer:List Env) (s:Shared) (H:Hp):Cx where
 prog:=P
 w:=w
 K:=K
 mg:=mg
 base:=base
 A:=A.deeper (envX qual scope s.heap.objs.size f cd cl)
 N:=N
 s₀:=s
 H₀:=H
 env:=envX qual scope s.heap.objs.size f cd cl
 outer:=outer
 stack:=envX qual scope s.heap.objs.size f cd cl::outer
 ex:=[]
 calm:=true
 fn:=fun _=>false
 pn:=[]
 xe:=fun _ _=>False
structure Ls (P:Program) (w:World) (K:PySem.W.Frag) (mg:Str->Option Value) (base:Heap) (k:Nat) (ps xs:List Str) (qual:Str) (params:Arguments) (body:Expr) (scope:Scope) (sp:List V->Hp->VK->Prop):Prop where
 sc:UW ps xs scope
 bind:∀(pm ctv:Value) (c:Addr) (cl:List (Str×Addr)) (us:List Value),us.length=ps.length->bindArgs (kla_fn "<lambda>" qual params body scope cl pm (.ref c) ctv) ⟨us,[]⟩=pure (ps.zip us)
 run:∀(f c:Addr) (cl:List (Str×Addr)) (A:Around) (outer:List Env) (s:Shared) (H:Hp) (vs:List V) (Q:VK),dZ k (A.deeper (envX qual scope s.heap.objs.size f (.ref c) cl))->sp vs H Q ->
  ∃t,PE (Ud P w K mg base (ps++xs) qual scope f (.ref c) cl A outer s H) body t/\t (vs.map some) H Q
section
variable {P:Program} {w:World} {K:PySem.W.Frag} {mg:Str->Option Value} {base:Heap} {k:Nat} {ps xs:List Str} {qual:Str} {params:Arguments} {body:Expr} {scope:Scope} {sp:List V->Hp->VK->Prop} {pm:Value} {f:Addr} {cl:List (Str×Addr)} {Ju:List V}
theorem zip_get {ps:List Str} {us:List Value}:∀{i:Nat} {x:Str} {u:Value},ps.Nodup->ps.length=us.length->ps[i]? = some x->us[i]? = some u->(ps.zip us).reverse.lookup x=some u:=fun {i x u} nd hl h1 h2=>by
 have key:∀(l:List (Str×Value)),(l.map (·.1)).Nodup->(x,u)∈l->l.lookup x=some u:=fun l=>by
  induction l with
  | nil=>intro _ h;cases h
  | cons y l ih=>
    intro nd h;obtain ⟨a,b⟩:=y;rw [List.map_cons,List.nodup_cons] at nd;rw [List.lookup_cons];rcases List.mem_cons.mp h with e|h
    ·cases e;simp
    ·have:x≠a:=fun z=>nd.1 (by rw [←z];exact List.mem_map.mpr ⟨_,h,rfl⟩)
     rw [show (x==a)=false by simpa using this];exact ih nd.2 h
 refine key _ ?_ ?_
 ·rw [List.map_reverse,List.map_fst_zip (by omega)]
  exact (List.reverse_perm _).nodup_iff.mpr nd
 ·rw [List.mem_reverse]
  exact List.mem_of_getElem? (i:=i) (by rw [List.getElem?_zip_eq_some];exact ⟨h1,h2⟩)
theorem S_ {A:Around} {outer:List Env} {s:Shared} {H:Hp} {us:List Value} {vs:List V} {Q:VK} (L:Ls P w K mg base k ps xs qual params body scope sp) (hr:dZ (k+1) A) (e0:xG P w K mg base A outer s H) (F:JM H f qual params body scope pm cl) (C:xH H cl xs Ju)
 (hlen:vs.length=ps.length) (hcv:Ju.length=xs.length) (hfr:∀y,(scope.names.lookup y=some .free) -> ∃c,cl.lookup y=some c) (r:Vals vs us) (hsp:sp (vs++Ju) (hide H (cl.map (·.2))) fun v H'=>(∀c∈cl.map (·.2),H' c=none)->Q v (U_ H H' (cl.map (·.2)))):
 codeAny (model P w) A (.call (.ref f) ⟨us,[]⟩) (CR j4 outer P w H s Q E0) s:=by
 obtain ⟨c,ctv,hf,hc⟩:=F;have S:=L.sc;have lim:s.heap.NoLimit:=e0.mod.nolimit.keeps fun b o e=>(e0.bs b o e).1;have fo:s.heap.get? f=some (kla_obj "<lambda>" qual params body scope cl pm c ctv):=(e0.hok f _ hf).1;have cd:s.heap.CodeRec (.ref c) qual:=(e0.hok c _ hc).1;have hul:us.length=ps.length:=by rw [←r.length];exact hlen
 refine kla_callFunE hr.depth fo rfl S.co S.gen rfl cd ?_;refine wpAny_of_eq (L.bind pm ctv c cl us hul) ?_;refine wpAny_newFunctionEnv S.BJ (fun y hy=>S.par _ (List.of_mem_zip hy).1) (fun h1 hns hsb=> ?_) S.kind;have hk:∀b o,s.heap.get? b=some o->h1.get? b=some o:=fun b o e=>hsb.extBut b o (Nat.ne_of_lt (Heap.lt_size e)) (Heap.get?_push_of_some _ e);refine ⟨lim.keeps hk,kla_codeExpr ?_⟩;show wpAny (model P w) (A.deeper (envX qual scope s.heap.objs.size f (.ref c) cl)) (eval body (envX qual scope s.heap.objs.size f (.ref c) cl)) _ _ _;obtain ⟨t,ht,hq⟩:=L.run f c cl A outer s (hide H (cl.map (·.2))) (vs++Ju) _ (hr.deeper _) hsp
 have Xg:∀a∈cl.map (·.2),∃o q,H a=some (ug o)/\o.data = .cell q/\s.heap.get? a=some o:=fun a ha=>by
  obtain ⟨o,q,e1,e2⟩:=C.all a ha;exact ⟨o,q,e1,e2,(e0.hok a _ e1).1⟩
 have isC:∀x a,cl.lookup x=some a -> ∃v,h1.IsCell a v:=fun x a h=>by
  obtain ⟨o,q,_,e2,e3⟩:=Xg a (Gq h);exact ⟨q,o,hk _ _ e3,e2⟩
 have SM:∀b:Addr,b∉(Ud P w K mg base (ps++xs) qual scope f (.ref c) cl A outer s (hide H (cl.map (·.2)))).ex:=fun b z=>absurd (show b∈([]:List Addr) from z) (by simp)
 have hh0:∀{b:Addr},H b=none->hide H (cl.map (·.2)) b=none:=fun {b} e=>by
  by_cases z:b∈cl.map (·.2)
  ·exact je z
  ·rw [cu z];exact e
 have ndP:ps.Nodup:=S.nd.sublist (List.sublist_append_left _ _)
 have I:Inv (Ud P w K mg base (ps++xs) qual scope f (.ref c) cl A outer s (hide H (cl.map (·.2)))) [] ((vs++Ju).map some) (hide H (cl.map (·.2))) {s with heap:=h1,toks:=s.toks+(ps.zip us).length}:=by
  refine ⟨⟨e0.mod,S.kind,rfl,rfl,Nat.le_refl _,C.inj,fun y hy=> ?_,fun y c h=>(by cases h),fun _=>hr.hd,Around.frames_deeper e0.frames,.inr ⟨rfl,rfl⟩,fun b z=>absurd z (SM b),fun b o e=>⟨(e0.bs b o e).1,hh0 (e0.bs b o e).2⟩,e0.HF,fun b _ _=>SM b,fun b z=>absurd z (SM b),e0.pB,fun b hb=>hh0 (e0.K_ b hb)⟩,
   rfl,e0.bare,Un.kept hk,⟨_,hns,fun i y v h1' h2 h3=> ?_⟩,isC,hh0 (e0.hok.fresh (Nat.le_refl _)),fun y a h=>je (Gq h),fun p hp=>absurd (show p∈([]:List (Addr×Obj)) from hp) (by simp),(BX e0.hok fun a ha=>let ⟨o,_,e,_⟩:=Xg a ha;⟨o,e⟩).kept hk, ?_⟩
  ·have hy:scope.names.lookup y=some .cell\/scope.names.lookup y=some .free:=hy
   rcases hy with hy|hy
   ·exact absurd rfl (S.BJ _ (PySem.mem_of_lookup hy))
   ·exact hfr y hy
  ·have h1':(ps++xs)[i]? = some y:=h1'
   rw [List.getElem?_map] at h2
   by_cases hi:i<ps.length
   ·rw [List.getElem?_append_left hi] at h1'
    rw [List.getElem?_append_left (by omega)] at h2;obtain ⟨v',ev,e⟩:=Option.map_eq_some_iff.mp h2;cases e;obtain ⟨u,hu,rv⟩:=r.get ev;exact ⟨u,rv,.inl ⟨S.par y (List.mem_of_getElem? h1'),zip_get ndP (by omega) h1' hu⟩⟩
   ·rw [List.getElem?_append_right (by omega)] at h1'
    rw [List.getElem?_append_right (by omega),hlen] at h2;obtain ⟨v',ev,e⟩:=Option.map_eq_some_iff.mp h2;cases e;obtain ⟨a,o,u,e1,e2,e3,rv⟩:=C.val _ y _ h1' ev;exact ⟨u,rv,.inr ⟨.inr (S.cap y (List.mem_of_getElem? h1')),a,e1,o,hk _ _ ((e0.hok a _ e2).1),e3⟩⟩
  ·show ((vs++Ju).map some).length=(ps++xs).length
   rw [List.length_map,List.length_append,List.length_append,hlen,hcv]
 refine wpAny_mono (ht [] _ _ _ _ I hq) (fun u s' hs=> ?_) fun e s' hs=>hs.elim;obtain ⟨v,H',J,rv,q⟩:=hs;have un:Un (frs outer) [] (hide H (cl.map (·.2))) H' s.heap s'.heap:=J.base
 have nfr:∀a∈cl.map (·.2),a∉frs outer:=fun a ha z=>by
  obtain ⟨o,_,e,_⟩:=Xg a ha;rw [e0.K_ a z] at e;cases e
 have Ul:∀a∈cl.map (·.2),∃o,H a=some (ug o)/\s'.heap.get? a=some o/\H' a=none:=fun a ha=>by
  obtain ⟨o,q',e1,e2,e3⟩:=Xg a ha;exact ⟨o,e1,un.keep a o e3 (je ha) (nfr a ha) (by simp),un.free a o e3 (je ha) (by simp)⟩
 have pass:∀{b:Addr} {x:HO},H b=some x->(∀o,x≠ug o)->hide H (cl.map (·.2)) b=some x/\b∉cl.map (·.2):=fun {b x} e n=>by
  have nb:b∉cl.map (·.2):=fun z=>by
   obtain ⟨o,r,_⟩:=Ul b z;rw [e] at r;exact n o (Option.some.inj r)
  exact ⟨by rw [cu nb];exact e,nb⟩
 refine ⟨v,U_ H H' (cl.map (·.2)),J.os,J.bare,⟨fun b o e n hb hx=>un.keep b o e (hh0 n) hb hx,fun b o e n hb hx=>un.slot b o e (hh0 n) hb hx,fun b o e n hx=> ?_,un.there,fun b ys e=> ?_,fun b o u' e=> ?_,fun b qs e=> ?_⟩,M4 J.hok (fun a ha=>let ⟨_,_,_,z⟩:=Ul a ha;z) fun a ha=>let ⟨o,z1,z2,_⟩:=Ul a ha;⟨o,z1,z2⟩,rv,q fun a ha=>let ⟨_,_,_,z⟩:=Ul a ha;z⟩
 ·have nb:b∉cl.map (·.2):=fun z=>by
   obtain ⟨o',r,_⟩:=Ul b z;rw [n] at r;cases r
  rw [nZ nb];exact un.free b o e (hh0 n) hx
 ·obtain ⟨p1,p2⟩:=pass e (by intro o z;cases z)
  rw [nZ p2];exact un.tups b ys p1
 ·by_cases nb:b∈cl.map (·.2)
  ·rw [FQ nb];exact e
  ·rw [nZ nb]
   exact un.qM b o u' (by rw [cu nb];exact e)
 ·obtain ⟨p1,p2⟩:=pass e (by intro o z;cases z)
  obtain ⟨more,z⟩:=un.u5 b qs p1;exact ⟨more,by rw [nZ p2];exact z⟩
end
end L2
set_option Elab.async false
set_option linter.all false
set_option maxRecDepth 100000
set_option maxHeartbeats 1000000
namespace L2
open PySem PySem.Spec PyProof.Rows PySem.W
theorem Ck {env:Env}:∀(ns:List (Str×NameKind)) (acc:List (Str×Addr)) (q:Str×Addr),q∈fY env ns acc->q∈acc\/((q.1,NameKind.free)∈ns/\q.2=(env.cells.lookup q.1).getD 0)
 | [],acc,q,h=> .inl h
 | (n,k)::r,acc,q,h=>by
   unfold fY at h
   by_cases hk:(k==NameKind.free)=true
   ·rw [if_pos hk] at h
    have hk':k=NameKind.free:=by simpa using hk
    rcases Ck r _ q h with h|⟨h1,h2⟩
    ·rcases List.mem_cons.mp h with e|h
     ·subst e;subst hk'
      exact .inr ⟨List.mem_cons_self,rfl⟩
     ·exact .inl h
    ·exact .inr ⟨List.mem_cons_of_mem _ h1,h2⟩
   ·rw [if_neg hk] at h
    rcases Ck r _ q h with h|⟨h1,h2⟩
    ·exact .inl h
    ·exact .inr ⟨List.mem_cons_of_mem _ h1,h2⟩
section
variable {P:Program} {w:World} {H2 H':Hp} {h h':Heap} {cs fs:List Addr}
theorem LK (un:Un fs [] H2 H' h h') (ok:nY P w H2 h) (ok':nY P w H' h') (hc:∀c∈cs,∃o,H2 c=some (ug o)):Un fs [] (hide H2 cs) (hide H' cs) h h':=by
 have cel:∀b∈cs,∀o,h.get? b=some o->h'.get? b=some o:=fun b hb o e=>by
  obtain ⟨o',r⟩:=hc b hb;have e1:=(ok b _ r).1;rw [e] at e1;cases e1;exact (ok' b _ (un.qM b _ _ r)).1
 have out:∀{b:Addr} {x:HO},hide H2 cs b=some x->b∉cs/\H2 b=some x:=fun {b x} e=>by
  have nb:b∉cs:=fun z=>by rw [je z] at e;cases e
  exact ⟨nb,by rw [cu nb] at e;exact e⟩
 refine ⟨fun b o e n hb hx=> ?_,fun b o e n hb hx=> ?_,fun b o e n hx=> ?_,un.there,fun b ys e=> ?_,fun b o u e=> ?_,fun b qs e=> ?_⟩
 ·by_cases z:b∈cs
  ·exact cel b z o e
  ·exact un.keep b o e (by rw [cu z] at n;exact n) hb hx
 ·by_cases z:b∈cs
  ·exact ⟨o.slots,cel b z o e⟩
  ·exact un.slot b o e (by rw [cu z] at n;exact n) hb hx
 ·by_cases z:b∈cs
  ·exact je z
  ·rw [cu z] at n ⊢
   exact un.free b o e n hx
 ·obtain ⟨nb,e2⟩:=out e
  rw [cu nb];exact un.tups b ys e2
 ·obtain ⟨nb,e2⟩:=out e
  rw [cu nb];exact un.qM b o u e2
 ·obtain ⟨nb,e2⟩:=out e
  obtain ⟨more,z⟩:=un.u5 b qs e2;exact ⟨more,by rw [cu nb];exact z⟩
end
def yS (P:Program) (w:World) (K:PySem.W.Frag) (mg:Str->Option Value) (base:Heap) (k:Nat) (f:Addr) (vs:List V) (H:Hp) (Q:VK):Prop:=
 (∃o fd,H f=some (FnO f o)/\o.data = .func fd) /\ ∀(A:Around) (outer:List Env) (s:Shared) (us:List Value),dZ k A->xG P w K mg base A outer s H->Vals vs us->codeAny (model P w) A (.call (.ref f) ⟨us,[]⟩) (CR j4 outer P w H s Q E0) s
theorem Xi {P:Program} {w:World} {K:PySem.W.Frag} {mg:Str->Option Value} {base:Heap} {k:Nat} {ps xs:List Str} {qual:Str} {params:Arguments} {body:Expr} {scope:Scope} {sp:List V->Hp->VK->Prop} {pm:Value} {f:Addr} {cl:List (Str×Addr)} {Ju:List V} {H:Hp} {vs:List V} {Q:VK}
 (L:Ls P w K mg base k ps xs qual params body scope sp) (F:JM H f qual params body scope pm cl) (C:xH H cl xs Ju) (hlen:vs.length=ps.length) (hcv:Ju.length=xs.length) (hsp:sp (vs++Ju) (hide H (cl.map (·.2))) fun v H'=>(∀c∈cl.map (·.2),H' c=none)->Q v (U_ H H' (cl.map (·.2)))):yS P w K mg base (k+1) f vs H Q:=by
 refine ⟨?_,fun A outer s us hr e0 r=>S_ L hr e0 F C hlen hcv (fun y hy=> ?_) r hsp⟩
 ·obtain ⟨c,ctv,hf,_⟩:=F
  exact ⟨_,_,hf,rfl⟩
 ·obtain ⟨j,hj⟩:=List.getElem?_of_mem (L.sc.only y hy)
  have jl:=(List.getElem?_eq_some_iff.mp hj).1;obtain ⟨c,_,_,e,_⟩:=C.val j y _ hj (List.getElem?_eq_getElem (by omega));exact ⟨c,e⟩
def Zd (P:Program) (w:World) (K:PySem.W.Frag) (mg:Str->Option Value) (base:Heap) (k i:Nat) (t:TA):TE:=fun σ H Q=>∃f,σ[i]? = some (some (.ref f))/\t σ H fun vs H1=>yS P w K mg base k f vs H1 Q
section
variable {X:Cx} {k i:Nat} {x:Str} {e:Expr} {es:List Expr} {t:TA} {p pos:Pos}
theorem RV (hv:PE X (.Name x p) (Y0 i)) (hr:dZ k X.A) (ha:PA X (e::es) t)
 (he:starEach (e::es) X.env=(false,eval e X.env)::starEach es X.env:=by rfl) (hpl:(backTo pos (starEach es X.env)).any (·.1)=false:=by rfl):
 PE X (.Call (.Name x p) (e::es) [] pos) (Zd X.prog X.w X.K X.mg X.base k i t):=by
 intro pins s σ H Q I h;obtain ⟨f,hf,h⟩:=h;refine wpAny_Call_Name_kw (wpAny_mono (hv pins s σ H (fun v H1=>v = .ref f/\H1=H) I ⟨_,hf,rfl,rfl⟩) (fun u s0 hu=> ?_) fun _ _ z=>z);obtain ⟨v,H0,I0,rv,rfl,rfl⟩:=hu;obtain rfl:u=Value.ref f:=rv;rw [he];have hq:=ha pos pins s0 σ H0 _ I0 h;rw [he] at hq;refine callWith_of (P:=fun h=>∃o fd,h.get? f=some o/\o.data = .func fd) (by show ((false||(backTo pos (starEach es X.env)).any (·.1))||false)=false;rw [hpl];rfl) (fun h ⟨o,fd,g,d⟩=>⟨.frame,.inl rfl, ?_⟩) (Calls.evalArgs_plain (d9 hq fun us s1 ⟨vs,H1,I1,r,q⟩=> ?_))
 ·unfold keeperOf
  refine (Looks.ld (part:=none) g).andThen ?_;rw [d];exact .now
 ·obtain ⟨⟨o,fd,hfo,hd⟩,run⟩:=q
  refine ⟨⟨o,fd,(I1.hok f _ hfo).1,hd⟩, ?_⟩;refine wpAny_call (codeAny_mono (run X.A X.stack s1 us hr I1.env0 r) fun res s' hq=> ?_)
  match res,hq with
  | .error ev,hq=>exact (show False from hq).elim
  | .ok (.ret u),hq=>exact I1.after hq
end
def XR (p:Addr) (pos:Pos) (qual:Str) (params:Arguments) (body:Expr) (scope:Scope) (pm:Value) (cl:List (Str×Addr)):TE:=fun _ H Q=>aaW H p pos qual /\ ∀(f:Addr) (H':Hp),H f=none->JM H' f qual params body scope pm cl->aaW H' p pos qual->Kp p H H'->Q (.ref f) H'
section
variable {X:Cx}
theorem V9 {params:Arguments} {body:Expr} {scope:Scope} {pos:Pos} {c p:Addr} (BM:Bm X.mg X.base) (hcode:X.env.code = .ref c) (hcd:codeHdIn X.K c p=true) (hfree:∀y∈scope.names,y.2 = .free->X.env.kindOf y.1=some .cell\/X.env.kindOf y.1=some .free) (hg:X.env.globals=mainGlobals:=by rfl) (hdef:defaultsOf params X.env=([],[]):=by rfl):
 PE X (.Lambda params body scope pos) (XR p pos (X.env.qual ++ "<lambda>") params body scope ((X.mg "__name__").getD .none) (fY X.env scope.names [])):=by
 intro pins s σ H Q I h
 have hcl:closureFor scope X.env=pure (fY X.env scope.names []):=Cj fun y hy hf=>by
  obtain ⟨c,e⟩:=I.ok.has y.1 (hfree y hy hf);rw [e];rfl
 obtain ⟨lt,q⟩:=h;have C:CodeHd s.heap c p:=codeHd_of_K I.qK hcd;have hns:s.heap.Ns mainGlobals X.mg:=I.ok.mod.glob.keeps I.bk;obtain ⟨bm,ob,b1,b2,b3,b4,b5,b6⟩:=BM;have b3':=I.bk _ _ b3;have tr:∃ps,H p=some (.u6 ps):=by rcases lt with e|⟨_,e,_⟩<;>exact ⟨_,e⟩
 obtain ⟨ps0,hp0⟩:=tr;have hP0:s.heap.get? p=some (tabObj ps0):=(show dG X.prog X.w H s.heap p (.u6 ps0) from I.hok p _ hp0)
 have hgP:mainGlobals≠p:=fun z=>by
  obtain ⟨o,es,ep,e,hd,_⟩:=hns;rw [z,hP0] at e;cases e;cases hd
 have hbP:bm≠p:=fun z=>by rw [z,hP0] at b3';cases b3';cases b4
 have hbG:bm≠mainGlobals:=fun z=>by
  obtain ⟨o,es,ep,e,hd,_⟩:=hns;rw [z,e] at b3';cases b3';rw [hd] at b6;cases b6
 have hb:s.heap.BuiltinsAt X.mg p:=⟨bm,ob,b1,b2,hbG,hbP,b3',b4,b5,b6⟩;refine kla_eval hdef ?_;generalize fY X.env scope.names []=cl at *;rcases lt with hp|⟨c0,hp,hc0⟩
 ·have hP:s.heap.get? p=some (tabObj #[]):=(show dG X.prog X.w H s.heap p (.u6 #[]) from I.hok p _ hp)
  refine kla_makeFunction hcl hg hns hcode C hP True.intro rfl hgP hb fun c' ctv h' tk hx hge hlt hrec htb=> ?_;have hsz:s.heap.objs.size<=h'.objs.size:=Nat.le_trans hge (Nat.le_of_lt hlt);have nc:H c'=none:=I.hok.fresh hge;have nf:H h'.objs.size=none:=I.hok.fresh hsz;have ncf:c'≠h'.objs.size:=Nat.ne_of_lt hlt;have kp:∀b u,b≠p->s.heap.get? b=some u->(h'.push (kla_obj "<lambda>" (X.env.qual ++ "<lambda>") params body scope cl ((X.mg "__name__").getD .none) c' ctv)).get? b=some u:=fun b u n e=>Heap.get?_push_of_some _ (hx b u n e);have htb':=Heap.get?_push_of_some (kla_obj "<lambda>" (X.env.qual ++ "<lambda>") params body scope cl ((X.mg "__name__").getD .none) c' ctv) htb;have hrec':=hrec.push (kla_obj "<lambda>" (X.env.qual ++ "<lambda>") params body scope cl ((X.mg "__name__").getD .none) c' ctv);have fo:(h'.push (kla_obj "<lambda>" (X.env.qual ++ "<lambda>") params body scope cl ((X.mg "__name__").getD .none) c' ctv)).get? h'.objs.size=some (kla_obj "<lambda>" (X.env.qual ++ "<lambda>") params body scope cl ((X.mg "__name__").getD .none) c' ctv):=Heap.get?_push_size _ rfl
  have I':=I.un (t':=tk) (Un.YX (fs:=X.fs) (ex:=[]) (o1:=CdO c' (X.env.qual ++ "<lambda>")) (o2:=FnO h'.objs.size (kla_obj "<lambda>" (X.env.qual ++ "<lambda>") params body scope cl ((X.mg "__name__").getD .none) c' ctv)) hp kp ⟨_,htb'⟩ nc nf hge hsz)
   (nY.YX I.hok hp kp htb' nc nf ncf (adp hrec') (Yq fo))
  refine ⟨.ref h'.objs.size,_,I',rfl,q _ _ nf ⟨c',ctv,ak, ?_⟩ (.inr ⟨c', ?_, ?_⟩) fun b u e n=> ?_⟩
  ·rw [aD ncf,ak]
  ·have npc:p≠c':=aA hp nc
   have npf:p≠h'.objs.size:=aA hp nf;rw [aD npf,aD npc,ak];simp
  ·rw [aD ncf,ak]
  ·rw [aD (aA e nf),aD (aA e nc),aD n]
   exact e
 ·have hP:s.heap.get? p=some (tabObj #[rawInt pos.line,rawInt pos.col,.ref c0]):=(show dG X.prog X.w H s.heap p (.u6 _) from I.hok p _ hp)
  refine kla_makeFunctionHit hcl hg hns hcode C hP (cv:= .ref c0) trivial (by simp [codeAmong,rawInt]) hb fun ctv h' tk hk hsz=> ?_;have nf:H h'.objs.size=none:=I.hok.fresh hsz;have fo:(h'.push (kla_obj "<lambda>" (X.env.qual ++ "<lambda>") params body scope cl ((X.mg "__name__").getD .none) c0 ctv)).get? h'.objs.size=some (kla_obj "<lambda>" (X.env.qual ++ "<lambda>") params body scope cl ((X.mg "__name__").getD .none) c0 ctv):=Heap.get?_push_size _ rfl;have I':=I.laid (t':=tk) (o:=FnO h'.objs.size (kla_obj "<lambda>" (X.env.qual ++ "<lambda>") params body scope cl ((X.mg "__name__").getD .none) c0 ctv)) (fun b u e=>Heap.get?_push_of_some _ (hk b u e)) hsz (Yq fo);refine ⟨.ref h'.objs.size,_,I',rfl,q _ _ nf ⟨c0,ctv,ak, ?_⟩ (.inr ⟨c0, ?_, ?_⟩) fun b u e n=> ?_⟩
  ·rw [aD (aA hc0 nf)];exact hc0
  ·rw [aD (aA hp nf)];exact hp
  ·rw [aD (aA hc0 nf)];exact hc0
  ·rw [aD (aA e nf)];exact e
end
def Q7 (sp:Sp) (cl:List (Str×Addr)) (xs:List Str) (caps:List Nat) (E:St->XK) (t:TA):TE:=fun σ H Q=>t σ H fun vs H1=>∃Ju:List V,caps.map (fun i=>(σ[i]?).join)=Ju.map some /\
 ∀H2:Hp,hide H2 (cl.map (·.2))=H1->xH H2 cl xs Ju->sp vs H2 (fun v H3=>Q v (hide H3 (cl.map (·.2)))) fun c d H3=>E σ c d (hide H3 (cl.map (·.2)))
section
variable {X:Cx} {k:Nat} {x:Str} {ps:List Str} {sp:Sp} {e:Expr} {es:List Expr} {t:TA} {p pos:Pos} {E:St->XK} {scope:Scope} {xs:List Str} {caps:List Nat}
theorem Uk {pins:List (Addr×Obj)} {σ:St} {H:Hp} {s:Shared} {Ju:List V} (I:Inv X pins σ H s) (hfree:∀y∈scope.names,y.2 = .free->X.env.kindOf y.1=some .cell) (hxs:∀(j:Nat) (y:Str),xs[j]? = some y->(y,NameKind.free)∈scope.names) (hlen:xs.length=caps.length)
 (hcap:∀(j:Nat) (y:Str),xs[j]? = some y->X.N[caps.getD j 0]? = some y) (hcv:caps.map (fun i=>(σ[i]?).join)=Ju.map some):
 ∃H2:Hp,hide H2 ((fY X.env scope.names []).map (·.2))=H/\xH H2 (fY X.env scope.names []) xs Ju/\nY X.prog X.w H2 s.heap /\ ∀c∈(fY X.env scope.names []).map (·.2),∃y o,X.env.cells.lookup y=some c/\H2 c=some (ug o):=by
 have some':∀y∈scope.names,y.2 = .free->(X.env.cells.lookup y.1).isSome=true:=fun y hy hf=>by
  obtain ⟨c,e⟩:=I.ok.has y.1 (.inl (hfree y hy hf));rw [e];rfl
 have look:∀y c,(fY X.env scope.names []).lookup y=some c->X.env.cells.lookup y=some c:=fun y c h=>by
  rw [ig _ _ _ some'] at h;split at h
  ·exact h
  ·simp at h
 have snd:∀c∈(fY X.env scope.names []).map (·.2),∃y,X.env.cells.lookup y=some c:=fun c hc=>by
  obtain ⟨q,hq,rfl⟩:=List.mem_map.mp hc;rcases Ck _ _ q hq with h|⟨h1,h2⟩
  ·cases h
  ·obtain ⟨c',e⟩:=Option.isSome_iff_exists.mp (some' _ h1 rfl)
   have e:X.env.cells.lookup q.1=some c':=e;exact ⟨q.1,by rw [h2,e];rfl⟩
 have obj:∀c∈(fY X.env scope.names []).map (·.2),∃y o q,X.env.cells.lookup y=some c/\s.heap.get? c=some o/\o.data = .cell q/\H c=none:=fun c hc=>by
  obtain ⟨y,e⟩:=snd c hc;obtain ⟨v,o,ho,hd⟩:=I.cell y c e;exact ⟨y,o,v,e,ho,hd,I.jX y c e⟩
 generalize hcl:fY X.env scope.names []=cl at *
 have at_:∀c∈cl.map (·.2),∀o,s.heap.get? c=some o->(U_ (fun b=>(s.heap.get? b).map ug) H (cl.map (·.2))) c=some (ug o):=fun c hc o e=>by
  rw [FQ hc,e];rfl
 refine ⟨U_ (fun b=>(s.heap.get? b).map ug) H (cl.map (·.2)), ?_,⟨fun c hc=> ?_,fun j y v h1 h2=> ?_,fun y z c h1 h2=>I.ok.inj y z c (look y c h1) (look z c h2)⟩, ?_,fun c hc=> ?_⟩
 ·funext b
  by_cases z:b∈cl.map (·.2)
  ·rw [je z]
   obtain ⟨_,_,_,_,_,_,n⟩:=obj b z;exact n.symm
  ·rw [cu z,nZ z]
 ·obtain ⟨y,o,q,e,ho,hd,_⟩:=obj c hc
  exact ⟨o,q,at_ c hc o ho,hd⟩
 ·have hy:=hxs j y h1
  have jl:=(List.getElem?_eq_some_iff.mp h1).1
  have e1:(σ[caps.getD j 0]?).join=some v:=by
   have:=congrArg (fun l=>l[j]?) hcv;simp only [List.getElem?_map,h2,Option.map_some] at this
   have cj:caps[j]? = some (caps.getD j 0):=by
    rw [List.getD_eq_getElem?_getD];obtain ⟨n,hn⟩:∃n,caps[j]? = some n:=⟨_,List.getElem?_eq_getElem (by omega)⟩;rw [hn];rfl
   rw [cj] at this;exact Option.some.inj this
  have e2:σ[caps.getD j 0]? = some (some v):=by
   cases r:σ[caps.getD j 0]? with
   | none=>rw [r] at e1;cases e1
   | some a=>rw [r] at e1;exact congrArg Option.some e1
  have kx:=hfree _ hy rfl;obtain ⟨m,hn,hl'⟩:=I.loc;obtain ⟨u,r,l⟩:=hl' _ y v (hcap j y h1) e2 (.inr (.inl kx));rcases l with ⟨hk,_⟩|⟨_,c,hc,o,ho,hd⟩
  ·have kx:X.env.kindOf y=some .cell:=kx
   rw [hk] at kx;cases kx
  ·have hcl':cl.lookup y=some c:=by
    rw [←hcl,ig _ _ _ some',if_pos hy];exact hc
   exact ⟨c,o,u,hcl',at_ c (Gq hcl') o ho,hd,r⟩
 ·refine M4 I.hok (fun c hc=> ?_) fun c hc=> ?_
  ·obtain ⟨_,_,_,_,_,_,n⟩:=obj c hc
   exact n
  ·obtain ⟨y,o,q,e,ho,hd,_⟩:=obj c hc
   exact ⟨o,by show (s.heap.get? c).map ug=_;rw [ho];rfl,ho⟩
 ·obtain ⟨y,o,q,e,ho,hd,_⟩:=obj c hc
  exact ⟨y,o,e,at_ c hc o ho⟩
theorem RL (F:xr X.prog X.w X.K X.mg X.base k x ps sp) (hx:X.ex=[]) (R:Rz X E) (hr:dZ k X.A) (hg:Gl X x) (ha:PA X (e::es) t) (hown:∀y,X.fn y=true) (hfree:∀y∈scope.names,y.2 = .free->X.env.kindOf y.1=some .cell) (hxs:∀(j:Nat) (y:Str),xs[j]? = some y->(y,NameKind.free)∈scope.names) (hlen:xs.length=caps.length)
 (hcap:∀(j:Nat) (y:Str),xs[j]? = some y->X.N[caps.getD j 0]? = some y) (hd:(x==("__debug__" :Str))=false:=by decide)
 (he:starEach (e::es) X.env=(false,eval e X.env)::starEach es X.env:=by rfl) (hpl:(backTo pos (starEach es X.env)).any (·.1)=false:=by rfl):
 PE X (.Call (.Name x p) (e::es) [] pos) (Q7 sp (fY X.env scope.names []) xs caps E t):=by
 obtain ⟨f,fd,G,hm,hk,hb⟩:=F;intro pins s σ H Q I h;refine wpAny_Call_Name_kw (oA I hg hm ?_ hd);refine PySem.W.callWith_K (h₀:=X.base) I.ok.mod.Pb hk (d9 (ha pos pins s σ H _ I h) fun us s1 ⟨vs,H1,I1,r,Ju,hcv,q⟩=>⟨I1.qK, ?_⟩) he hpl;obtain ⟨H2,eH,C2,ok2,cel⟩:=Uk I1 hfree hxs hlen hcap hcv;have q:=q H2 eH C2;have hlen:us.length=ps.length:=by rw [←r.length];exact G.len _ _ _ _ q
 have hbd:=hb s1 us I1.qK (by rw [List.append_nil];exact hlen);rw [List.append_nil] at hbd;have e1:=I1.env0;have ce:∀c∈(fY X.env scope.names []).map (·.2),∃o,H2 c=some (ug o):=fun c hc=>let ⟨_,o,_,z⟩:=cel c hc;⟨o,z⟩
 have up:∀c∈(fY X.env scope.names []).map (·.2),X.s₀.heap.objs.size<=c:=fun c hc=>by
  obtain ⟨y,_,e,_⟩:=cel c hc;exact I.ok.cab y c (hown y) e
 have h2n:∀b,H1 b=none->b∉(fY X.env scope.names []).map (·.2)->H2 b=none:=fun b n z=>by rw [←eH,cu z] at n;exact n
 have e2:xG X.prog X.w X.K X.mg X.base X.A X.stack s1 H2:=⟨e1.frames,e1.mod,fun b o e=>⟨(e1.bs b o e).1,h2n b (e1.bs b o e).2 fun z=>by
  have:=Heap.lt_size e;exact absurd (Nat.lt_of_lt_of_le this (Nat.le_trans I.ok.HF (up b z))) (Nat.lt_irrefl _)⟩,e1.HF,e1.pB,fun b hb=>h2n b (e1.K_ b hb) fun z=> ?_,ok2,e1.bare⟩
 ·refine wpAny_call (codeAny_mono (G.run X.A X.stack s1 H2 ⟨us,[]⟩ us vs _ _ hr e2 hbd r q) fun res s' hq=> ?_)
  match res,hq with
  | .error ev,hq=>
    obtain ⟨e',cls,dx,H',rfl,ho,hg',u,hok',he',ne,xo,hE⟩:=hq;have u1:=LK u ok2 hok' ce;rw [eH] at u1;refine zO hx R I1 ⟨e',cls,dx,hide H' ((fY X.env scope.names []).map (·.2)),rfl,ho,hg',u1,BX hok' fun c hc=> ?_,he', ?_,xo.imp fun T _ z=>⟨z.1, ?_⟩,hE⟩
    ·obtain ⟨o,z⟩:=ce c hc
     exact ⟨o,u.qM c _ _ z⟩
    ·by_cases z:e'∈(fY X.env scope.names []).map (·.2)
     ·exact je z
     ·rw [cu z];exact ne
    ·by_cases w:T∈(fY X.env scope.names []).map (·.2)
     ·exact je w
     ·rw [cu w];exact z.2
  | .ok (.ret u),hq=>
    obtain ⟨v,H',os,bare,un,hok',rv,qq⟩:=hq;have u1:=LK un ok2 hok' ce;rw [eH] at u1;exact I1.after ⟨v,hide H' ((fY X.env scope.names []).map (·.2)),os,bare,u1,BX hok' fun c hc=>(let ⟨o,z⟩:=ce c hc;⟨o,un.qM c _ _ z⟩),rv,qq⟩
 ·obtain ⟨y,o,e,_⟩:=cel b z
  rcases List.mem_cons.mp (I1.xX b hb) with w|w
  ·exact I1.Xe y b e w
  ·obtain ⟨_,o',ho',_⟩:=I.ok.pB.mem w
   exact absurd (Nat.lt_of_lt_of_le (Heap.lt_size ho') (up b z)) (Nat.lt_irrefl _)
end
end L2
namespace L2
open PySem
def Te (sc outer:Scope) (N xs:List Str) (caps:List Nat):Bool:=
 sc.names.all (fun y=>decide (y.2 ≠ .free)||decide (outer.names.lookup y.1=some .cell))&&decide (xs.length=caps.length) &&
 (List.range xs.length).all fun j=>match xs[j]? with |some y=>decide ((y,NameKind.free)∈sc.names)&&decide (N[caps.getD j 0]? = some y)|none=>true
structure U0 (sc outer:Scope) (N xs:List Str) (caps:List Nat):Prop where
 free:∀y∈sc.names,y.2 = .free->outer.names.lookup y.1=some .cell
 mem:∀(j:Nat) (y:Str),xs[j]? = some y->(y,NameKind.free)∈sc.names
 len:xs.length=caps.length
 cap:∀(j:Nat) (y:Str),xs[j]? = some y->N[caps.getD j 0]? = some y
theorem U0.of {sc outer:Scope} {N xs:List Str} {caps:List Nat} (h:Te sc outer N xs caps=true):U0 sc outer N xs caps:=by
 unfold Te at h;simp only [Bool.and_eq_true,decide_eq_true_eq,List.all_eq_true,Bool.or_eq_true] at h;obtain ⟨⟨h1,h2⟩,h3⟩:=h
 have key:∀(j:Nat) (y:Str),xs[j]? = some y->(y,NameKind.free)∈sc.names/\N[caps.getD j 0]? = some y:=fun j y e=>by
  have q:=h3 j (List.mem_range.mpr (List.getElem?_eq_some_iff.mp e).1);rw [e] at q;simpa only [Bool.and_eq_true,decide_eq_true_eq] using q
 exact ⟨fun y hy e=>(h1 y hy).elim (fun z=>absurd e z) id,fun j y e=>(key j y e).1,h2,fun j y e=>(key j y e).2⟩
def Ja (ps xs:List Str) (sc:Scope):Bool:=
 decide (sc.kind = .function) && !sc.isCoroutine && !sc.isGenerator&&sc.names.all (fun y=>decide (y.2 ≠ .cell))&&ps.all (fun x=>decide (sc.names.lookup x=some .local))&&xs.all (fun x=>decide (sc.names.lookup x=some .free)) &&
 sc.names.all (fun y=>decide (y.2 ≠ .free)||decide (y.1∈xs))&&decide (ps++xs).Nodup
theorem UW.of {ps xs:List Str} {sc:Scope} (h:Ja ps xs sc=true):UW ps xs sc:=by
 unfold Ja at h;simp only [Bool.and_eq_true,decide_eq_true_eq,List.all_eq_true,Bool.or_eq_true,Bool.not_eq_true'] at h;obtain ⟨⟨⟨⟨⟨⟨⟨h1,h2⟩,h3⟩,h4⟩,h5⟩,h6⟩,h7⟩,h8⟩:=h;exact ⟨h1,h2,h3,h4,h5,h6,fun y e=>(h7 _ (PySem.mem_of_lookup e)).elim (fun z=>absurd rfl z) id,h8⟩
end L2
namespace L2
open PySem PySem.Spec PyProof.Rows PySem.W
theorem yS.imp {P:Program} {w:World} {K:PySem.W.Frag} {mg:Str->Option Value} {base:Heap} {k:Nat} {f:Addr} {vs:List V} {H:Hp} {Q Q':VK} (h:yS P w K mg base k f vs H Q) (i:∀v H',Q v H'->Q' v H'):yS P w K mg base k f vs H Q':=by
 refine ⟨h.1,fun A outer s us r e v=>codeAny_mono (h.2 A outer s us r e v) fun res s' hq=> ?_⟩
 match res,hq with
 | .error ev,hq=>exact hq
 | .ok (.ret u),hq=>
   obtain ⟨v,H',a,b,c,d,e,q⟩:=hq;exact ⟨v,H',a,b,c,d,e,i _ _ q⟩
end L2
namespace L2
open PySem PySem.Spec PyProof.Rows PySem.W
section
variable {X:Cx}
theorem RJ {params:Arguments} {body:Expr} {scope:Scope} {pos:Pos} {c p:Addr} (en:Env) (pm:Value) (hen:X.env=en) (hpm:(X.mg "__name__").getD .none=pm) (BM:Bm X.mg X.base) (hcode:X.env.code = .ref c) (hcd:codeHdIn X.K c p=true) (hfree:∀y∈scope.names,y.2 = .free->X.env.kindOf y.1=some .cell\/X.env.kindOf y.1=some .free) (hg:X.env.globals=mainGlobals:=by rfl) (hdef:defaultsOf params X.env=([],[]):=by rfl):
 PE X (.Lambda params body scope pos) (XR p pos (en.qual ++ "<lambda>") params body scope pm (fY en scope.names [])):=by
 subst hen hpm;exact V9 BM hcode hcd hfree hg hdef
theorem Oh {k:Nat} {x:Str} {ps:List Str} {sp:Sp} {e:Expr} {es:List Expr} {t:TA} {p pos:Pos} {E:St->XK} {scope:Scope} {xs:List Str} {caps:List Nat} (en:Env) (hen:X.env=en)
 (F:xr X.prog X.w X.K X.mg X.base k x ps sp) (hx:X.ex=[]) (R:Rz X E) (hr:dZ k X.A) (hg:Gl X x) (ha:PA X (e::es) t) (hown:∀y,X.fn y=true) (hfree:∀y∈scope.names,y.2 = .free->X.env.kindOf y.1=some .cell) (hxs:∀(j:Nat) (y:Str),xs[j]? = some y->(y,NameKind.free)∈scope.names) (hlen:xs.length=caps.length)
 (hcap:∀(j:Nat) (y:Str),xs[j]? = some y->X.N[caps.getD j 0]? = some y) (hd:(x==("__debug__" :Str))=false:=by decide)
 (he:starEach (e::es) X.env=(false,eval e X.env)::starEach es X.env:=by rfl) (hpl:(backTo pos (starEach es X.env)).any (·.1)=false:=by rfl):
 PE X (.Call (.Name x p) (e::es) [] pos) (Q7 sp (fY en scope.names []) xs caps E t):=by
 subst hen;exact RL F hx R hr hg ha hown hfree hxs hlen hcap hd he hpl
end
end L2
set_option Elab.async false
set_option linter.all false
set_option maxRecDepth 100000
set_option maxHeartbeats 4000000
namespace Tim
open PySem PyProof.Rows
section
variable {prog:Program} {w:World} {A:Around} {E:Value->Shared->Prop} {s:Shared} {κ:SortKind} {a₀:Array Keyed} {rk:Value->Nat}
structure YB (prog:Program) (w:World) (A:Around) (s:Shared) (κ:SortKind) (a₀:Array Keyed) (rk:Value->Nat):Prop where
 ask:∀p∈a₀.toList,∀q∈a₀.toList,∀(E:Value->Shared->Prop) (Q:Bool->Shared->Prop),Q (decide (rk p.1<rk q.1)) s->wpAny (model prog w) A (keyLt' κ p.1 q.1) Q E s
def R (rk:Value->Nat) (xs:Array Keyed) (i:Nat):Nat:=match xs[i]? with
 | some p=>rk p.1
 | none=>0
theorem aaU {xs:Array Keyed} {i:Nat} {p:Keyed} (h:xs[i]? = some p):R rk xs i=rk p.1:=by unfold R;rw [h]
theorem xg {xs ys:Array Keyed} {i j:Nat} (h:xs[i]? = ys[j]?):R rk xs i=R rk ys j:=by unfold R;rw [h]
theorem YG {st:SortSt} {p q:Keyed} {Q:Option Bool->SortSt->Prop} (C:YB prog w A s κ a₀ rk) (hk:kindOf st=κ) (hp:p∈a₀.toList) (hq:q∈a₀.toList) (h:Q (some (decide (rk p.1<rk q.1))) st):
 wpS (model prog w) A E s (lt' p q) Q st:=by
 rw [lt'_eq];refine wpS_bind (wpS_get ?_);rw [hk];refine wpS_bind (wpS_lift (wpAny_attempt (C.ask p hp q hq _ _ ⟨rfl, ?_⟩)));exact wpS_pure h
theorem HS {st:SortSt} {arr:Array Keyed} {i:Nat} {p:Keyed} {Q:Keyed->SortSt->Prop} (hi:arr[i]? = some p) (h:Q p st):wpS (model prog w) A E s (elem' arr i) Q st:=by
 rw [elem'_eq,hi];exact wpS_pure h
def Seg (rk:Value->Nat) (xs:Array Keyed) (lo hi:Nat):Prop:=∀i j,lo<=i->i<=j->j<hi->R rk xs i<=R rk xs j
theorem Nr {a:Array Keyed} {i:Nat} (h:i<a.size):R rk a i=rk (a[i]).1:=aaU (getElem?_pos a i h)
theorem jF {α:Type} {c:Prop} [Decidable c] {x y:StateT SortSt Sem α} {Q:α->SortSt->Prop} {st:SortSt} (h1:c->wpS (model prog w) A E s x Q st) (h2:¬c->wpS (model prog w) A E s y Q st):wpS (model prog w) A E s (if c then x else y) Q st:=by
 by_cases hc:c
 ·rw [if_pos hc];exact h1 hc
 ·rw [if_neg hc];exact h2 hc
end
end Tim
set_option Elab.async false
set_option linter.all false
set_option maxRecDepth 100000
set_option maxHeartbeats 4000000
namespace Tim
open PySem PyProof.Rows
section
variable {prog:Program} {w:World} {A:Around} {E:Value->Shared->Prop} {s:Shared} {κ:SortKind} {a₀:Array Keyed} {rk:Value->Nat} {pd:Array (Nat×Nat×Nat)}
structure SB (κ:SortKind) (a₀:Array Keyed) (pd:Array (Nat×Nat×Nat)) (st:SortSt):Prop where
 perm:(arrOf st).Perm a₀
 kind:kindOf st=κ
 failed:failedOf st=none
 pend:pendingOf st=pd
theorem SB.size {st:SortSt} (h:SB κ a₀ pd st):(arrOf st).size=a₀.size:=h.perm.size_eq
theorem SB.setArr {st:SortSt} (h:SB κ a₀ pd st) {xs:Array Keyed} (hp:xs.Perm (arrOf st)):SB κ a₀ pd (setArr st xs):=⟨hp.trans h.perm,h.kind,h.failed,h.pend⟩
theorem SB.mem {st:SortSt} (h:SB κ a₀ pd st) {p:Keyed} (hp:p∈(arrOf st).toList):p∈a₀.toList:=(Array.perm_iff_toList_perm.mp h.perm).mem_iff.mp hp
theorem mZ {st:SortSt} {i j:Nat} {Q:Option Bool->SortSt->Prop} (C:YB prog w A s κ a₀ rk) (hB:SB κ a₀ pd st) (hi:i<a₀.size) (hj:j<a₀.size) (h:Q (some (decide (R rk (arrOf st) i<R rk (arrOf st) j))) st):
 wpS (model prog w) A E s (ltAt' i j) Q st:=by
 rw [ltAt'_eq];refine wpS_bind (wpS_get ?_);have hi':i<(arrOf st).size:=by rw [hB.size];exact hi
 have hj':j<(arrOf st).size:=by rw [hB.size];exact hj
 rw [Nr hi',Nr hj'] at h;exact wpS_bind (HS (getElem?_pos (arrOf st) i hi') (wpS_bind (HS (getElem?_pos (arrOf st) j hj') (YG C hB.kind (hB.mem (by simp)) (hB.mem (by simp)) h))))
def Kb (lo:Nat) (st st':SortSt):Prop:=∀i,i<lo->(arrOf st')[i]? = (arrOf st)[i]?
theorem Kb.refl {lo:Nat} {st:SortSt}:Kb lo st st:=fun _ _=>rfl
theorem Kb.trans {lo:Nat} {a b c:SortSt} (h:Kb lo a b) (g:Kb lo b c):Kb lo a c:=fun i hi=>(g i hi).trans (h i hi)
theorem CZ {xs:Array Keyed} {i j:Nat} (hj:j<=xs.size) (k:Nat):R rk (mirror xs i j ((j - i) / 2)) k=if i<=k/\k<j then R rk xs (i+j - 1 - k) else R rk xs k:=by
 have e:=getElem?_mirror_all (i:=i) hj k
 by_cases h1:i<=k/\k<j
 ·rw [if_pos h1] at e ⊢;exact xg e
 ·rw [if_neg h1] at e ⊢;exact xg e
theorem tZ {st:SortSt} {lo i j:Nat} (hj:j<=(arrOf st).size) (hi:lo<=i):Kb lo st (setArr st (mirror (arrOf st) i j ((j - i) / 2))):=fun k hk=>by
 show (mirror (arrOf st) i j ((j - i) / 2))[k]? = _;rw [getElem?_mirror_all hj,if_neg (by (clear hj;lia))]
theorem lH {xs:Array Keyed} {i j:Nat} (hj:j<=xs.size) (heq:∀k,i<=k->k<j->R rk xs k=R rk xs (j - 1)) (k:Nat):R rk (mirror xs i j ((j - i) / 2)) k=R rk xs k:=by
 rw [CZ hj];split
 ·rw [heq _ (by (clear hj;lia)) (by (clear hj;lia)),heq k (by (clear hj;lia)) (by (clear hj;lia))]
 ·rfl
theorem JK {xs:Array Keyed} {src d:Nat} (hs:src<xs.size) (hd:d<=src) (k:Nat):
 R rk (bubble xs src d) k=if k=src - d then R rk xs src else if src - d<k/\k<=src then R rk xs (k - 1) else R rk xs k:=by
 have e:=getElem?_bubble hs d hd k
 by_cases h1:k=src - d
 ·rw [if_pos h1] at e ⊢;exact xg e
 ·rw [if_neg h1] at e ⊢
  by_cases h2:src - d<k/\k<=src
  ·rw [if_pos h2] at e ⊢;exact xg e
  ·rw [if_neg h2] at e ⊢;exact xg e
def Dwn (rk:Value->Nat) (xs:Array Keyed) (lo hi:Nat):Prop:=∀i j,lo<=i->i<=j->j<hi->R rk xs j<=R rk xs i
theorem wpS_countRun {st:SortSt} {lo nrem:Nat} {Q:Option Nat->SortSt->Prop} (C:YB prog w A s κ a₀ rk) (hn:lo+nrem<=a₀.size) (h1:1<=nrem) (hB:SB κ a₀ pd st)
 (h:∀m st',SB κ a₀ pd st'->Kb lo st st'->1<=m->m<=nrem->Seg rk (arrOf st') lo (lo+m)->Q (some m) st'):wpS (model prog w) A E s (countRun' lo nrem) Q st:=by
 rw [countRun'_eq]
 refine wpS_bind (wpS_mono (wpS_forRange (I:=fun x c st'=>st'=st/\c=(none,x)/\Seg rk (arrOf st) lo (lo+x))
  (Q:=fun c st'=>st'=st /\ ∃n,c=(none,n)/\1<=n/\n<=nrem/\Seg rk (arrOf st) lo (lo+n)/\(n=nrem\/R rk (arrOf st) (lo+n)<R rk (arrOf st) (lo+n - 1))) ?step ?fin ⟨rfl,rfl,fun i j a b c=>by rw [show i=j by (clear h1 hn;lia)];exact Nat.le_refl _⟩) ?post)
 case fin=>
  rintro c st' ⟨rfl,rfl,hs⟩;rw [show max 1 nrem=nrem by (clear hn;lia)] at hs ⊢;exact ⟨rfl,nrem,rfl,h1,Nat.le_refl _,hs,.inl rfl⟩
 case step=>
  rintro x c st' x1 xn ⟨rfl,rfl,hs⟩;dsimp only;refine wpS_bind (mZ C hB (by (clear x1 h1;lia)) (by (clear x1 h1;lia)) ?_);dsimp only;refine jF (fun lt=> ?_) (fun lt=> ?_)
  ·exact wpS_pure ⟨rfl,x,rfl,x1,by (clear lt x1 h1 hn;lia),hs,.inr (of_decide_eq_true lt)⟩
  ·have lt:R rk (arrOf st') (lo+x - 1)<=R rk (arrOf st') (lo+x):=Nat.le_of_not_lt fun z=>lt (decide_eq_true z)
   refine wpS_pure ⟨rfl,rfl,fun i j a b c=> ?_⟩
   by_cases hj:j<lo+x
   ·exact hs i j a b hj
   ·have:j=lo+x:=by (clear b a lt xn x1 h1 hn;lia)
    subst this
    by_cases hi:i=lo+x
    ·rw [hi];exact Nat.le_refl _
    ·exact Nat.le_trans (hs i (lo+x - 1) a (by (clear hj c a lt xn x1 h1 hn;lia)) (by (clear hi hj c b a lt xn h1 hn;lia))) lt
 case post=>
  rintro c st' ⟨rfl,n,rfl,n1,nn,hs,hor⟩;dsimp only;have hsz:(arrOf st').size=a₀.size:=hB.size;refine jF (fun e=> ?_) (fun e=> ?_)
  ·exact wpS_pure (h n _ hB Kb.refl n1 nn hs)
  have e:¬n=nrem:=fun z=>e (beq_iff_eq.mpr z);have lt:=hor.resolve_left e;have n2:n+1<=nrem:=by (clear lt hsz hor n1 h1 hn;lia)
  apply jF
  case' h1=>
   intro gt;refine wpS_bind (mZ C hB (by (clear gt n2 lt e hsz hor nn n1;lia)) (by (clear gt n2 lt e hsz hor n1;lia)) ?_);dsimp only;refine jF (fun rose=> ?_) (fun rose=> ?_)
   ·exact wpS_pure (h n _ hB Kb.refl n1 nn hs)
   have rose:R rk (arrOf st') (lo+n - 1)<=R rk (arrOf st') lo:=Nat.le_of_not_lt fun z=>rose (decide_eq_true z)
   have all:∀k,lo<=k->k<lo+n->R rk (arrOf st') k=R rk (arrOf st') (lo+n - 1):=fun k k1 k2=>by
    have a1:=hs lo k (Nat.le_refl _) k1 k2;have a2:=hs k (lo+n - 1) k1 (by (clear a1 k1 rose gt n2 lt e hsz hor nn n1 h1 hn;lia)) (by (clear a1 k2 k1 rose gt n2 lt e hsz hor nn h1 hn;lia))
    (clear k2 k1 gt n2 lt e hsz hor nn n1 h1 hn;lia)
   rw [reverseSlice'_eq];refine wpS_bind (wpS_modify ?_);have hB1:SB κ a₀ pd (setArr st' (mirror (arrOf st') lo (lo+n) ((lo+n - lo) / 2))):=hB.setArr (mirror_perm _ _ _ _);have k1:Kb lo st' (setArr st' (mirror (arrOf st') lo (lo+n) ((lo+n - lo) / 2))):=tZ (by (clear rose gt n2 lt e hor n1 h1;lia)) (Nat.le_refl _)
   have dw:Dwn rk (arrOf (setArr st' (mirror (arrOf st') lo (lo+n) ((lo+n - lo) / 2)))) lo (lo+n+1):=fun i j a b c=>by
    show R rk (mirror _ _ _ _) j<=R rk (mirror _ _ _ _) i;rw [lH (by (clear c b a rose gt n2 lt e hor n1 h1;lia)) all,lH (by (clear c b a rose gt n2 lt e hor n1 h1;lia)) all]
    by_cases hj:j<lo+n
    ·rw [all i a (by (clear c a rose gt n2 lt e hsz hor nn n1 h1 hn;lia)),all j (by (clear hj c rose gt n2 lt e hsz hor nn n1 h1 hn;lia)) hj];exact Nat.le_refl _
    ·have:j=lo+n:=by (clear b a rose gt n2 lt e hsz hor nn n1 h1 hn;lia)
     subst this
     by_cases hi:i=lo+n
     ·rw [hi];exact Nat.le_refl _
     ·rw [all i a (by (clear hj c a rose gt n2 lt e hsz hor nn n1 h1 hn;lia))];(clear hi hj c b a rose gt n2 lt hsz nn n1 h1 hn;lia)
   generalize setArr st' (mirror (arrOf st') lo (lo+n) ((lo+n - lo) / 2))=st1 at hB1 k1 dw ⊢
  case' h2=>
   intro gt;have hB1:=hB;have k1:Kb lo st' st':=Kb.refl
   have dw:Dwn rk (arrOf st') lo (lo+n+1):=fun i j a b c=>by
    have e1:n=1:=by (clear c b a n2 lt e hsz hor nn h1 hn;lia)
    subst e1
    by_cases hi:i=j
    ·rw [hi];exact Nat.le_refl _
    ·have:i=lo+1 - 1:=by (clear gt n2 lt e hor nn n1 hsz h1 hn;lia)
     have:j=lo+1:=by (clear this gt n2 lt e hor nn n1 hsz h1 hn;lia)
     subst_vars
     (clear hi b c a gt n2 lt nn n1 hsz h1 hn;lia)
   revert hB1 k1 dw;generalize hst:st'=st1;intro hB1 k1 dw
  all_goals
   refine wpS_bind (wpS_lift (wpAny_rule ⟨rfl, ?_⟩))
   refine wpS_bind (wpS_mono (wpS_forRange (I:=fun x c st2=>∃neq,c=(none,x,neq)/\SB κ a₀ pd st2/\Kb lo st1 st2/\Dwn rk (arrOf st2) lo (lo+x)/\neq+1<=x/\(∀i,lo+x - (neq+1)<=i->i<lo+x->R rk (arrOf st2) i=R rk (arrOf st2) (lo+x - 1)))
    (Q:=fun c st2=>∃x neq,c=(none,x,neq)/\n+1<=x/\x<=nrem/\SB κ a₀ pd st2/\Kb lo st1 st2/\Dwn rk (arrOf st2) lo (lo+x)/\neq+1<=x/\(∀i,lo+x - (neq+1)<=i->i<lo+x->R rk (arrOf st2) i=R rk (arrOf st2) (lo+x - 1))) ?_ ?_ ⟨0,rfl,hB1,Kb.refl,dw,by (clear gt n2 lt e hsz hor nn n1 h1 hn;lia),fun i a b=>by congr 1;(clear gt n2 lt e hsz hor nn n1 h1 hn;lia)⟩) ?_)
   ·rintro x c st2 x1 xn ⟨neq,rfl,hB2,k2,d2,q2,e2⟩
    dsimp only;have pR:(arrOf st2).size=a₀.size:=hB2.size;refine wpS_bind (mZ C hB2 (by (clear pR q2 x1 gt n2 lt e hsz hor nn n1 h1;lia)) (by (clear pR q2 x1 gt n2 lt e hsz hor nn n1 h1;lia)) ?_);dsimp only;refine jF (fun lt=> ?_) (fun lt=> ?_)
    ·have lt:R rk (arrOf st2) (lo+x)<R rk (arrOf st2) (lo+x - 1):=of_decide_eq_true lt
     have step1:∀xs:Array Keyed,(∀k,R rk xs k=R rk (arrOf st2) k)->Dwn rk xs lo (lo+(x+1)):=by
      intro xs hk i j a b c;rw [hk,hk]
      by_cases hj:j<lo+x
      ·exact d2 i j a b hj
      ·have:j=lo+x:=by (clear b a lt pR q2 xn x1 gt n2 e hsz hor nn n1 h1 hn;lia)
       subst this
       by_cases hi:i=lo+x
       ·rw [hi];exact Nat.le_refl _
       ·exact Nat.le_trans (Nat.le_of_lt lt) (d2 i (lo+x - 1) a (by (clear hj c a lt pR q2 xn x1 gt n2 e hsz hor nn n1 h1 hn;lia)) (by (clear hi hj c b a lt pR q2 xn gt n2 e hsz hor nn n1 h1 hn;lia)))
     refine jF (fun _=> ?_) (fun _=> ?_)
     ·rw [reverseSlice'_eq]
      refine wpS_bind (wpS_modify (wpS_pure ⟨0,rfl,hB2.setArr (mirror_perm _ _ _ _),k2.trans (tZ (by (clear lt q2 x1 gt n2 e hsz hor nn n1 h1;lia)) (by (clear lt pR xn x1 gt n2 e hsz hor nn n1 h1 hn;lia))),step1 _ (lH (by (clear lt q2 x1 gt n2 e hsz hor nn n1 h1;lia)) e2),by (clear lt pR q2 xn x1 gt n2 e hsz hor nn n1 h1 hn;lia),fun i a b=>by congr 1;(clear lt pR q2 xn x1 gt n2 e hsz hor nn n1 h1 hn;lia)⟩))
     ·exact wpS_pure ⟨0,rfl,hB2,k2,step1 _ (fun _=>rfl),by (clear lt pR q2 xn x1 gt n2 e hsz hor nn n1 h1 hn;lia),fun i a b=>by congr 1;(clear lt pR q2 xn x1 gt n2 e hsz hor nn n1 h1 hn;lia)⟩
    ·have ge:R rk (arrOf st2) (lo+x - 1)<=R rk (arrOf st2) (lo+x):=Nat.le_of_not_lt fun z=>lt (decide_eq_true z)
     refine wpS_bind (mZ C hB2 (by (clear ge lt pR q2 x1 gt n2 e hsz hor nn n1 h1;lia)) (by (clear ge lt pR q2 x1 gt n2 e hsz hor nn n1 h1;lia)) ?_);dsimp only;refine jF (fun lg=> ?_) (fun lg=> ?_)
     ·exact wpS_pure ⟨x,neq,rfl,x1,by (clear lg ge lt pR q2 x1 gt n2 e hsz hor nn n1 h1 hn;lia),hB2,k2,d2,q2,e2⟩
     ·have le:R rk (arrOf st2) (lo+x)<=R rk (arrOf st2) (lo+x - 1):=Nat.le_of_not_lt fun z=>lg (decide_eq_true z)
      have W9:R rk (arrOf st2) (lo+x)=R rk (arrOf st2) (lo+x - 1):=by (clear lg lt pR q2 xn x1 gt n2 e hsz hor nn n1 h1 hn;lia)
      refine wpS_pure ⟨neq+1,rfl,hB2,k2,fun i j a b c=> ?_,by (clear W9 le lg ge lt pR xn x1 gt n2 e hsz hor nn n1 h1 hn;lia),fun i a b=> ?_⟩
      ·by_cases hj:j<lo+x
       ·exact d2 i j a b hj
       ·have:j=lo+x:=by (clear b a W9 le lg ge lt pR q2 xn x1 gt n2 e hsz hor nn n1 h1 hn;lia)
        subst this
        by_cases hi:i=lo+x
        ·rw [hi];exact Nat.le_refl _
        ·rw [W9];exact d2 i (lo+x - 1) a (by (clear hj c a W9 le lg ge lt pR q2 xn x1 gt n2 e hsz hor nn n1 h1 hn;lia)) (by (clear hi hj c b a W9 le lg ge lt pR q2 xn gt n2 e hsz hor nn n1 h1 hn;lia))
      ·rw [show lo+(x+1) - 1=lo+x by (clear b a W9 le lg ge lt pR q2 xn x1 gt n2 e hsz hor nn n1 h1 hn;lia)]
       by_cases hi:i=lo+x
       ·rw [hi]
       ·rw [W9];exact e2 i (by (clear hi b W9 le lg ge lt pR q2 xn x1 gt n2 e hsz hor nn n1 h1 hn;lia)) (by (clear a W9 le lg ge lt pR q2 xn x1 gt n2 e hsz hor nn n1 h1 hn;lia))
   ·rintro c st2 ⟨neq,rfl,hB2,k2,d2,q2,e2⟩
    rw [show max (n+1) nrem=nrem by (clear q2 gt n2 lt hsz hor n1 h1 hn;lia)] at d2 q2 e2 ⊢;exact ⟨nrem,neq,rfl,n2,Nat.le_refl _,hB2,k2,d2,q2,e2⟩
   ·rintro c st2 ⟨x,neq,rfl,x1,xn,hB2,k2,d2,q2,e2⟩
    dsimp only;have pR:(arrOf st2).size=a₀.size:=hB2.size;apply jF
    case' h1=>
     intro _;rw [reverseSlice'_eq];refine wpS_bind (wpS_modify ?_);have hB3:SB κ a₀ pd (setArr st2 (mirror (arrOf st2) (lo+x - (neq+1)) (lo+x) ((lo+x - (lo+x - (neq+1))) / 2))):=hB2.setArr (mirror_perm _ _ _ _);have k3:=k2.trans (tZ (st:=st2) (lo:=lo) (i:=lo+x - (neq+1)) (j:=lo+x) (by (clear q2 x1 gt n2 lt e hsz hor nn n1 h1;lia)) (by (clear pR xn x1 gt n2 lt e hsz hor nn n1 h1 hn;lia)))
     have d3:Dwn rk (arrOf (setArr st2 (mirror (arrOf st2) (lo+x - (neq+1)) (lo+x) ((lo+x - (lo+x - (neq+1))) / 2)))) lo (lo+x):=fun i j a b c=>by
      show R rk (mirror _ _ _ _) j<=R rk (mirror _ _ _ _) i;rw [lH (by (clear c b a q2 x1 gt n2 lt e hsz hor nn n1 h1;lia)) e2,lH (by (clear c b a q2 x1 gt n2 lt e hsz hor nn n1 h1;lia)) e2];exact d2 i j a b c
     generalize setArr st2 (mirror (arrOf st2) (lo+x - (neq+1)) (lo+x) ((lo+x - (lo+x - (neq+1))) / 2))=st3 at hB3 k3 d3 ⊢
    case' h2=>
     intro _;have hB3:=hB2;have k3:=k2;have d3:=d2;revert hB3 k3 d3;generalize st2=st3;intro hB3 k3 d3
    all_goals
     have LR:(arrOf st3).size=a₀.size:=hB3.size;rw [reverseSlice'_eq];refine wpS_bind (wpS_modify ?_);have hB4:SB κ a₀ pd (setArr st3 (mirror (arrOf st3) lo (lo+x) ((lo+x - lo) / 2))):=hB3.setArr (mirror_perm _ _ _ _);have k4:=k3.trans (tZ (st:=st3) (lo:=lo) (i:=lo) (j:=lo+x) (by (clear pR q2 x1 gt n2 lt e hsz hor nn n1 h1;lia)) (by (clear LR pR q2 xn x1 gt n2 lt e hsz hor nn n1 h1 hn;lia)))
     have s4:Seg rk (arrOf (setArr st3 (mirror (arrOf st3) lo (lo+x) ((lo+x - lo) / 2)))) lo (lo+x):=fun i j a b c=>by
      show R rk (mirror _ _ _ _) i<=R rk (mirror _ _ _ _) j;rw [CZ (by (clear c b a pR q2 x1 gt n2 lt e hsz hor nn n1 h1;lia)),CZ (by (clear c b a pR q2 x1 gt n2 lt e hsz hor nn n1 h1;lia)),if_pos (by (clear LR pR q2 xn x1 gt n2 lt e hsz hor nn n1 h1 hn;lia)),if_pos (by (clear LR pR q2 xn x1 gt n2 lt e hsz hor nn n1 h1 hn;lia))];exact d3 _ _ (by (clear b a LR pR q2 xn x1 gt n2 lt e hsz hor nn n1 h1 hn;lia)) (by (clear c a LR pR q2 xn x1 gt n2 lt e hsz hor nn n1 h1 hn;lia)) (by (clear c b LR pR q2 xn gt n2 lt e hsz hor nn n1 h1 hn;lia))
     generalize setArr st3 (mirror (arrOf st3) lo (lo+x) ((lo+x - lo) / 2))=st4 at hB4 k4 s4 ⊢
     refine wpS_bind (wpS_mono (wpS_forRange (I:=fun y c JR=>JR=st4/\c=(none,y)/\Seg rk (arrOf st4) lo (lo+y))
      (Q:=fun c JR=>JR=st4 /\ ∃y,c=(none,y)/\x<=y/\y<=nrem/\Seg rk (arrOf st4) lo (lo+y)) ?_ ?_ ⟨rfl,rfl,s4⟩) ?_)
     ·rintro y c JR y1 yn ⟨rfl,rfl,Ym⟩
      dsimp only;refine wpS_bind (mZ C hB4 (by (clear y1 LR pR q2 xn x1 gt n2 lt e hsz hor nn n1 h1;lia)) (by (clear y1 LR pR q2 xn x1 gt n2 lt e hsz hor nn n1 h1;lia)) ?_);dsimp only;refine jF (fun lt=> ?_) (fun lt=> ?_)
      ·exact wpS_pure ⟨rfl,y,rfl,y1,by (clear lt y1 LR pR q2 xn x1 gt n2 e hsz hor nn n1 h1 hn;lia),Ym⟩
      ·have lt:R rk (arrOf JR) (lo+y - 1)<=R rk (arrOf JR) (lo+y):=Nat.le_of_not_lt fun z=>lt (decide_eq_true z)
       refine wpS_pure ⟨rfl,rfl,fun i j a b c=> ?_⟩
       by_cases hj:j<lo+y
       ·exact Ym i j a b hj
       ·have:j=lo+y:=by (clear b a lt yn y1 LR pR q2 xn x1 gt n2 e hsz hor nn n1 h1 hn;lia)
        subst this
        by_cases hi:i=lo+y
        ·rw [hi];exact Nat.le_refl _
        ·exact Nat.le_trans (Ym i (lo+y - 1) a (by (clear hj c a lt yn y1 LR pR q2 xn x1 gt n2 e hsz hor nn n1 h1 hn;lia)) (by (clear hi hj c b a lt yn LR pR q2 xn gt n2 e hsz hor nn n1 h1 hn;lia))) lt
     ·rintro c JR ⟨rfl,rfl,Ym⟩
      rw [show max x nrem=nrem by (clear LR pR q2 x1 gt n2 lt e hsz hor nn n1 h1 hn;lia)] at Ym ⊢;exact ⟨rfl,nrem,rfl,xn,Nat.le_refl _,Ym⟩
     ·rintro c JR ⟨rfl,y,rfl,y1,yn,Ym⟩
      exact wpS_pure (h y _ hB4 (by first |exact k1.trans k4|(subst hst;exact k4)) (by (clear yn LR pR q2 xn gt n2 lt e hsz hor nn n1 h1 hn;lia)) yn Ym)
theorem wpS_binarySort {st:SortSt} {lo n ok:Nat} {Q:Bool->SortSt->Prop} (C:YB prog w A s κ a₀ rk) (hn:lo+n<=a₀.size) (hok:ok<=n) (hB:SB κ a₀ pd st) (hs:Seg rk (arrOf st) lo (lo+ok))
 (h:∀st',SB κ a₀ pd st'->Kb lo st st'->Seg rk (arrOf st') lo (lo+n)->Q true st'):wpS (model prog w) A E s (binarySort' lo n ok) Q st:=by
 rw [binarySort'_eq]
 refine wpS_bind (wpS_mono (wpS_forRange (I:=fun k c st'=>c=(none,())/\SB κ a₀ pd st'/\Kb lo st st'/\Seg rk (arrOf st') lo (lo+min k n))
  (Q:=fun c st'=>c=(none,())/\SB κ a₀ pd st'/\Kb lo st st'/\Seg rk (arrOf st') lo (lo+n)) ?step ?fin ?init) ?post)
 case post=>
  rintro c st' ⟨rfl,hB',k',hs'⟩;exact wpS_pure (h st' hB' k' hs')
 case init=>
  refine ⟨rfl,hB,Kb.refl,fun i j a b c=> ?_⟩
  by_cases h1:ok=0
  ·rw [show i=j by (clear hok hn;lia)];exact Nat.le_refl _
  ·exact hs i j a b (by (clear b a hok hn;lia))
 case fin=>
  rintro c st' ⟨hc,hB',k',hs'⟩;refine ⟨hc,hB',k', ?_⟩;rwa [show min (max (max ok 1) n) n=n by (clear hc hok hn;lia)] at hs'
 case step=>
  rintro k c st' hak hkn ⟨rfl,hB',k',hs'⟩;rw [show min k n=k by (clear hak hok hn;lia)] at hs';have sz:(arrOf st').size=a₀.size:=hB'.size
  refine wpS_bind (wpS_mono (wpS_forRange (I:=fun x c st''=>st''=st' /\ ∃l r,c=(none,l,r)/\l<=r/\r<=k/\r - l<=k - x /\
   (∀i,i<l->R rk (arrOf st') (lo+i)<=R rk (arrOf st') (lo+k))/\(∀i,r<=i->i<k->R rk (arrOf st') (lo+k)<R rk (arrOf st') (lo+i)))
   (Q:=fun c st''=>st''=st' /\ ∃l r,c=(none,l,r)/\l<=k /\
     (∀i,i<l->R rk (arrOf st') (lo+i)<=R rk (arrOf st') (lo+k))/\(∀i,l<=i->i<k->R rk (arrOf st') (lo+k)<R rk (arrOf st') (lo+i))) ?istep ?ifin ?iinit) ?ipost)
  case iinit=>exact ⟨rfl,0,k,rfl,by (clear sz hkn hak hok hn;lia),by (clear sz hkn hak hok hn;lia),by (clear sz hkn hak hok hn;lia),fun i hi=>by (clear sz hkn hak hok hn;lia),fun i h1 h2=>by (clear sz hkn hak hok hn;lia)⟩
  case ifin=>
   rintro c st'' ⟨rfl,l,r,rfl,hlr,hrk,hm,hlo,hhi⟩;have:l=r:=by (clear hrk sz hkn hak hok hn;lia)
   subst this;exact ⟨rfl,l,l,rfl,hrk,hlo,hhi⟩
  case istep=>
   rintro x c st'' _ hxk ⟨rfl,l,r,rfl,hlr,hrk,hm,hlo,hhi⟩;dsimp only;refine jF (fun hge=> ?_) (fun hge=> ?_)
   ·have:l=r:=by (clear hm hrk sz hxk hkn hak hok hn;lia)
    subst this;exact wpS_pure ⟨rfl,l,l,rfl,hrk,hlo,hhi⟩
   ·refine wpS_bind (mZ C hB' (by (clear hge hm hrk hlr sz hxk hak hok;lia)) (by (clear hge hm sz hxk hak hok;lia)) ?_)
    dsimp only;refine jF (fun lt=> ?_) (fun lt=> ?_)
    ·have lt:=of_decide_eq_true lt
     refine wpS_pure ⟨rfl,l,(l+r) / 2,rfl,by (clear lt hge hm hrk sz hxk hkn hak hok hn;lia),by (clear lt hge hm sz hxk hkn hak hok hn;lia),by (clear lt hge hrk hlr sz hxk hkn hak hok hn;lia),hlo,fun i h1 h2=> ?_⟩;exact Nat.lt_of_lt_of_le lt (hs' _ _ (by (clear h2 h1 lt hge hm hrk hlr sz hxk hkn hak hok hn;lia)) (by (clear h2 lt hge hm hrk hlr sz hxk hkn hak hok hn;lia)) (by (clear h1 lt hge hm hrk hlr sz hxk hkn hak hok hn;lia)))
    ·have lt:R rk (arrOf st'') (lo+(l+r) / 2)<=R rk (arrOf st'') (lo+k):=Nat.le_of_not_lt fun z=>lt (decide_eq_true z)
     refine wpS_pure ⟨rfl,(l+r) / 2+1,r,rfl,by (clear lt hm hrk hlr sz hxk hkn hak hok hn;lia),by (clear lt hge hm hlr sz hxk hkn hak hok hn;lia),by (clear lt hge hrk hlr sz hxk hkn hak hok hn;lia),fun i h1=> ?_,hhi⟩;exact Nat.le_trans (hs' (lo+i) (lo+(l+r) / 2) (by (clear h1 lt hge hm hrk hlr sz hxk hkn hak hok hn;lia)) (by (clear lt hge hm hrk hlr sz hxk hkn hak hok hn;lia)) (by (clear h1 lt hm hlr sz hxk hkn hak hok hn;lia))) lt
  case ipost=>
   rintro c st'' ⟨rfl,l,r,rfl,hlk,hlo,hhi⟩;show wpS _ _ _ _ (do moveDown' (lo+k) (lo+l);pure (ForInStep.yield (none,()))) _ _;rw [moveDown'_eq];refine wpS_bind (wpS_modify (wpS_pure ⟨rfl,hB'.setArr (bubble_perm _ _ _),k'.trans ?_, ?_⟩))
   ·intro i hi
    show (bubble (arrOf st'') (lo+k) (lo+k - (lo+l)))[i]? = _;rw [getElem?_bubble (by (clear hi hlk hak hok;lia)) _ (by (clear hi hlk sz hkn hak hok hn;lia)),if_neg (by (clear hlk sz hkn hak hok hn;lia)),if_neg (by (clear hlk sz hkn hak hok hn;lia))]
   rw [show min (k+1) n=k+1 by (clear hlk sz hak hok hn;lia)];intro i j a b c;show R rk (bubble (arrOf st'') (lo+k) (lo+k - (lo+l))) i<=R rk (bubble (arrOf st'') (lo+k) (lo+k - (lo+l))) j;rw [JK (by (clear c b a hlk hak hok;lia)) (by (clear c b a hlk sz hkn hak hok hn;lia)),JK (by (clear c b a hlk hak hok;lia)) (by (clear c b a hlk sz hkn hak hok hn;lia)),show lo+k - (lo+k - (lo+l))=lo+l by (clear c b a sz hkn hak hok hn;lia)]
   have L1:∀i,lo<=i->i<lo+l->R rk (arrOf st'') i<=R rk (arrOf st'') (lo+k):=fun i i1 i2=>by
    have:=hlo (i - lo) (by (clear c b a hlk sz hkn hak hok hn;lia));rwa [show lo+(i - lo)=i by (clear this i2 c b a hlk sz hkn hak hok hn;lia)] at this
   have L2:∀i,lo+l<=i->i<lo+k->R rk (arrOf st'') (lo+k)<R rk (arrOf st'') i:=fun i i1 i2=>by
    have:=hhi (i - lo) (by (clear i2 c b a hlk sz hkn hak hok hn;lia)) (by (clear i1 c b a hlk sz hkn hok hn;lia));rwa [show lo+(i - lo)=i by (clear this i2 c b a hlk sz hkn hak hok hn;lia)] at this
   repeat' split
   all_goals first
    | (exfalso;(clear a hlk sz hkn hak hok hn;lia))
    | exact Nat.le_refl _
    | exact L1 _ (by (clear c b hlk sz hkn hak hok hn;lia)) (by (clear c a hlk sz hkn hak hok hn;lia))
    | exact Nat.le_of_lt (L2 _ (by (clear c b a hlk sz hkn hak hok hn;lia)) (by (clear c b a hlk sz hkn hak hok hn;lia)))
    | exact hs' _ _ (by (clear c b hlk sz hkn hak hok hn;lia)) (by (clear c a hlk sz hkn hak hok hn;lia)) (by (clear b a sz hkn hak hok hn;lia))
end
end Tim
set_option Elab.async false
set_option linter.all false
set_option maxRecDepth 100000
set_option maxHeartbeats 4000000
namespace Tim
open PySem PyProof.Rows
section
variable {prog:Program} {w:World} {A:Around} {E:Value->Shared->Prop} {s:Shared} {κ:SortKind} {a₀:Array Keyed} {rk:Value->Nat} {pd:Array (Nat×Nat×Nat)}
def Dn (rk:Value->Nat) (a₀:Array Keyed) (st:SortSt):Prop:=(arrOf st).Perm a₀/\failedOf st=none/\pendingOf st = #[(0,a₀.size,0)]/\Seg rk (arrOf st) 0 a₀.size
theorem SB.dn {st:SortSt} (hB:SB κ a₀ #[] st) (hs:Seg rk (arrOf st) 0 a₀.size):Dn rk a₀ (setPending st ((pendingOf st).push (0,a₀.size,0))):=
 ⟨hB.perm,hB.failed,by show (pendingOf st).push _=_;rw [hB.pend];rfl,hs⟩
theorem wpS_sortRuns {st:SortSt} {Q:Unit->SortSt->Prop} (C:YB prog w A s κ a₀ rk) (hB:SB κ a₀ #[] st) (h2:2<=a₀.size) (h64:a₀.size<64)
 (h:∀st',(arrOf st').Perm a₀->failedOf st'=none->Seg rk (arrOf st') 0 a₀.size->Q () st'):wpS (model prog w) A E s sortRuns' Q st:=by
 rw [sortRuns'_eq];refine wpS_bind (wpS_get ?_);dsimp only
 have hmr:minRun' a₀.size a₀.size 0=a₀.size:=by
  obtain ⟨f,hf⟩:∃f,a₀.size=f+1:=⟨a₀.size - 1,by omega⟩;have:minRun' (f+1) a₀.size 0=a₀.size:=by rw [minRun'_succ,if_pos h64];rfl
  rwa [←hf] at this
 simp only [hB.size,hmr]
 refine wpS_bind (wpS_mono (wpS_forRange (I:=fun x c st'=>(x=0/\c=(none,0)/\SB κ a₀ #[] st')\/(1<=x/\c=(none,a₀.size)/\Dn rk a₀ st'))
  (Q:=fun c st'=>c=(none,a₀.size)/\Dn rk a₀ st') ?step ?fin (.inl ⟨rfl,rfl,hB⟩)) ?post)
 case fin=>
  rintro c st' (⟨hx,_,_⟩|⟨_,hc,hD⟩)
  ·omega
  ·exact ⟨hc,hD⟩
 case step=>
  rintro x c st' _ hx (⟨rfl,rfl,hB'⟩|⟨hx1,rfl,hD⟩)
  ·dsimp only
   rw [if_neg (by omega)];simp only [Nat.sub_zero,Nat.min_self,Nat.zero_add];refine wpS_bind (wpS_countRun C (by omega) (by omega) hB' fun m st2 hB2 _ m1 m2 hs2=> ?_);dsimp only;rw [Nat.zero_add] at hs2
   by_cases hlt:m<a₀.size
   ·rw [if_pos hlt]
    refine wpS_bind (wpS_lift (wpAny_rule ⟨rfl, ?_⟩));refine wpS_bind (wpS_binarySort C (by omega) m2 hB2 (by rw [Nat.zero_add];exact hs2) fun st3 hB3 _ hs3=> ?_);simp only [Bool.not_true,Bool.false_eq_true,if_false];refine wpS_bind (wpS_get ?_);have hb:(pendingOf st3).back?=none:=by rw [hB3.pend];rfl
    rw [hb];dsimp only;rw [Nat.zero_add] at hs3;exact wpS_bind (wpS_modify (wpS_pure (.inr ⟨by omega,rfl,hB3.dn hs3⟩)))
   ·rw [if_neg hlt]
    have hm:m=a₀.size:=by omega
    subst hm;refine wpS_bind (wpS_get ?_);have hb:(pendingOf st2).back?=none:=by rw [hB2.pend];rfl
    rw [hb];dsimp only;exact wpS_bind (wpS_modify (wpS_pure (.inr ⟨by omega,rfl,hB2.dn hs2⟩)))
  ·dsimp only
   rw [if_pos (Nat.le_refl _)];exact wpS_pure ⟨rfl,hD⟩
 case post=>
  rintro c st' ⟨rfl,hD⟩;dsimp only;refine wpS_bind (wpS_mono (wpS_forRange (I:=fun _ c st''=>st''=st'/\c=(none,())) (Q:=fun c st''=>st''=st'/\c=(none,())) ?_ (fun _ _ hh=>hh) ⟨rfl,rfl⟩) ?_)
  ·rintro x c st'' _ _ ⟨rfl,rfl⟩
   refine wpS_bind (wpS_get ?_);rw [if_pos (by rw [hD.2.2.1];exact Nat.le_refl 1)];exact wpS_pure ⟨rfl,rfl⟩
  ·rintro c st'' ⟨rfl,rfl⟩
   exact wpS_pure (h _ hD.1 hD.2.1 hD.2.2.2)
end
end Tim
set_option Elab.async false
set_option linter.all false
set_option maxRecDepth 100000
set_option maxHeartbeats 4000000
namespace Tim
open PySem PyProof.Rows
section
variable {prog:Program} {w:World} {A:Around} {E:Value->Shared->Prop} {s:Shared} {κ:SortKind} {rk:Value->Nat}
theorem ZP {vs:List Value} {xs:Array Keyed} (hp:xs.Perm (pairsOf vs)) (hs:Seg rk xs 0 (pairsOf vs).size):(xs.map (·.2)).toList.Perm vs/\(xs.map (·.2)).toList.Pairwise (fun x y=>rk x<=rk y):=by
 have hl:xs.toList.Perm (vs.zip vs):=by rw [←pairsOf_toList];exact Array.perm_iff_toList_perm.mp hp
 have hmem:∀p,p∈xs.toList->p.1=p.2:=fun p hp'=>(mem_zip_self (hl.mem_iff.mp hp')).1
 have e:(xs.map (·.2)).toList=xs.toList.map (·.1):=by
  rw [Array.toList_map];exact List.map_congr_left fun p hp'=>(hmem p hp').symm
 rw [e];constructor
 ·have:=hl.map Prod.fst
  rwa [List.map_fst_zip (Nat.le_refl _)] at this
 ·rw [List.pairwise_map,List.pairwise_iff_getElem]
  intro i j hi hj hij;rw [Array.length_toList] at hi hj;have:=hs i j (Nat.zero_le _) (Nat.le_of_lt hij) (by rw [←hp.size_eq];exact hj);rw [Nr hi,Nr hj] at this;simpa using this
theorem Dl {a:Addr} {vs:List Value} {n:Nat} {P:PySem.Fin->Shared->Prop} (ho:s.heap.get? a=some (seqObj "list" vs.toArray n)) (hz:vs.length<=sizeLine) (h64:vs.length<64)
 (hk:2<=vs.length -> ∀h':Heap,(∀b o,b≠a->s.heap.get? b=some o->h'.get? b=some o)->(∀(Q:SortKind->Shared->Prop) (E:Value->Shared->Prop),Q κ {s with heap:=h'}->wpAny (model prog w) A (keyKind' vs.toArray) Q E {s with heap:=h'})/\YB prog w A {s with heap:=h'} κ (pairsOf vs) rk)
 (h:∀out:List Value,out.Perm vs->out.Pairwise (fun x y=>rk x<=rk y)->P (.done (.ret .none)) {s with heap:=sortedHeap s.heap a vs out.toArray}):
 wpAny (model prog w) A (Builtin.«list.sort» ⟨[.ref a],[]⟩) P E s:=by
 rw [list_sort_plain];have ha:a<s.heap.objs.size:=Heap.lt_size ho;refine wpAny_bind (listItems_at ho rfl ?_);refine wpAny_bind (listUpdate_at ho rfl ?_ (by rw [List.size_toArray];exact hz) (Nat.zero_le _));obtain ⟨e1,ho1⟩:∃e1,(s.heap.update a (Obj.mapSeq fun _=> #[])).get? a=some (seqObj "list" #[] e1):=⟨_,get?_update_seq ho (fun _=> #[])⟩;refine wpAny_bind (seqEpoch_at ho1 rfl ?_);refine wpAny_bind (wpAny_newTuple ?_ (by show vs.length<=_;exact hz));refine wpAny_bind (wpAny_newList ?_ (Nat.zero_le _));refine wpAny_holding ?_
 have keep:∀b o,b≠a->s.heap.get? b=some o->(((s.heap.update a (Obj.mapSeq fun _=> #[])).push (seqObj "tuple" vs.toArray 0)).push (seqObj "list" #[] 0)).get? b=some o:=fun b o nb e=>by
  refine Heap.get?_push_of_some _ (Heap.get?_push_of_some _ ?_);rw [Heap.get?_update_ne _ _ _ _ nb];exact e
 have ho6:(((s.heap.update a (Obj.mapSeq fun _=> #[])).push (seqObj "tuple" vs.toArray 0)).push (seqObj "list" #[] 0)).get? a=some (seqObj "list" #[] e1):=Heap.get?_push_of_some _ (Heap.get?_push_of_some _ ho1);show wpAny (model prog w) A _ P E {s with heap:=((s.heap.update a (Obj.mapSeq fun _=> #[])).push (seqObj "tuple" vs.toArray 0)).push (seqObj "list" #[] 0)};dsimp only;have hsz:vs.toArray.size=vs.length:=by simp
 have fin:∀st':SortSt,(arrOf st').Perm (pairsOf vs)->Seg rk (arrOf st') 0 (pairsOf vs).size ->
  P (.done (.ret .none)) {s with heap:=sortedHeap s.heap a vs ((arrOf st').map (·.2))}:=by
  intro st' hp hs;obtain ⟨h1,h2⟩:=ZP hp hs;have:=h _ h1 h2;rwa [Array.toArray_toList] at this
 by_cases h2:vs.toArray.size<2
 ·rw [if_pos h2,if_pos h2]
  refine wpAny_bind (wpAny_pure ?_);rw [StateT.run_pure];refine wpAny_bind (wpAny_pure ?_);dsimp only;refine wpAny_bind (seqEpoch_at ho6 rfl ?_);refine wpAny_bind (listUpdate_at ho6 rfl ?_ (Nat.zero_le _) (by rw [Array.size_map];show (pairsOf vs).size<=_;rw [pairsOf_size];omega));simp only [bne_self_eq_false,Bool.false_eq_true,if_false];refine wpAny_pure (fin (SortSt.mk' general' (vs.toArray.zip vs.toArray) #[] 7 none) (Array.Perm.refl _) ?_);intro i j _ hij hj;have:i=j:=by rw [pairsOf_size] at hj;omega
  subst this;exact Nat.le_refl _
 ·rw [if_neg h2,if_neg h2]
  obtain ⟨kk,kc⟩:=hk (by omega) _ keep;refine wpAny_bind (kk _ _ ?_)
  refine wpAny_bind (wpAny_mono (wpS_sortRuns (a₀:=pairsOf vs) (rk:=rk) (st:=SortSt.mk' κ (vs.toArray.zip vs.toArray) #[] 7 none)
   (Q:=fun _ st'=>(arrOf st').Perm (pairsOf vs)/\failedOf st'=none/\Seg rk (arrOf st') 0 (pairsOf vs).size)
   kc ⟨Array.Perm.refl _,rfl,rfl,rfl⟩ (by rw [pairsOf_size];omega) (by rw [pairsOf_size];exact h64) fun st' a1 a2 a3=>⟨a1,a2,a3⟩) ?_ fun _ _ e=>e)
  rintro ⟨⟨⟩,st'⟩ s' ⟨rfl,hp,hf,hs⟩;dsimp only;refine wpAny_bind (seqEpoch_at ho6 rfl ?_);refine wpAny_bind (listUpdate_at ho6 rfl ?_ (Nat.zero_le _) (Nat.le_trans (Nat.le_of_eq ((Array.size_map ..).trans (hp.size_eq.trans (pairsOf_size _)))) (Nat.le_succ_of_le hz)));rw [hf];simp only [bne_self_eq_false,Bool.false_eq_true,if_false];exact wpAny_pure (fin st' hp hs)
theorem Ka {l:Addr} {vs:List Value} {Q:Value->Shared->Prop} (hl:s.heap.IsList l vs.toArray) (hz:vs.length<=sizeLine) (h64:vs.length<64)
 (hk:2<=vs.length -> ∀h':Heap,(∀b o,s.heap.get? b=some o->h'.get? b=some o)->(∀(Q:SortKind->Shared->Prop) (E:Value->Shared->Prop),Q κ {s with heap:=h'}->wpAny (model prog w) A.in1.in1 (keyKind' vs.toArray) Q E {s with heap:=h'})/\YB prog w A.in1.in1 {s with heap:=h'} κ (pairsOf vs) rk)
 (h:∀(h':Heap) (D:Addr) (c:Nat) (out:List Value),(∀b o,s.heap.get? b=some o->h'.get? b=some o)->s.heap.objs.size<=D->h'.get? D=some (seqObj "list" out.toArray c)->out.Perm vs->out.Pairwise (fun x y=>rk x<=rk y)->Q (.ref D) {s with heap:=h'}):
 wpAny (model prog w) A (call (.builtin "sorted") [.ref l]) Q E s:=by
 refine Calls.call_function_entry kind_sorted plain_sorted entry_sorted (args_sorted1 _) ?_;unfold Builtin.«sorted»;refine wpAny_bind (m:=checkCount "sorted" 1 1 _) (wpAny_pure ?_);refine wpAny_bind (collect_list hl ?_ hz);refine wpAny_bind (wpAny_newList ?_ hz)
 have hsz:((s.heap.push (seqObj "list" #[] 0)).update s.heap.objs.size (Obj.mapSeq (· ++ vs.toArray))).objs.size=s.heap.objs.size+1:=by
  rw [Heap.size_update,size_push']
 have hoL:(((s.heap.push (seqObj "list" #[] 0)).update s.heap.objs.size (Obj.mapSeq (· ++ vs.toArray))).push (seqObj "list" vs.toArray 0)).get? (s.heap.objs.size+1)=some (seqObj "list" vs.toArray 0):=by
  rw [←hsz];exact Heap.get?_push_size _ rfl
 have keep:∀b o,s.heap.get? b=some o->(((s.heap.push (seqObj "list" #[] 0)).update s.heap.objs.size (Obj.mapSeq (· ++ vs.toArray))).push (seqObj "list" vs.toArray 0)).get? b=some o:=fun b o q=>by
  have hlt:b<s.heap.objs.size:=Heap.lt_size q;rw [Heap.get?_push_ne _ _ _ (by rw [hsz];exact Nat.ne_of_lt (Nat.lt_succ_of_lt hlt)),Heap.get?_update_ne _ _ _ _ (Nat.ne_of_lt hlt),Heap.get?_push_ne _ _ _ (Nat.ne_of_lt hlt)];exact q
 show wpAny _ _ _ _ _ {s with heap:=((s.heap.push (seqObj "list" #[] 0)).update s.heap.objs.size (Obj.mapSeq (· ++ vs.toArray))).push (seqObj "list" vs.toArray 0)};rw [hsz];generalize ((s.heap.push (seqObj "list" #[] 0)).update s.heap.objs.size (Obj.mapSeq (· ++ vs.toArray))).push (seqObj "list" vs.toArray 0)=h1 at keep hoL ⊢;have nD:∀b o,s.heap.get? b=some o->b≠s.heap.objs.size+1:=fun b o e=>Nat.ne_of_lt (Nat.lt_succ_of_lt (Heap.lt_size e));refine wpAny_bind (wpAny_holding (wpAny_call_entry slot_list_sort ⟨_,hoL,rfl⟩ entry_list_sort (Dl (s:={s with heap:=h1}) hoL hz h64 (fun h2 h' kp=>hk h2 h' fun b o e=>kp b o (nD b o e) (keep b o e)) fun out p1 p2=>⟨_,rfl, ?_⟩) (args_list_sort _)));refine wpAny_pure ⟨_,rfl, ?_⟩;obtain ⟨e1,ho1⟩:∃e1,(h1.update (s.heap.objs.size+1) (Obj.mapSeq fun _=> #[])).get? (s.heap.objs.size+1)=some (seqObj "list" #[] e1):=⟨_,get?_update_seq hoL (fun _=> #[])⟩;have ho2:(((h1.update (s.heap.objs.size+1) (Obj.mapSeq fun _=> #[])).push (seqObj "tuple" vs.toArray 0)).push (seqObj "list" #[] 0)).get? (s.heap.objs.size+1)=some (seqObj "list" #[] e1):=Heap.get?_push_of_some _ (Heap.get?_push_of_some _ ho1);refine h (sortedHeap h1 (s.heap.objs.size+1) vs out.toArray) _ _ out (fun b o e=> ?_) (Nat.le_succ _) (by unfold sortedHeap;exact get?_update_seq ho2 (fun _=>out.toArray)) p1 p2;unfold sortedHeap;rw [Heap.get?_update_ne _ _ _ _ (nD b o e)];refine Heap.get?_push_of_some _ (Heap.get?_push_of_some _ ?_);rw [Heap.get?_update_ne _ _ _ _ (nD b o e)];exact keep b o e
end
section
theorem Et {α:Type} {p q:α->Bool} {u:α}:∀{l:List α},u∈l->q u=true->p u=false->(∀x,p x=true->q x=true)->l.countP p<l.countP q
 | [],hm,_,_,_=>by simp at hm
 | x::l,hm,hq,hp,hi=>by
   have mono:l.countP p<=l.countP q:=List.countP_mono_left fun x _=>hi x;rw [List.countP_cons,List.countP_cons];rcases List.mem_cons.mp hm with rfl|hm
   ·rw [hq,hp];simp;omega
   ·have:=Et hm hq hp hi
    cases e:p x with
    | true=>rw [hi x e];simp;omega
    | false=>simp;omega
def rR {α:Type} (L:α->α->Bool) (vs:List α) (v:α):Nat:=vs.countP fun u=>L u v
structure Swo {α:Type} (L:α->α->Bool):Prop where
 irr:∀a,L a a=false
 tr:∀a b c,L a b=true->L b c=true->L a c=true
 ntr:∀a b c,L a b=false->L b c=false->L a c=false
theorem Mj {α:Type} {L:α->α->Bool} (S:Swo L) {vs:List α} {u v:α} (hu:u∈vs):decide (rR L vs u<rR L vs v)=L u v:=by
 cases e:L u v with
 | true=>exact decide_eq_true (Et hu e (S.irr u) fun x hx=>S.tr x u v hx e)
 | false=>
   refine decide_eq_false fun z=> ?_
   have:rR L vs v<=rR L vs u:=List.countP_mono_left fun x _ hx=>by
    cases e':L x u with
    | true=>rfl
    | false=>rw [S.ntr x u v e' e] at hx;cases hx
   omega
theorem VJ {α:Type} {L:α->α->Bool} (S:Swo L) {vs:List α} {u v:α} (hv:v∈vs) (h:rR L vs u<=rR L vs v):L v u=false:=by
 have:=Mj S (u:=v) (v:=u) hv;rw [←this];exact decide_eq_false (by omega)
def nO:List Int->List Int->Bool
 | _,[]=>false
 | [],_::_=>true
 | a::as,b::bs=>if a=b then nO as bs else decide (a<b)
theorem IW (a:List Int):nO a []=false:=by cases a<;>rfl
theorem I_:∀a,nO a a=false
 | []=>rfl
 | a::as=>by unfold nO;rw [if_pos rfl];exact I_ as
theorem MJ:∀a b c,nO a b=true->nO b c=true->nO a c=true
 | a,[],_,h,_=>by rw [IW] at h;cases h
 | [],_::_,[],_,h=>by cases h
 | [],_::_,_::_,_,_=>rfl
 | _::_,_::_,[],_,h=>by cases h
 | a::as,b::bs,c::cs,h1,h2=>by
   unfold nO at h1 h2 ⊢
   by_cases e1:a=b
   ·rw [if_pos e1] at h1
    by_cases e2:b=c
    ·rw [if_pos e2] at h2
     rw [if_pos (e1.trans e2)];exact MJ as bs cs h1 h2
    ·rw [if_neg e2] at h2
     rw [if_neg (e1▸e2),e1];exact h2
   ·rw [if_neg e1] at h1
    have h1:=of_decide_eq_true h1
    by_cases e2:b=c
    ·rw [←e2,if_neg e1];exact decide_eq_true h1
    ·rw [if_neg e2] at h2
     have h2:=of_decide_eq_true h2;rw [if_neg (by omega)];exact decide_eq_true (by omega)
theorem IV:∀a b c,nO a b=false->nO b c=false->nO a c=false
 | a,_,[],_,_=>IW a
 | [],[],_::_,_,h=>by cases h
 | [],_::_,_::_,h,_=>by cases h
 | _::_,[],_::_,_,h=>by cases h
 | a::as,b::bs,c::cs,h1,h2=>by
   unfold nO at h1 h2 ⊢
   by_cases e1:a=b
   ·rw [if_pos e1] at h1
    by_cases e2:b=c
    ·rw [if_pos e2] at h2
     rw [if_pos (e1.trans e2)];exact IV as bs cs h1 h2
    ·rw [if_neg e2] at h2
     rw [if_neg (e1▸e2),e1];exact h2
   ·rw [if_neg e1] at h1
    have h1:=of_decide_eq_false h1
    by_cases e2:b=c
    ·rw [←e2,if_neg e1];exact decide_eq_false h1
    ·rw [if_neg e2] at h2
     have h2:=of_decide_eq_false h2;rw [if_neg (by omega)];exact decide_eq_false (by omega)
theorem L_ {α:Type} (key:α->List Int):Swo fun a b=>nO (key a) (key b):=⟨fun a=>I_ _,fun a b c=>MJ _ _ _,fun a b c=>IV _ _ _⟩
end
end Tim
set_option Elab.async false
set_option linter.all false
set_option maxRecDepth 100000
set_option maxHeartbeats 4000000
namespace L2
open PySem PySem.Spec PyProof.Rows PySem.W
section
variable {X:Cx}
def keyOf (h:Heap):Value->List Int
 | .int n _=>[n]
 | .ref a=>match h.get? a with
   | some o=>match o.data with
     | .seq xs _=>xs.toList.map numOf
     | _=>[]
   | none=>[]
 | _=>[]
theorem MF {prog:Program} {w:World} {A:Around} {s:Shared} {Q:Bool->Shared->Prop}:∀(xs ys:List Value) (ns ms:List Int) (i:Nat),IntsAre xs ns->IntsAre ys ms -> ∀(fin:Bool),(ns.length=ms.length->fin=false)->ns.length=ms.length->Q (Tim.nO ns ms) s->KatLex prog w A true fin Q (xs.zip ys) i s
 | _,_,[],[],i,.nil,.nil,fin,hf,_,h=>by
   show Q fin s;rw [hf rfl];exact h
 | _,_,_::_,[],_,_,_,_,_,hl,_=>by cases hl
 | _,_,[],_::_,_,_,_,_,_,hl,_=>by cases hl
 | _,_,n::ns,m::ms,i,.cons _ t hx,.cons _ u hy,fin,hf,hl,h=>by
   rw [List.zip_cons_cons];refine kat_cons (wpAny_eqBool_int ?_);have hl':ns.length=ms.length:=by simpa using hl
   by_cases e:n=m
   ·subst e
    rw [show (n==n)=true by simp];refine kat_yes (MF _ _ ns ms (i+1) hx hy fin (fun z=>hf (by simpa using z)) hl' ?_);unfold Tim.nO at h;rwa [if_pos rfl] at h
   ·rw [show (n==m)=false by simpa using e]
    unfold Tim.nO at h;rw [if_neg e] at h;refine kat_no ?_;cases (true&&i==0) with
    | true=>exact oneLt_int h
    | false=>exact kat_one _ _ (lt_int (show W.BoolBack Q (.bool (decide (n<m))) s from h))
theorem tY {h:Heap} {a:Addr} {its:List Value} {ns:List Int} (ht:IsTup h a its.toArray) (hi:IntsAre its ns):keyOf h (.ref a)=ns:=by
 obtain ⟨o,e,_,n,d⟩:=ht
 show (match h.get? a with
  | some o=>match o.data with
    | .seq xs _=>xs.toList.map numOf
    | _=>[]
  | none=>[])=ns
 rw [e];dsimp only;rw [d];dsimp only;exact hi.nums
def Nq (h:Heap) (k:Nat) (vs:List Value):Prop:=∀v∈vs,∃a its ns,v = .ref a/\IsTup h a its.toArray/\IntsAre its ns/\ns.length=k
theorem QZ {prog:Program} {w:World} {A:Around} {s:Shared} {vs:List Value} {k:Nat} {h0:Heap} (T:Nq h0 k vs) (kp:∀b o,h0.get? b=some o->s.heap.get? b=some o):
 Tim.YB prog w A s (tuples' true) (pairsOf vs) (Tim.rR (fun a b=>Tim.nO (keyOf h0 a) (keyOf h0 b)) vs):=by
 refine ⟨fun p hp q hq E Q h=> ?_⟩;rw [pairsOf_toList] at hp hq;obtain ⟨_,mp⟩:=mem_zip_self hp;obtain ⟨_,mq⟩:=mem_zip_self hq;rw [Tim.Mj (Tim.L_ (keyOf h0)) mp] at h;obtain ⟨a,its,ns,ep,ta,ia,la⟩:=T _ mp;obtain ⟨b,jts,ms,eq,tb,ib,lb⟩:=T _ mq;rw [ep,eq] at h ⊢;rw [tY ta ia,tY tb ib] at h;obtain ⟨oa,ea,ca,n1,da⟩:=ta;obtain ⟨ob,eb,cb,n2,db⟩:=tb;have l1:its.length=ns.length:=ia.length;have l2:jts.length=ms.length:=ib.length;refine kat_lt (kp _ _ ea) da (kp _ _ eb) db ?_;have e1:its.toArray.toList=its:=by simp
 have e2:jts.toArray.toList=jts:=by simp
 rw [e1,e2];exact MF its jts ns ms 0 ia ib _ (fun z=>decide_eq_false (by rw [List.size_toArray,List.size_toArray];omega)) (by omega) h
theorem yU {h0 h1:Heap} {k:Nat} (hk:1<=k) (kp:∀b o,h0.get? b=some o->h1.get? b=some o):∀{vs:List Value},Nq h0 k vs -> ∃fs,KatTups h1 vs fs/\fs.length=vs.length /\ ∀f∈fs,∃n t,f=Value.int n t
 | [],_=>⟨[],trivial,rfl,fun _ z=>absurd z (by simp)⟩
 | v::vs,T=>by
   obtain ⟨fs,t1,t2,t3⟩:=yU hk kp (vs:=vs) fun u hu=>T u (List.mem_cons_of_mem _ hu);obtain ⟨a,its,ns,rfl,⟨o,e,c,n,d⟩,ia,la⟩:=T v (List.mem_cons_self ..)
   match its,ns,ia,la,d with
   | _,_,.nil,la,d=>simp at la;omega
   | _,_,.cons m t r,la,d=>
     refine ⟨_::fs,KatTups.cons (kp _ _ e) c d rfl t1,by simp [t2],fun f hf=> ?_⟩;rcases List.mem_cons.mp hf with rfl|hf
     ·exact ⟨_,_,rfl⟩
     ·exact t3 f hf
theorem NZ {prog:Program} {w:World} {A:Around} {s:Shared} {vs:List Value} {k:Nat} {h0:Heap} {Q:SortKind->Shared->Prop} {E:Value->Shared->Prop} (hk:1<=k) (T:Nq h0 k vs) (hv:2<=vs.length) (kp:∀b o,h0.get? b=some o->s.heap.get? b=some o)
 (h:Q (tuples' true) s):wpAny (model prog w) A (keyKind' vs.toArray) Q E s:=by
 obtain ⟨fs,t1,t2,t3⟩:=yU hk kp T;refine kat_kind (T:= .type "int") t1 (by omega) (fun v hv=> ?_) rfl h;obtain ⟨n,t,rfl⟩:=t3 v hv;exact .now
theorem Nz {ys:List V} {us out:List Value} (r:Vals ys us) (p:out.Perm us):∃zs,Vals zs out/\zs.Perm ys:=by
 induction p generalizing ys with
 | nil=>cases r;exact ⟨[],.nil,.refl _⟩
 | cons x p ih=>
   cases r with
   | cons rx rt=>
     obtain ⟨zs,z1,z2⟩:=ih rt;exact ⟨_::zs,.cons rx z1,.cons _ z2⟩
 | swap x y l=>
   cases r with
   | cons rx rt=>
     cases rt with
     | cons ry rl=>exact ⟨_,.cons ry (.cons rx rl),.swap _ _ _⟩
 | trans p q ih1 ih2=>
   obtain ⟨zs,z1,z2⟩:=ih2 r;obtain ⟨ws,w1,w2⟩:=ih1 z1;exact ⟨ws,w1,w2.trans z2⟩
theorem Ej:∀{ns:List Int} {vs:List Value},Vals (ns.map V.int) vs->IntsAre vs ns
 | [],_,.nil=> .nil
 | n::ns,_,.cons ⟨t,e⟩ r=>by subst e;exact .cons n t (Ej r)
theorem DP {R:Value->Value->Prop} {S:V->V->Prop} (hRS:∀x y u v,RelV x u->RelV y v->R u v->S x y):∀{zs:List V} {out:List Value},Vals zs out->out.Pairwise R->zs.Pairwise S
 | _,_,.nil,_=> .nil
 | _,_,.cons rx rt,p=>by
   rw [List.pairwise_cons] at p;refine .cons (fun y hy=> ?_) (DP hRS rt p.2);obtain ⟨i,hi,e⟩:=List.getElem_of_mem hy;obtain ⟨v,hv,ry⟩:=Vals.get rt (i:=i) (x:=y) (by rw [List.getElem?_eq_getElem hi,e]);exact hRS _ _ _ _ rx ry (p.1 v (List.mem_of_getElem? hv))
def anH (K:PySem.W.Frag) (H:Hp) (k:Nat) (f:V->List Int) (x:V):Prop:=∃a,x = .ref a/\cQ K H a ((f x).map V.int)/\(f x).length=k
def Kl (K:PySem.W.Frag):List V->Hp->VK->Prop:=fun xs H Q=>∃(p:Addr) (ys:List V) (k:Nat) (f:V->List Int),xs=[.ref p]/\bL K H p ys/\ys.length<64/\1<=k/\(∀y∈ys,anH K H k f y) /\
 ∀l zs,H l=none->zs.Perm ys->zs.Pairwise (fun x y=>Tim.nO (f y) (f x)=false)->Q (.ref l) (upd H l (.lst zs))
theorem Le:jZ X (.builtin "sorted") (Kl X.K):=by
 intro pins s σ H xs us Q I r h;obtain ⟨p,ys,k,f,rfl,hq,h64,hk,ht,q⟩:=h;obtain ⟨u,rfl,rx⟩:=vals1 r;cases rx;obtain ⟨its,rv,pl,hz⟩:=I.list hq;have hlen:its.length=ys.length:=by rw [←rv.length]
 have item:∀x v,x∈ys->RelV x v -> ∃a jts,v = .ref a/\IsTup s.heap a jts.toArray/\IntsAre jts (f x)/\(f x).length=k:=by
  intro x v hx rxv;obtain ⟨a,rfl,sq,hl⟩:=ht x hx;cases rxv;obtain ⟨jts,rj,tj,_⟩:=I.tuple sq;exact ⟨a,jts,rfl,tj,Ej rj,hl⟩
 have T:Nq s.heap k its:=fun v hv=>by
  obtain ⟨i,hi,e⟩:=List.getElem_of_mem hv;have hy:i<ys.length:=by omega
  obtain ⟨v',hv',ry⟩:=rv.get (i:=i) (x:=ys[i]) (by rw [List.getElem?_eq_getElem hy]);rw [List.getElem?_eq_getElem hi,e] at hv';cases hv';obtain ⟨a,jts,e1,e2,e3,e4⟩:=item _ _ (List.getElem_mem hy) ry;exact ⟨a,jts,_,e1,e2,e3,e4⟩
 refine Tim.Ka (κ:=tuples' true) (rk:=Tim.rR (fun a b=>Tim.nO (keyOf s.heap a) (keyOf s.heap b)) its) pl.isList (by omega) (by omega)
  (fun h2 h' kp=>⟨fun Q E hQ=>NZ hk T h2 kp hQ,QZ T kp⟩) fun h' D c out kp hD hd hp hs=> ?_
 obtain ⟨zs,z1,z2⟩:=Nz rv hp;have hzl:zs.length<=sizeLine:=by rw [z2.length_eq];omega
 refine ⟨.ref D,_,I.laid (t':=s.toks) kp hD (show dG X.prog X.w _ h' _ (.lst zs) from ⟨hzl,out,c,z1,hd⟩),rfl,q D zs (I.hok.fresh hD) z2 ?_⟩
 have hs':out.Pairwise (fun u v=>u∈its/\v∈its/\Tim.nO (keyOf s.heap v) (keyOf s.heap u)=false):=by
  refine List.Pairwise.imp_of_mem (fun {u v} hu hv huv=> ?_) hs;have mu:=hp.mem_iff.mp hu;have mv:=hp.mem_iff.mp hv;exact ⟨mu,mv,Tim.VJ (Tim.L_ (keyOf s.heap)) mv huv⟩
 have zin:∀z∈zs,z∈ys:=fun z hz=>z2.mem_iff.mp hz
 have zp:zs.Pairwise (fun x y=>x∈zs/\y∈zs):=by
  rw [List.pairwise_iff_getElem];intro i j hi hj _;exact ⟨List.getElem_mem hi,List.getElem_mem hj⟩
 have:=DP (S:=fun x y=>x∈ys->y∈ys->Tim.nO (f y) (f x)=false) (fun x y u v rx ry huv hx hy=>by
  obtain ⟨a,jts,rfl,e2,e3,e4⟩:=item x u hx rx;obtain ⟨b,kts,rfl,g2,g3,g4⟩:=item y v hy ry;have:=huv.2.2;rwa [tY e2 e3,tY g2 g3] at this) z1 hs'
 exact List.Pairwise.imp₂ (fun {x y} (h1:x∈ys->y∈ys->Tim.nO (f y) (f x)=false) (h2:x∈zs/\y∈zs)=>h1 (zin _ h2.1) (zin _ h2.2)) this zp
theorem JB {K:PySem.W.Frag} (hK:X.K=K):jZ X (.builtin "sorted") (Kl K):=by subst hK;exact Le
end
end L2
set_option Elab.async false
set_option linter.all false
set_option maxRecDepth 100000
set_option maxHeartbeats 4000000
namespace Prf
open PySem L2
def top (i:Nat):Stmt:=PySem.Challenge.pw_fewnotes_k50_replays_made.main.body.getD i (.Pass ⟨0,0,0,0⟩)
abbrev gw:Stmt:=top 10
abbrev gA:Stmt:=top 11
abbrev iB:Stmt:=top 14
abbrev fG:Stmt:=inClass (top 18) 0
abbrev cX:Stmt:=inClass (top 18) 1
abbrev cW:Stmt:=inClass (top 18) 3
abbrev iC:Stmt:=inClass (top 18) 4
abbrev eN:Stmt:=inClass (top 18) 5
abbrev fB:Stmt:=inClass (top 18) 6
abbrev cB:Stmt:=inClass (top 18) 7
abbrev bW:Stmt:=inClass (top 19) 0
abbrev eG:Stmt:=inClass (top 19) 1
abbrev cF:Stmt:=inClass (top 19) 2
abbrev fu:Stmt:=inClass (top 19) 6
abbrev cV:Stmt:=inClass (top 19) 7
abbrev eF:Stmt:=inClass (top 19) 8
abbrev cO:Stmt:=inClass (top 19) 9
abbrev cN:Stmt:=top 20
abbrev iz:Stmt:=top 22
abbrev dI:Stmt:=top 24
abbrev eE:Stmt:=top 25
abbrev wg:Stmt:=top 26
abbrev fj:Stmt:=top 27
abbrev dN:Stmt:=inClass (top 29) 0
abbrev dJ:Stmt:=inClass (top 29) 1
abbrev cG:Stmt:=inClass (top 29) 2
abbrev cH:Stmt:=inClass (top 29) 3
abbrev dO:Stmt:=inClass (top 29) 4
abbrev cP:Stmt:=inClass (top 29) 5
abbrev dR:Stmt:=inClass (top 29) 6
abbrev dM:Stmt:=inClass (top 29) 9
abbrev cI:Stmt:=inClass (top 29) 10
abbrev jJ:Stmt:=top 30
abbrev mQ:Stmt:=top 32
abbrev mW:Stmt:=top 33
abbrev iV:Stmt:=top 34
abbrev mR:Stmt:=top 35
abbrev jM:Stmt:=top 36
abbrev jN:Stmt:=top 37
abbrev jK:Stmt:=top 38
abbrev qC:Stmt:=top 39
abbrev mV:Stmt:=top 40
abbrev mU:Stmt:=top 41
abbrev jO:Stmt:=top 42
abbrev dH:Stmt:=top 43
abbrev jL:Stmt:=top 44
abbrev mO:Stmt:=top 45
abbrev rQ:Stmt:=top 46
structure rC (mg:Str->Option Value):Prop where
 Hl:mg "ValueError" = none
 Nj:mg "all" = none
 CQ:mg "bool" = none
 JF:mg "enumerate" = none
 CP:mg "int" = none
 bK:mg "isinstance" = none
 gk:mg "len" = none
 iU:mg "list" = none
 aps:mg "max" = none
 ad6:mg "min" = none
 mY:mg "range" = none
 Uy:mg "sorted" = none
 ad5:mg "str" = none
 Yu:mg "sum" = none
 zQ:mg "tuple" = none
 ad4:mg "zip" = none
theorem HY:bw ["value"] ["value"] (ao gw):=⟨rfl,rfl,rfl,by decide +kernel,rfl,by decide +kernel,by decide +kernel⟩
theorem H_:bw ["value","count"] ["value","count"] (ao gA):=⟨rfl,rfl,rfl,by decide +kernel,rfl,by decide +kernel,by decide +kernel⟩
theorem Ke:bw ["row"] ["row"] (ao iB):=⟨rfl,rfl,rfl,by decide +kernel,rfl,by decide +kernel,by decide +kernel⟩
theorem FZ:bw ["self","rows"] ["self","rows"] (ao fG):=⟨rfl,rfl,rfl,by decide +kernel,rfl,by decide +kernel,by decide +kernel⟩
theorem qR:bw ["self","other"] ["self"] (ao cX):=⟨rfl,rfl,rfl,by decide +kernel,rfl,by decide +kernel,by decide +kernel⟩
theorem mF:bw ["self","done"] ["self"] (ao cW):=⟨rfl,rfl,rfl,by decide +kernel,rfl,by decide +kernel,by decide +kernel⟩
theorem Kf:bw ["self","row"] ["self","row"] (ao iC):=⟨rfl,rfl,rfl,by decide +kernel,rfl,by decide +kernel,by decide +kernel⟩
theorem o7:bw ["self","row","left","right"] ["self","row"] (ao eN):=⟨rfl,rfl,rfl,by decide +kernel,rfl,by decide +kernel,by decide +kernel⟩
theorem FW:bw ["self","box","number"] ["self","box","number"] (ao fB):=⟨rfl,rfl,rfl,by decide +kernel,rfl,by decide +kernel,by decide +kernel⟩
theorem iy:bw ["self","part","left","right"] ["self","part"] (ao cB):=⟨rfl,rfl,rfl,by decide +kernel,rfl,by decide +kernel,by decide +kernel⟩
theorem oZ:bw ["self","program","cells","one"] ["self","program","cells"] (ao bW):=⟨rfl,rfl,rfl,by decide +kernel,rfl,by decide +kernel,by decide +kernel⟩
theorem oY:bw ["self","hand","one","touch"] ["self","hand"] (ao eG):=⟨rfl,rfl,rfl,by decide +kernel,rfl,by decide +kernel,by decide +kernel⟩
theorem eZ:bw ["self","one","row","cell","read","written"] ["self","one"] (ao cF):=⟨rfl,rfl,rfl,by decide +kernel,rfl,by decide +kernel,by decide +kernel⟩
theorem FT:bw ["self","hand"] ["self","hand"] (ao fu):=⟨rfl,rfl,rfl,by decide +kernel,rfl,by decide +kernel,by decide +kernel⟩
theorem zy:bw ["self"] ["self"] (ao cV):=⟨rfl,rfl,rfl,by decide +kernel,rfl,by decide +kernel,by decide +kernel⟩
theorem uh:bw ["self","other"] ["self"] (ao eF):=⟨rfl,rfl,rfl,by decide +kernel,rfl,by decide +kernel,by decide +kernel⟩
theorem yt:bw ["self","hand"] ["self","hand"] (ao cO):=⟨rfl,rfl,rfl,by decide +kernel,rfl,by decide +kernel,by decide +kernel⟩
theorem yr:bw ["cells","count"] ["cells","count"] (ao cN):=⟨rfl,rfl,rfl,by decide +kernel,rfl,by decide +kernel,by decide +kernel⟩
theorem Kd:bw ["value"] ["value"] (ao iz):=⟨rfl,rfl,rfl,by decide +kernel,rfl,by decide +kernel,by decide +kernel⟩
theorem A_:bw ["record"] ["record"] (ao dI):=⟨rfl,rfl,rfl,by decide +kernel,rfl,by decide +kernel,by decide +kernel⟩
theorem Dh:bw ["counts","note"] ["counts","note"] (ao eE):=⟨rfl,rfl,rfl,by decide +kernel,rfl,by decide +kernel,by decide +kernel⟩
theorem Zm:bw ["done","touch"] ["done","touch"] (ao wg):=⟨rfl,rfl,rfl,by decide +kernel,rfl,by decide +kernel,by decide +kernel⟩
theorem qz:bw ["record","firsts","note"] ["record"] (ao fj):=⟨rfl,rfl,rfl,by decide +kernel,rfl,by decide +kernel,by decide +kernel⟩
theorem Bd:bw ["self","works","record"] ["self","works","record"] (ao dN):=⟨rfl,rfl,rfl,by decide +kernel,rfl,by decide +kernel,by decide +kernel⟩
theorem nA:bw ["self","hand","holding","touch"] ["self","hand"] (ao dJ):=⟨rfl,rfl,rfl,by decide +kernel,rfl,by decide +kernel,by decide +kernel⟩
theorem vX:bw ["self","hand"] ["self","hand"] (ao cG):=⟨rfl,rfl,rfl,by decide +kernel,rfl,by decide +kernel,by decide +kernel⟩
theorem n_:bw ["self","hand","touch"] ["self","hand"] (ao cH):=⟨rfl,rfl,rfl,by decide +kernel,rfl,by decide +kernel,by decide +kernel⟩
theorem Bf:bw ["self"] ["self"] (ao dO):=⟨rfl,rfl,rfl,by decide +kernel,rfl,by decide +kernel,by decide +kernel⟩
theorem yu:bw ["self"] ["self"] (ao cP):=⟨rfl,rfl,rfl,by decide +kernel,rfl,by decide +kernel,by decide +kernel⟩
theorem Bg:bw ["self"] ["self"] (ao dR):=⟨rfl,rfl,rfl,by decide +kernel,rfl,by decide +kernel,by decide +kernel⟩
theorem jH:bw ["self","touches","hand","count"] ["self"] (ao dM):=⟨rfl,rfl,rfl,by decide +kernel,rfl,by decide +kernel,by decide +kernel⟩
theorem vY:bw ["self"] ["self"] (ao cI):=⟨rfl,rfl,rfl,by decide +kernel,rfl,by decide +kernel,by decide +kernel⟩
theorem m5:bw ["works","record","choose","replay","order","free","hand"] ["works","record","choose"] (ao jJ):=⟨rfl,rfl,rfl,by decide +kernel,rfl,by decide +kernel,by decide +kernel⟩
theorem rP:bw ["script","stir","cell","great"] ["script"] (ao mQ):=⟨rfl,rfl,rfl,by decide +kernel,rfl,by decide +kernel,by decide +kernel⟩
theorem v9:bw ["reel","many","rest","told","stir"] ["reel","many"] (ao mW):=⟨rfl,rfl,rfl,by decide +kernel,rfl,by decide +kernel,by decide +kernel⟩
theorem DX:bw ["found","due"] ["found","due"] (ao iV):=⟨rfl,rfl,rfl,by decide +kernel,rfl,by decide +kernel,by decide +kernel⟩
theorem vZ:bw ["reel","counts","able","hand","other"] ["reel","counts"] (ao mR):=⟨rfl,rfl,rfl,by decide +kernel,rfl,by decide +kernel,by decide +kernel⟩
theorem tR:bw ["reel","note","counts","place","far","low","changed"] ["reel","note","counts","place"] (ao jM):=⟨rfl,rfl,rfl,by decide +kernel,rfl,by decide +kernel,by decide +kernel⟩
theorem kW:bw ["reel","counts","spoil","many","at","place","some"] ["reel","counts"] (ao jN):=⟨rfl,rfl,rfl,by decide +kernel,rfl,by decide +kernel,by decide +kernel⟩
theorem Oa:bw ["counts","hand","k"] ["counts","hand","k"] (ao jK):=⟨rfl,rfl,rfl,by decide +kernel,rfl,by decide +kernel,by decide +kernel⟩
theorem v8:bw ["counts","some","hands","hand","k","other","m"] ["counts","some","hands"] (ao qC):=⟨rfl,rfl,rfl,by decide +kernel,rfl,by decide +kernel,by decide +kernel⟩
theorem Rm:bw ["caught"] ["caught"] (ao mV):=⟨rfl,rfl,rfl,by decide +kernel,rfl,by decide +kernel,by decide +kernel⟩
theorem v7:bw ["works","record","caught","e"] ["works","record"] (ao mU):=⟨rfl,rfl,rfl,by decide +kernel,rfl,by decide +kernel,by decide +kernel⟩
theorem Ob:bw ["seen","free"] ["seen","free"] (ao jO):=⟨rfl,rfl,rfl,by decide +kernel,rfl,by decide +kernel,by decide +kernel⟩
theorem nF:bw ["works","record","seen","caught","e"] ["works","record"] (ao dH):=⟨rfl,rfl,rfl,by decide +kernel,rfl,by decide +kernel,by decide +kernel⟩
theorem tQ:bw ["works","counts","some","hands","handed","due","one"] ["works","counts","some","hands"] (ao jL):=⟨rfl,rfl,rfl,by decide +kernel,rfl,by decide +kernel,by decide +kernel⟩
theorem Rk:bw ["many","last"] ["many","last"] (ao mO):=⟨rfl,rfl,rfl,by decide +kernel,rfl,by decide +kernel,by decide +kernel⟩
theorem rO:bw ["script","reel","k","hands","many","works","counts"] ["script"] (ao rQ):=⟨rfl,rfl,rfl,by decide +kernel,rfl,by decide +kernel,by decide +kernel⟩
structure iG (K:PySem.W.Frag) (C:Addr):Prop where
 cls:Cls K C
 rW:fZ K C "rows"
 yE:fZ K C "at"
 nM:fZ K C "in_boxes"
 tX:fZ K C "sayings"
 ou:fZ K C "state"
structure gK (K:PySem.W.Frag) (C:Addr):Prop where
 cls:Cls K C
 yD:fZ K C "program"
 m6:fZ K C "numbers"
 qG:fZ K C "hands"
 wB:fZ K C "turns"
structure eV (K:PySem.W.Frag) (C:Addr):Prop where
 cls:Cls K C
 pK:fZ K C "record"
 Iu:fZ K C "firsts"
 Gn:fZ K C "stage"
 fP:fZ K C "progress"
section
variable {P:Program} {w:World} {K:PySem.W.Frag} {mg:Str->Option Value} {base:Heap}
theorem GP {α β:Type} (p:α->Bool) (g:α->β):∀l:List α,(List.range l.length).filterMap (fun i=>(l[i]?).bind fun x=>if p x then some (g x) else none)=(l.filter p).map g
 | []=>rfl
 | x::l=>by
   have ih:=GP p g l;rw [List.length_cons,List.range_succ_eq_map,List.filterMap_cons,List.filterMap_map,List.filter_cons];cases q:p x
   ·simp [q];exact ih
   ·simp [q];exact ih
theorem M6 (x y:Int):PyData.eqv (.int x) (.int y)=decide (x=y):=by
 simp only [PyData.eqv];rw [Bool.eq_iff_iff];simp
theorem jT {H:Hp} {a:Addr} {ns:List Int} (h:H a=some (.lst (ns.map V.int))):Dat H (.ref a) (.list (ns.map PyData.int)):=Jt h (aR.ints ns)
theorem shaped_ints (ns:List Int):SeqAt.shaped (.list (ns.map PyData.int))=true:=yV PyData.int 0 (by decide) (fun _ _=>rfl) (fun _ _=>by show 0<=0;decide)
abbrev Nt:=Int×Int×Int×Int
def nD (x:Nt):PyData:= .tuple [.int x.1,.int x.2.1,.int x.2.2.1,.int x.2.2.2]
def nV (x:Nt):List V:=[.int x.1,.int x.2.1,.int x.2.2.1,.int x.2.2.2]
theorem pA (x:Nt):Gy (nD x)=true:=rfl
theorem Nb {H:Hp} {v:V} {d:PyData} (h:Dat H v d):aR H [v] [d]:=by
 simp only [aR,and_true];exact h
theorem GQ {H:Hp} {t:Addr} {x:Nt} (h:H t=some (.tup (nV x))):Dat H (.ref t) (nD x):=by
 simp only [nD,Dat];exact ⟨t,_,rfl,h,by simp only [nV,aR,Dat,and_self]⟩
theorem qN {H:Hp} {v:V} {x:Nt} (h:Dat H v (nD x)):∃t,v = .ref t/\H t=some (.tup (nV x)):=by
 simp only [nD,Dat] at h;obtain ⟨t,vs,e,q,d⟩:=h
 match vs,d with
 | [a,b,c,z],d=>
   simp only [aR,Dat,and_true] at d;obtain ⟨rfl,rfl,rfl,rfl⟩:=d;exact ⟨t,e,q⟩
 | [],d=>simp only [aR] at d
 | [_],d=>simp only [aR,and_false] at d
 | [_,_],d=>simp only [aR,and_false] at d
 | [_,_,_],d=>simp only [aR,and_false] at d
 | _::_::_::_::_::_,d=>simp only [aR,and_false] at d
def ur (H:Hp) (a:Addr) (ns:List Nt):Prop:=∃vs,H a=some (.lst vs)/\aR H vs (ns.map nD)
theorem ur.same {H H':Hp} {a:Addr} {ns:List Nt} (h:ur H a ns) (k:Same H H'):ur H' a ns:=by
 obtain ⟨vs,e,d⟩:=h;exact ⟨vs,k _ _ e,aR.keep k.tups _ (cY _ pA ns) d⟩
theorem Gk {H:Hp} {vs:List V} {ns:List Nt} {i:Nat} {v:V} (d:aR H vs (ns.map nD)) (e:vs[i]? = some v):∃x t,ns[i]? = some x/\v = .ref t/\H t=some (.tup (nV x)):=by
 obtain ⟨q,eq,dq⟩:=d.get e;rw [List.getElem?_map] at eq;cases ex:ns[i]? with
 | none=>rw [ex] at eq;cases eq
 | some x=>
   rw [ex] at eq;cases eq;obtain ⟨t,rfl,ht⟩:=qN dq;exact ⟨x,t,rfl,rfl,ht⟩
def gI (cs:List Int) (h:Int):Int:=(cs[h.toNat]?).getD 0
theorem lB {cs:List Int} {h:Int} (h0:0<=h) (h1:h<cs.length):Np (cs.map V.int) h=some (.int (gI cs h)):=by
 obtain ⟨m,rfl⟩:=Int.eq_ofNat_of_zero_le h0;have:m<cs.length:=by (clear h0;omega)
 refine gP ?_;simp [gI,this]
theorem GF {cs:List Int} {i:Nat} {c:Int} (h:cs[i]? = some c):gI cs i=c:=by simp [gI,h]
theorem Wz {n:Nat} {i:Int} (h0:0<=i) (h1:i<n):JT n i=some i.toNat:=by unfold JT;rw [if_pos h0,if_pos h1]
theorem aaw {cs:List Int} {h k v:Int} (h0:0<=h) (h1:h<cs.length) (k0:0<=k):gI (cs.set h.toNat v) k=if k=h then v else gI cs k:=by
 unfold gI;rw [List.getElem?_set]
 by_cases e:k=h
 ·subst e
  have:k.toNat<cs.length:=by (clear h0;omega)
  simp [this]
 ·have:¬h.toNat=k.toNat:=by (clear h1;omega)
  simp [e,this]
def lK (cs:List Int) (x:Nt):Prop:=(0<=x.1/\x.1<cs.length)/\(0<=x.2.1/\x.2.1<gI cs x.1)/\(0<=x.2.2.1/\x.2.2.1<cs.length)/\(0<=x.2.2.2/\x.2.2.2<gI cs x.2.2.1)/\x.1≠x.2.2.1
def tu (cs:List Int):Prop:=cs.length<=8 /\ ∀c∈cs,0<=c/\c<=300
theorem tu.gI {cs:List Int} (h:tu cs) (i:Int):0<=gI cs i/\gI cs i<=300:=by
 unfold Prf.gI;cases e:cs[i.toNat]? with
 | none=>simp
 | some c=>exact h.2 c (List.mem_of_getElem? e)
theorem Kc (ns:List Nt):SeqAt.shaped (.list (ns.map nD))=true:=
 yV nD 1 (by decide) (fun _ _=>rfl) (fun _ _=>by show (max 0 (max 0 (max 0 (max 0 0))))+1<=1;decide)
def RecAt (H:Hp) (t c a:Addr) (cs:List Int) (ns:List Nt):Prop:=H t=some (.tup [.ref c,.ref a])/\H c=some (.lst (cs.map V.int))/\ur H a ns
theorem RecAt.same {H H':Hp} {t c a:Addr} {cs:List Int} {ns:List Nt} (h:RecAt H t c a cs ns) (k:Same H H'):RecAt H' t c a cs ns:=⟨k _ _ h.1,k _ _ h.2.1,h.2.2.same k⟩
def E_ (cs:List Int) (ns:List Nt):Prop:=tu cs/\ns.length<=100 /\ ∀x∈ns,lK cs x
def M127:Int:=170141183460469231731687303715884105727
theorem Xk:Builtin.Int.intBits M127<=127:=PySem.intBits_le_iff.mpr (by decide)
theorem Ni {t:Int} (h0:0<=t) (h1:t<M127):Builtin.Int.intBits t<=127:=PySem.intBits_le_of_natAbs (y:=M127) (by unfold M127 at h1 ⊢;omega) Xk
theorem SN {t:Int} (h0:0<=t) (h1:t<M127):IntMulOk t t:=IntMulOk.of_le (Ni h0 h1) (Ni h0 h1) (by omega)
def gQ (H:Hp) (r:Addr):Prop:=∃(g c:Addr) (gs cs:List Int) (p t:Int),H r=some (.lst [.ref g,.ref c,.int p,.int t])/\H g=some (.lst (gs.map V.int))/\H c=some (.lst (cs.map V.int))/\0<cs.length/\cs.length<=100/\gs.length<=100/\(∀x∈gs,0<=x)/\0<=p/\0<=t/\t<M127/\g≠r/\c≠r
theorem gQ.ne {H:Hp} {r p:Addr} (h:gQ H r) (hp:H p=none):p≠r:=by
 obtain ⟨g,c,gs,cs,_,t,e1,_⟩:=h;exact (aA e1 hp).symm
theorem gQ.at {H:Hp} {r:Addr} (h:gQ H r):∃o,H r=some o:=by
 obtain ⟨g,c,gs,cs,p,t,e1,_⟩:=h;exact ⟨_,e1⟩
theorem gQ.tups {H H':Hp} {r:Addr} (h:gQ H r) (k:Kp r H H'):∀a xs,H a=some (HO.tup xs)->H' a=some (HO.tup xs):=by
 obtain ⟨g,c,gs,cs,p,t,e1,_⟩:=h;exact k.tups e1
def Off (H:Hp) (r x:Addr):Prop:=∀(g c:Addr) (u v:V),H r=some (.lst [.ref g,.ref c,u,v])->x≠g/\x≠c
def KR (r:Addr) (H H':Hp):Prop:=Kp r H H' /\ ∀x o,H x=some o->x≠r->Off H r x->Off H' r x
theorem KR.tups {r:Addr} {H H':Hp} (k:KR r H H') (R:gQ H r):∀a xs,H a=some (HO.tup xs)->H' a=some (HO.tup xs):=R.tups k.1
theorem KR.refl (r:Addr) (H:Hp):KR r H H:=⟨Kp.refl _ _,fun _ _ _ _ f=>f⟩
theorem gQ.off {H:Hp} {r x:Addr} (R:gQ H r) (hx:H x=none):Off H r x:=fun g c u v e=>by
 obtain ⟨g',c',gs,cs,p,t,e1,e2,e3,_⟩:=R;rw [e1] at e;cases e;exact ⟨fun z=>(by rw [z,e2] at hx;cases hx),fun z=>(by rw [z,e3] at hx;cases hx)⟩
theorem Off.same {H H':Hp} {r x:Addr} (R:gQ H r) (k:Same H H') (f:Off H r x):Off H' r x:=fun g c u v e2=>by
 obtain ⟨g',c',gs,cs,p,t,e1,_⟩:=R;rw [k _ _ e1] at e2;cases e2;exact f _ _ _ _ e1
theorem gQ.set {H:Hp} {r x:Addr} {o:HO} (R:gQ H r) (n:x≠r) (f:Off H r x):gQ (upd H x o) r:=by
 obtain ⟨g,c,gs,cs,p,t,e1,e2,e3,q⟩:=R;obtain ⟨n1,n2⟩:=f _ _ _ _ e1;exact ⟨g,c,gs,cs,p,t,by rw [aD n.symm];exact e1,by rw [aD n1.symm];exact e2,by rw [aD n2.symm];exact e3,q⟩
theorem Off.set {H:Hp} {r x y:Addr} {o:HO} (n:x≠r) (f:Off H r y):Off (upd H x o) r y:=fun g c u v e=>f g c u v (by rw [aD n.symm] at e;exact e)
theorem Kp.new {H H':Hp} {r p:Addr} (k:Kp r H H') (hp:H' p=none) (hr:∃o,H' r=some o):H p=none:=by
 cases e:H p with
 | none=>rfl
 | some o=>
   by_cases n:p=r
   ·subst n
    obtain ⟨o',ho⟩:=hr;rw [hp] at ho;cases ho
   ·rw [k _ _ e n] at hp
    cases hp
theorem GX {ns:List Int} (h:ns.length<=63):sI (ns.map V.int) none (some 63)=ns.map V.int:=by
 unfold sI;rw [HT.Bh,show (some (63:Int))=some ((63:Nat):Int) from rfl,HT.Ga,List.length_map,List.drop_zero,Nat.min_eq_right h,Nat.sub_zero,List.take_of_length_le (by simp)]
def Fq (K:PySem.W.Frag):Sp:=fun vs H Q _=>∃(a:Addr) (ns:List Int),vs=[.ref a]/\bL K H a (ns.map V.int)/\ns.length<=63 /\ ∀(r:Addr) (H':Hp),H r=none->gQ H' r->Same H H'->Q (.ref r) H'
theorem Sh {f:Addr} {fd:FuncData} (F:jY K "_law_reel" "_law_reel" mQ f fd) (Bt:rC mg):bV P w K mg base j4 1 f fd ["script"] (Fq K):=by
 refine F.ok rP (fun vs H Q E h=> ?_) (fun cdv A outer s H vs Q E hr h=> ?_)
 ·obtain ⟨a,ns,rfl,_⟩:=h
  rfl
 ·obtain ⟨a,ns,rfl,hs,hlen,k⟩:=h
  refine ⟨_,(aF (bM (i:=1) rP.nd rfl (Or.inl rfl) (bR qF aG aG))
   (aF (yx PassesOwn.never rfl (fW (K:=K) rfl (pH (vV (K:=K) rfl) (pv 0) tV (tU aG))) (bY (i:=2) rP.nd rfl (Or.inl rfl))
   (aL (bM (i:=1) rP.nd rfl (Or.inl rfl) (bR mH (bR kZ (bR kZ (bR Mr (pv 1) (pv 1)) (bR mH (pv 2) aG)) aG) (bR vg (bR Bu (bR qF aG aG) (bR qF aG aG)) aG)))))
   (aF (wj (i:=3) rfl rP.nd rfl (Or.inl rfl) (N:=["cell"]) (own:=["cell"]) (caps:=[]) (bH.of (by kernel_rfl)) (fW (K:=K) rfl (pH (vV (K:=K) rfl) (pv 0) tV (tU aG))) (fun _ _ _ _=>(bY (i:=0) (show List.Nodup (["cell"]:List Str) by decide +kernel) rfl (Or.inl rfl))) (fun _ _ _ _=>(zN (bG X_ (pv 0) (bR qF aG aG) (bA _)))) (fun _ _ _ _=>(bR vg (pv 0) (bR qF aG aG))))
   (aL (bF (fO (aj (pv 3) (aj (bR Ku (gC rfl (N:=["cell"]) (own:=["cell"]) (caps:=[]) (bH.of (by kernel_rfl)) (fW (K:=K) rfl (pH (vV (K:=K) rfl) (pv 0) tV (tU aG))) (fun _ _ _ _=>(bY (i:=0) (show List.Nodup (["cell"]:List Str) by decide +kernel) rfl (Or.inl rfl))) (fun _ _ _ _=>fU) (fun _ _ _ _=>(bR mH (pv 0) aG))) (fO (aj aG aB))) (aj aG (aj (pv 1) aB)))))))))), ?_⟩
  refine ⟨_,_,rfl,rfl,(by show Hw 3 60;exact ⟨by decide,by decide,by decide⟩), ?_⟩;refine ⟨_,rfl,_,rfl,_,_,rfl,hs,fun p hp=> ?_⟩;rw [GX hlen];have s1:=aJ (o:=HO.lst (ns.map V.int)) hp;have cp1:Hw 2 64:=⟨by decide,by decide,by decide⟩;have cp2:Hw 2 63:=⟨by decide,by decide,by decide⟩;have cp3:Hw 10 18:=⟨by decide,by decide,by decide⟩
  refine ⟨p,rfl,⟨_,bL.of ak⟩,wO (K:=K) (a:=p) (xs:=ns.map V.int) (fun i σ H2=>∃(t:Int) (v:Option V),σ=[some (.ref a),some (.int t),v,none]/\H2=upd H p (.lst (ns.map V.int))/\0<=t/\t<M127)
   ⟨_,none,rfl,rfl,by decide,by decide⟩ (fun i σ H2 _ ⟨_,_,_,e,_⟩=>by rw [e];exact bL.of ak) ?_ ?_⟩
  ·rintro i y σ H2 hi ⟨t,v,rfl,rfl,t0,t1⟩
   obtain ⟨z,rfl⟩:∃z,y=V.int z:=by
    rw [List.getElem?_map] at hi;cases e:ns[i]? with
    | none=>rw [e] at hi;cases hi
    | some z=>rw [e] at hi;exact ⟨z,(Option.some.inj hi).symm⟩
   refine ⟨_,rfl,_,rfl,_,_,rfl,rfl,SN t0 t1,_,rfl,_,_,rfl,rfl,(by show (0:Int)<1000000000000000003;decide),_,_,rfl,rfl,_,_,rfl,rfl, ?_⟩;refine ⟨_,_,rfl,rfl,cp1,_,_,rfl,rfl,cp2,_,_,rfl,rfl,.inr ⟨by decide,by decide⟩,_,_,rfl,rfl,_,_,rfl,rfl,(by show (0:Int)<2 ^ Int.toNat 64*2 ^ Int.toNat 63 - 1;decide), ?_⟩;refine ⟨_,_,rfl,rfl, ?_, ?_⟩
   ·exact Int.emod_nonneg _ (by decide)
   ·exact Int.emod_lt_of_pos _ (by decide)
  ·rintro σ H2 ⟨t,v,rfl,rfl,t0,t1⟩
   have hs1:=s1.seq hs;refine ⟨_,rfl,_,rfl,_,_,rfl,hs1,fun p2 hp2=> ?_⟩;rw [GX hlen];have s2:=aJ (o:=HO.lst (ns.map V.int)) hp2;refine ⟨p2,rfl,⟨_,bL.of ak⟩,fun D hD=> ?_⟩;refine sJ (K:=K) (fun i=>(ns[i]?).bind fun z=>if decide (z≥10 ^ (18:Int).toNat) then some (V.int (z - 10 ^ (18:Int).toNat)) else none) hD (bL.of ak) (by rw [List.length_map];omega) (fun i v H3 G F hi s3 kG kF=> ?_) (fun H3 s3 e3=> ?_)
   ·rw [List.getElem?_map] at hi
    cases e:ns[i]? with
    | none=>rw [e] at hi;cases hi
    | some z=>
      rw [e] at hi;cases hi;simp only [e,Option.bind_some] at kG kF;refine ⟨_,rfl,_,_,rfl,rfl,cp3,_,_,rfl,rfl,_,rfl, ?_⟩;refine cU (fun w=> ?_) (fun w=> ?_)
      ·exact ⟨_,rfl,_,_,rfl,rfl,cp3,_,_,rfl,rfl,kF _ H3 (Same.refl _) (by rw [if_pos w])⟩
      ·exact kG H3 (Same.refl _) (by rw [if_neg w])
   rw [List.length_map,GP (fun z:Int=>decide (z≥10 ^ (18:Int).toNat)) (fun z=>V.int (z - 10 ^ (18:Int).toNat))] at e3;have e3':H3 D=some (.lst (((ns.filter fun z=>decide (z≥10 ^ (18:Int).toNat)).map fun z=>z - 10 ^ (18:Int).toNat).map V.int)):=by rw [e3,List.map_map];rfl
   have Kg:=(s1.trans s2).trans s3;refine ⟨_,rfl,_,rfl,_,rfl,_,_,rfl,Kg.seq hs,fun p3 hp3=> ?_⟩;rw [GX hlen];have s4:=aJ (o:=HO.lst (ns.map V.int)) hp3;refine ⟨p3,rfl,⟨_,bL.of ak⟩,fun D2 hD2=> ?_⟩;refine sJ (K:=K) (fun i=>(ns[i]?).map fun z=>V.int (z % 1000003)) hD2 (bL.of ak) (by rw [List.length_map];omega) (fun i v H5 G F hi s5 kG kF=> ?_) (fun H5 s5 e5=> ?_)
   ·rw [List.getElem?_map] at hi
    cases e:ns[i]? with
    | none=>rw [e] at hi;cases hi
    | some z=>
      rw [e] at hi;cases hi;exact ⟨_,rfl,_,_,rfl,rfl,(by show (0:Int)<1000003;decide),kF _ H5 (Same.refl _) (by rw [e];rfl)⟩
   rw [List.length_map,GK] at e5;refine ⟨(by show 1<=sizeLine;decide),fun p4 hp4=> ?_⟩;have s6:=aJ (o:=HO.lst [V.int 41]) hp4;refine ⟨D2,p4,_,_,rfl,rfl,s6 _ _ e5,ak,by rw [sizeLine_eq,List.length_map];simp only [List.length_singleton];omega,fun c hc=> ?_⟩;have s7:=aJ (o:=HO.lst (ns.map (fun z=>V.int (z % 1000003))++[V.int 41])) hc;have s47:=(s4.trans s5).trans (s6.trans s7);refine ⟨_,rfl,(by show 4<=sizeLine;decide),fun r hr'=> ?_⟩;have s8:=aJ (o:=HO.lst [V.ref D,V.ref c,V.int 0,V.int t]) hr';have eD:=s47 _ _ e3';have nDr:D≠r:=aA eD hr';have Z8:c≠r:=aA ak hr';have fl:(ns.filter fun z=>decide (z≥10 ^ (18:Int).toNat)).length<=ns.length:=List.length_filter_le _ _;refine k r _ ((Kg.trans s47).free hr') ⟨D,c,_,ns.map (· % 1000003)++[41],0,t,ak,s8 _ _ eD, ?_,by simp,by simp;omega,by rw [List.length_map];omega,fun x hx=> ?_,by decide,t0,t1,nDr,Z8⟩ ((Kg.trans s47).trans s8)
   ·refine s8 _ _ ?_
    rw [ak,List.map_append,List.map_map];rfl
   ·obtain ⟨z,hz,rfl⟩:=List.mem_map.mp hx
    have:=of_decide_eq_true (List.mem_filter.mp hz).2;omega
def tM (K:PySem.W.Frag):Sp:=fun vs H Q _=>∃(r:Addr) (m:Int),vs=[.ref r,.int m]/\gQ H r/\0<m/\m<1329227995784915872903807060280344576 /\ ∀(z:Int) (H':Hp),0<=z->z<m->gQ H' r->KR r H H'->Q (.int z) H'
theorem Sx {f:Addr} {fd:FuncData} (F:jY K "_law_draw" "_law_draw" mW f fd) (Bt:rC mg):bV P w K mg base j4 1 f fd ["reel","many"] (tM K):=by
 refine F.ok v9 (fun vs H Q E h=> ?_) (fun cdv A outer s H vs Q E hr h=> ?_)
 ·obtain ⟨r,m,rfl,_⟩:=h
  rfl
 ·obtain ⟨r,m,rfl,⟨g,c,gs,cs,p,t,hR,hG,hC,c0,c1,g1,aau,p0,t0,t1,ngr,Z8⟩,m0,m1,k⟩:=h
  have wK:=hr.units
  refine ⟨_,(aF (cJ (bG (Wa (K:=K) rfl wK) (aY (bB (K:=K) rfl) (pv 0) aG (fun _ _=>rfl)) (fO aB) (bA _)) (aF (bM (i:=2) v9.nd rfl (Or.inl rfl) (aY (bB (K:=K) rfl) (aY (bB (K:=K) rfl) (pv 0) aG (fun _ _=>rfl)) aG (fun _ _=>rfl)))
   (aF (o8 (bR Ku (bR Br (fO (aj (bR Ik (pv 2) (pv 1)) aB)) (cR pN (by rfl) Bt.CP vC (aj (dU X_ (pv 2) (pv 1) (bA _)) aB))) (pH (vV (K:=K) rfl) (aY (bB (K:=K) rfl) (pv 0) aG (fun _ _=>rfl)) (tU aG) tV)) (o9 (pv 0) aG set_list))
   (aL (bF (bR mH (pv 2) (pv 1)))))) bN)
   (aF (o8 (bR kZ (aY (bB (K:=K) rfl) (pv 0) aG (fun _ _=>rfl)) aG) (o9 (pv 0) aG set_list))
   (aF (bM (i:=3) v9.nd rfl (Or.inl rfl) (aY (bB (K:=K) rfl) (aY (bB (K:=K) rfl) (pv 0) aG (fun _ _=>rfl)) (bR mH (aY (bB (K:=K) rfl) (pv 0) aG (fun _ _=>rfl)) (aX (aZ (K:=K) rfl) (by rfl) Bt.gk dY (aj (aY (bB (K:=K) rfl) (pv 0) aG (fun _ _=>rfl)) aB))) (fun _ _=>rfl)))
   (aF (bM (i:=4) v9.nd rfl (Or.inl rfl) (bR kZ (bR kZ (bR Mr (aY (bB (K:=K) rfl) (pv 0) aG (fun _ _=>rfl)) (aY (bB (K:=K) rfl) (pv 0) aG (fun _ _=>rfl))) (bR Bu (bR kZ (pv 3) aG) aG)) (bR Bu (aY (bB (K:=K) rfl) (pv 0) aG (fun _ _=>rfl)) aG)))
   (aF (o8 (bR mH (pv 4) (bR vg (bR Bu (bR qF aG aG) (bR qF aG aG)) aG)) (o9 (pv 0) aG set_list))
   (aL (bF (bR mH (bR Ik (aY (bB (K:=K) rfl) (pv 0) aG (fun _ _=>rfl)) (bR qF aG aG)) (pv 1))))))))), ?_⟩
  refine ⟨_,rfl,_,_,_,_,rfl,rfl,bL.of hR,rfl,(by show 0<=sizeLine;decide),fun q hq=> ?_⟩;have s1:=aJ (o:=HO.lst []) hq;have hR1:=s1 _ _ hR;have hG1:=s1 _ _ hG;have hC1:=s1 _ _ hC;refine ⟨_,_,jT hG1,jT (ns:=[]) ak,shaped_ints _,shaped_ints _,_,rfl, ?_⟩;rw [if_pos rfl,Jm PyData.int M6];refine cU (fun w=> ?_) (fun _=> ?_)
  ·have w:gs≠[]:=by simpa using w
   obtain ⟨x,xs,rfl⟩:∃x xs,gs=x::xs:=by
    cases gs with
    | nil=>exact absurd rfl w
    | cons x xs=>exact ⟨x,xs,rfl⟩
   have x0:=aau x (by simp);refine ⟨_,rfl,_,_,_,_,rfl,rfl,bL.of hR1,rfl,_,_,_,_,rfl,rfl,bL.of hG1,(by show Np (V.int x::xs.map V.int) 0=some (V.int x);simp [Np,JT]), ?_⟩;refine ⟨_,rfl,_,rfl,_,_,rfl,rfl,⟨m0,m1⟩,(by show 1<=sizeLine;decide),fun q2 hq2=> ?_⟩;have s2:=aJ (o:=HO.lst [V.int (x / m)]) hq2;refine ⟨_,rfl,_,rfl,_,_,rfl,rfl,Or.inr ⟨_,rfl,q2,_,_,rfl,rfl,ak, ?_, ?_, ?_,fun q3 hq3=> ?_⟩⟩
   ·split<;>decide
   ·split<;>decide
   ·rw [sizeLine_eq];split<;>simp
   have s3:=aJ (o:=HO.lst (List.replicate (if decide (x≥m)=true then (1:Int) else 0).toNat [V.int (x / m)]).flatten) hq3;have HD:=s2.trans s3;refine ⟨_,rfl,_,_,_,_,rfl,rfl,bL.of (HD _ _ hR1),rfl,_,rfl,g,_,rfl,bL.of (HD _ _ hG1),fun q4 hq4=> ?_⟩;rw [show sI ((x::xs).map V.int) (some 1) none=xs.map V.int from Jv _ 1];have s4:=aJ (o:=HO.lst (xs.map V.int)) hq4;have fl:(List.replicate (if decide (x≥m)=true then (1:Int) else 0).toNat [V.int (x / m)]).flatten.length<=1:=by split<;>simp
   have xl:xs.length<=100:=by have:(x::xs).length<=100:=g1;simp at this;omega
   refine ⟨q3,q4,_,_,rfl,rfl,s4 _ _ ak,ak,by rw [sizeLine_eq,List.length_map];exact Nat.le_trans (Nat.add_le_add fl xl) (by decide),fun q5 Ve=> ?_⟩;have s5:=aJ (o:=HO.lst ((List.replicate (if decide (x≥m)=true then (1:Int) else 0).toNat [V.int (x / m)]).flatten++xs.map V.int)) Ve;have s25:=(HD.trans s4).trans s5;have hR5:=s25 _ _ hR1;refine ⟨_,rfl,_,_,_,_,rfl,rfl,hR5,rfl, ?_⟩;have kr:Kp r (upd (upd (upd (upd (upd H q (HO.lst [])) q2 (HO.lst [V.int (x / m)])) q3 (HO.lst (List.replicate (if decide (x≥m)=true then (1:Int) else 0).toNat [V.int (x / m)]).flatten)) q4 (HO.lst (xs.map V.int))) q5 (HO.lst ((List.replicate (if decide (x≥m)=true then (1:Int) else 0).toNat [V.int (x / m)]).flatten++xs.map V.int))) _:=Kp.set (o:= .lst [.ref q5,.ref c,.int p,.int t]);have nq5:q5≠r:=(aA ((HD.trans s4) _ _ hR1) Ve).symm
   have eq5:(List.replicate (if decide (x≥m)=true then (1:Int) else 0).toNat [V.int (x / m)]).flatten++xs.map V.int=((if decide (x≥m)=true then [x / m] else [])++xs).map V.int:=by
    split<;>simp
   refine ⟨_,rfl,_,rfl,_,_,rfl,rfl,m0, ?_⟩
   refine k _ _ (Int.emod_nonneg _ (by omega)) (Int.emod_lt_of_pos _ m0) ⟨q5,c,(if decide (x≥m)=true then [x / m] else [])++xs,cs,p,t,ak, ?_,kr _ _ (s25 _ _ hC1) Z8,c0,c1, ?_,fun y hy=> ?_,p0,t0,t1,nq5,Z8⟩ ⟨(Kp.of_same (s1.trans s25)).trans kr,fun y o ey ny f g' c' u v e=>by
    rw [ak] at e;cases e;exact ⟨aA ((s1.trans (HD.trans s4)) _ _ ey) Ve,(f _ _ _ _ hR).2⟩⟩
   ·refine kr _ _ ?_ nq5
    rw [ak,eq5]
   ·rw [List.length_append]
    have:(if decide (x≥m)=true then [x / m] else []).length<=1:=by split<;>simp
    have:(x::xs).length<=100:=g1;simp only [List.length_cons] at this;omega
   ·rcases List.mem_append.mp hy with hy|hy
    ·split at hy
     ·have:y=x / m:=by simpa using hy
      rw [this];exact Int.ediv_nonneg x0 (by omega)
     ·cases hy
    ·exact aau y (by simp [hy])
  ·have cp1:Hw 2 64:=⟨by decide,by decide,by decide⟩
   have cp2:Hw 2 63:=⟨by decide,by decide,by decide⟩;have cp4:Hw 2 40:=⟨by decide,by decide,by decide⟩;refine ⟨_,rfl,_,_,_,_,rfl,rfl,bL.of hR1,rfl,_,_,rfl,rfl,_,rfl,_,_,_,_,rfl,rfl,hR1,rfl, ?_⟩;have kr:Kp r (upd H q (HO.lst [])) (upd (upd H q (HO.lst [])) r (.lst [.ref g,.ref c,.int (p+1),.int t])):=Kp.set;have hR2:(upd (upd H q (HO.lst [])) r (.lst [.ref g,.ref c,.int (p+1),.int t])) r=some (.lst [.ref g,.ref c,.int (p+1),.int t]):=ak;have hC2:=kr _ _ hC1 Z8;have i0:0<=(p+1) % (cs.length:Int):=Int.emod_nonneg _ (by omega);have i1:(p+1) % (cs.length:Int)<cs.length:=Int.emod_lt_of_pos _ (by omega);refine ⟨_,rfl,_,_,_,_,rfl,rfl,bL.of hR2,rfl,_,rfl,_,_,_,_,rfl,rfl,bL.of hR2,rfl,_,rfl,_,_,_,_,rfl,rfl,bL.of hR2,rfl,c,_,rfl,.inl (bL.of hC2),_,_,rfl,rfl,by rw [List.length_map];omega,_,_,_,_,rfl,rfl,bL.of hC2,by rw [List.length_map];exact lB i0 i1, ?_⟩;generalize gI cs ((p+1) % (cs.length:Int))=told;refine ⟨_,rfl,_,_,_,_,rfl,rfl,bL.of hR2,rfl,_,rfl,_,_,_,_,rfl,rfl,bL.of hR2,rfl,_,_,rfl,rfl,SN t0 t1,_,rfl,_,_,rfl,rfl,_,_,rfl,rfl,.inr ⟨by decide,by decide⟩,_,_,rfl,rfl,_,rfl,_,_,_,_,rfl,rfl,bL.of hR2,rfl,_,_,rfl,rfl,.inr ⟨by decide,by decide⟩,_,_,rfl,rfl, ?_⟩;refine ⟨_,rfl,_,_,rfl,rfl,cp1,_,_,rfl,rfl,cp2,_,_,rfl,rfl,.inr ⟨by decide,by decide⟩,_,_,rfl,rfl,_,_,rfl,rfl,(by show (0:Int)<2 ^ Int.toNat 64*2 ^ Int.toNat 63 - 1;decide),_,rfl,_,_,_,_,rfl,rfl,hR2,rfl, ?_⟩;refine ⟨_,rfl,_,_,_,_,rfl,rfl,bL.of ak,rfl,_,_,rfl,rfl,cp4,_,_,rfl,rfl,⟨by decide,by decide⟩,_,rfl,_,_,rfl,rfl,m0, ?_⟩
   refine k _ _ (Int.emod_nonneg _ (by omega)) (Int.emod_lt_of_pos _ m0) ⟨g,c,gs,cs,p+1,_,ak, ?_, ?_,c0,c1,g1,aau,by omega,Int.emod_nonneg _ (by decide),Int.emod_lt_of_pos _ (by decide),ngr,Z8⟩ ⟨((Kp.of_same s1).trans kr).trans Kp.set,fun y o ey ny f g' c' u v e=>by
    rw [ak] at e;cases e;exact f _ _ _ _ hR⟩
   ·rw [aD ngr];exact kr _ _ hG1 ngr
   ·rw [aD Z8];exact hC2
def BR (i:Int) (n:Nat):Prop:=0<=i/\i<(n:Int)
instance (i:Int) (n:Nat):Decidable (BR i n):=inferInstanceAs (Decidable (_/\_))
def Vw (K:PySem.W.Frag):Sp:=fun vs H Q _=>∃i:Int,vs=[.int i]/\Q (.bl true) H
theorem Il {f:Addr} {fd:FuncData} (F:jY K "is_whole" "is_whole" gw f fd) (Bt:rC mg):bV P w K mg base j4 1 f fd ["value"] (Vw K):=by
 refine F.ok HY (fun vs H Q E h=> ?_) (fun cdv A outer s H vs Q E hr h=> ?_)
 ·obtain ⟨i,rfl,_⟩:=h
  rfl
 ·obtain ⟨i,rfl,k⟩:=h
  refine ⟨_,(aL (bF (nH (aX (dh (K:=K) (cv:= .ty "int") (c:= .type "int") rfl rfl) (by rfl) Bt.bK bI (aj (pv 0) (aj (fJ (v:= .ty "int") (by rfl) Bt.CP vC rfl) aB))) (qD (RD (aX (dh (K:=K) (cv:= .ty "bool") (c:= .type "bool") rfl rfl) (by rfl) Bt.bK bI (aj (pv 0) (aj (fJ (v:= .ty "bool") (by rfl) Bt.CQ wR rfl) aB)))))))), ?_⟩;refine ⟨_,rfl,_,_,true,rfl,.int i,zf K,true,rfl, ?_⟩;refine fM ?_;exact ⟨_,rfl,_,_,false,rfl,.int i,qL K,false,rfl,k⟩
def tO (K:PySem.W.Frag):Sp:=fun vs H Q _=>∃(i:Int) (n:Nat),vs=[.int i,.int n]/\Q (.bl (decide (BR i n))) H
theorem Im {f:Addr} {fd:FuncData} (F:jY K "is_below" "is_below" gA f fd) (vG:FnAt P w K mg base 1 "is_whole" ["value"] (Vw K)):bV P w K mg base j4 2 f fd ["value","count"] (tO K):=by
 refine F.ok H_ (fun vs H Q E h=> ?_) (fun cdv A outer s H vs Q E hr h=> ?_)
 ·obtain ⟨i,n,rfl,_⟩:=h
  rfl
 ·obtain ⟨i,n,rfl,k⟩:=h
  refine ⟨_,(aL (bF (nH (b_ vG (hr.mono (by decide)) (by rfl) (aj (pv 0) aB)) (qD (RQ RX yW aG (pv 0) (pv 1)))))), ?_⟩;refine ⟨_,rfl,i,rfl,true,rfl, ?_⟩;refine fM ?_;refine ⟨_,rfl,_,_,rfl,rfl,_,rfl, ?_⟩;refine cU (fun h0=> ?_) (fun h0=> ?_)
  ·refine ⟨_,rfl,_,_,rfl,rfl, ?_⟩
   have e:decide (BR i n)=decide (i<(n:Int)):=by
    have h0:=of_decide_eq_true h0;rw [Bool.eq_iff_iff,decide_eq_true_iff,decide_eq_true_iff];exact ⟨fun z=>z.2,fun z=>⟨h0,z⟩⟩
   show Q (.bl (decide (i<(n:Int)))) H;rw [←e];exact k
  ·have e:decide (BR i n)=false:=decide_eq_false fun z=>h0 (decide_eq_true z.1)
   rw [←e];exact k
def hF (r:Addr) (n:Int) (b sy:Addr) (st:Str):List (Str×V):=[("rows",.ref r),("at",.int n),("in_boxes",.ref b),("sayings",.ref sy),("state",.str st)]
structure sY where
 (h hx r b sy:Addr)
structure qZ (CH:Addr) (H:Hp) (A:sY) (s:bU):Prop where
 h:H A.h=some (.ins CH A.hx (hF A.r s.pos A.b A.sy s.st))
 b:H A.b=some (.lst (s.bs.map V.int))
 y:H A.sy=some (.lst (s.sy.map V.int))
 OD:A.b≠A.sy
 bl:s.bs.length=8
def KH (A:sY) (H H':Hp):Prop:=∀x o,H x=some o->x≠A.h->x≠A.b->x≠A.sy->H' x=some o
theorem KH.of_same {A:sY} {H H':Hp} (k:Same H H'):KH A H H':=fun x o e _ _ _=>k _ _ e
theorem KH.trans {A:sY} {H H1 H2:Hp} (a:KH A H H1) (b:KH A H1 H2):KH A H H2:=fun x o e n1 n2 n3=>b x o (a x o e n1 n2 n3) n1 n2 n3
theorem KH.vf {A:sY} {H:Hp} {o:HO}:KH A H (upd H A.h o):=fun x u e n _ _=>by rw [aD n];exact e
theorem KH.Rj {A:sY} {H:Hp} {o:HO}:KH A H (upd H A.b o):=fun x u e _ n _=>by rw [aD n];exact e
theorem KH.Zk {A:sY} {H:Hp} {o:HO}:KH A H (upd H A.sy o):=fun x u e _ _ n=>by rw [aD n];exact e
theorem qZ.Ws {CH:Addr} {H:Hp} {A:sY} {s:bU} (c:qZ CH H A s):A.h≠A.b:=d_ c.h c.b (by intro z;cases z)
theorem qZ.Yd {CH:Addr} {H:Hp} {A:sY} {s:bU} (c:qZ CH H A s):A.h≠A.sy:=d_ c.h c.y (by intro z;cases z)
theorem qZ.same {CH:Addr} {H H':Hp} {A:sY} {s:bU} (c:qZ CH H A s) (k:Same H H'):qZ CH H' A s:=⟨k _ _ c.h,k _ _ c.b,k _ _ c.y,c.OD,c.bl⟩
theorem qZ.tup {CH:Addr} {H H':Hp} {A:sY} {s:bU} (c:qZ CH H A s) (k:KH A H H'):∀x xs,H x=some (.tup xs)->H' x=some (.tup xs):=fun x xs e=>k _ _ e (d_ e c.h (by intro z;cases z)) (d_ e c.b (by intro z;cases z)) (d_ e c.y (by intro z;cases z))
theorem qZ.vf {CH:Addr} {H:Hp} {A:sY} {s:bU} (c:qZ CH H A s) (n:Nat) (st:Str):qZ CH (upd H A.h (.ins CH A.hx (hF A.r n A.b A.sy st))) A {s with pos:=n,st:=st}:=
 ⟨ak,by rw [aD c.Ws.symm];exact c.b,by rw [aD c.Yd.symm];exact c.y,c.OD,c.bl⟩
theorem qZ.Rj {CH:Addr} {H:Hp} {A:sY} {s:bU} (c:qZ CH H A s) (bs:List Int) (l:bs.length=8):qZ CH (upd H A.b (.lst (bs.map V.int))) A {s with bs:=bs}:=
 ⟨by rw [aD c.Ws];exact c.h,ak,by rw [aD c.OD.symm];exact c.y,c.OD,l⟩
theorem qZ.Zk {CH:Addr} {H:Hp} {A:sY} {s:bU} (c:qZ CH H A s) (ys:List Int):qZ CH (upd H A.sy (.lst (ys.map V.int))) A {s with sy:=ys}:=
 ⟨by rw [aD c.Yd];exact c.h,by rw [aD c.OD];exact c.b,ak,c.OD,c.bl⟩
theorem Bk (r b sy:Addr) (n m:Int) (st:Str):cL "at" (.int m) (hF r n b sy st)=hF r m b sy st:=by rfl
theorem Gd (r b sy:Addr) (n:Int) (st st':Str):cL "state" (.str st') (hF r n b sy st)=hF r n b sy st':=by rfl
theorem GJ (n:Nat):(List.range n).filterMap (fun _=>some (V.int 0))=(List.replicate n 0).map V.int:=by
 induction n with
 | zero=>rfl
 | succ n ih=>rw [eX,ih,List.replicate_succ',List.map_append];rfl
theorem Wx {H H':Hp} {o p:Addr} (h:Kp o H H') (ne:p≠o) (n:H' p=none):H p=none:=by
 cases e:H p with
 | none=>rfl
 | some u=>rw [h _ _ e ne] at n;cases n
theorem ad3:∀b:Fin 8,Builtin.Str.occurrences (Str.ofString "abcdefgh") (Qt b.val) 0 (Str.ofString "abcdefgh").length 1=[b.val]:=by decide +kernel
theorem Uq {b:Nat} (h:b<8):Builtin.Str.occurrences (Str.ofString "abcdefgh") (Qt b) 0 (Str.ofString "abcdefgh").length 1=[b]:=ad3 ⟨b,h⟩
def zL (CH:Addr) (K:PySem.W.Frag):Sp:=fun vs H Q _=>∃(a r dx:Addr),vs=[.ref a,.ref r]/\H a=some (.ins CH dx []) /\ ∀(b sy:Addr) (H':Hp),H b=none->H sy=none->b≠sy ->
 H' a=some (.ins CH dx (hF r 0 b sy "waits"))->H' b=some (.lst ((List.replicate 8 0).map V.int))->H' sy=some (.lst [])->Kp a H H'->Q .non H'
theorem Sv {au:Addr} {f:Addr} {fd:FuncData} (F:jY K "__init__" "Hand.__init__" fG f fd) (aP:iG K au) (iD:Gv mg "BOXES" (.str "abcdefgh")):bV P w K mg base j4 1 f fd ["self","rows"] (zL au K):=by
 refine F.ok FZ (fun vs H Q E h=> ?_) (fun cdv A outer s H vs Q E hr h=> ?_)
 ·obtain ⟨a,r,dx,rfl,_⟩:=h
  rfl
 ·obtain ⟨a,r,dx,rfl,ha,k⟩:=h
  refine ⟨_,(aF (dB (K:=K) rfl (pv 0) (pv 1) rfl)
   (aF (dB (K:=K) rfl (pv 0) aG rfl)
   (aF (dB (K:=K) rfl (pv 0) (gC rfl (N:=["box"]) (own:=["box"]) (caps:=[]) (bH.of (by kernel_rfl)) (ZF (jc (by rfl) iD.choose_spec.1 iD.choose_spec.2)) (fun _ _ _ _=>(bY (i:=0) (show List.Nodup (["box"]:List Str) by decide +kernel) rfl (Or.inl rfl))) (fun _ _ _ _=>fU) (fun _ _ _ _=>aG)) rfl)
   (aF (dB (K:=K) rfl (pv 0) (fO aB) rfl)
   (aL (dB (K:=K) rfl (pv 0) cT rfl)))))), ?_⟩
  refine ⟨_,rfl,_,rfl,a,au,dx,[],rfl,ha,aP.cls,aP.rW,by decide, ?_⟩;refine ⟨_,rfl,a,au,dx,_,rfl,ak,aP.cls,aP.yE,(by show 1<1000;decide), ?_⟩;refine ⟨_,rfl,fun D hD=> ?_⟩;refine PN (fun _=>some (.int 0)) hD (by decide) (fun i c H1 G F hi s1 kG kF=>kF _ H1 (Same.refl _) rfl) (fun H1 s1 e1=> ?_);rw [GJ] at e1;refine ⟨_,rfl,a,au,dx,_,rfl,s1 _ _ ak,aP.cls,aP.nM,(by show 2<1000;decide), ?_⟩;have naD:a≠D:=aA ak hD;refine ⟨(by show 0<=sizeLine;decide),fun q hq=> ?_⟩;have naq:a≠q:=aA ak hq;refine ⟨_,rfl,a,au,dx,_,rfl,(by rw [aD naq];exact ak),aP.cls,aP.tX,(by show 3<1000;decide), ?_⟩;refine ⟨_,rfl,a,au,dx,_,rfl,ak,aP.cls,aP.ou,(by show 4<1000;decide), ?_⟩;have hD0:H D=none:=by rw [aD naD.symm,aD naD.symm] at hD;exact hD
  have nDq:D≠q:=by
   intro e;rw [←e,aD naD.symm,e1] at hq;cases hq
  have hq0:H q=none:=by
   rw [aD naq.symm] at hq;cases e:H q with
   | none=>rfl
   | some o=>
     have:=s1 q o (by rw [aD naq.symm,aD naq.symm];exact e);rw [this] at hq;cases hq
  refine k D q _ hD0 hq0 nDq ?_ ?_ ?_ ?_
  ·rw [ak];rfl
  ·rw [aD naD.symm,aD naD.symm,aD nDq,aD naD.symm,e1];rfl
  ·rw [aD naq.symm,aD naq.symm,ak]
  ·intro x o e n
   have nq:x≠q:=aA e hq0;rw [aD n,aD n,aD nq,aD n];exact s1 x o (by rw [aD n,aD n];exact e)
theorem Yw {x:V} {l:List V}:Np (x::l) 0=some x:=gP (j:=0) rfl
theorem ad8 {x y z:V} {l:List V}:Np (x::y::z::l) 2=some z:=gP (j:=2) rfl
def Jy (r:Rw):V:=if touch r then .int (Jz r) else .non
def vU (K:PySem.W.Frag):Sp:=fun vs H Q _=>∃(v:V) (r:Rw),vs=[v]/\Dat H v (DY r) /\ ∀H',Same H H'->Q (Jy r) H'
theorem Ov {f:Addr} {fd:FuncData} (F:jY K "cell_of" "cell_of" iB f fd):bV P w K mg base j4 1 f fd ["row"] (vU K):=by
 refine F.ok Ke (fun vs H Q E h=> ?_) (fun cdv A outer s H vs Q E hr h=> ?_)
 ·obtain ⟨v,r,rfl,_⟩:=h
  rfl
 ·obtain ⟨v,r,rfl,d,k⟩:=h
  obtain ⟨t,ws,rfl,ht,ps⟩:=Nk d
  refine ⟨_,(aF (cJ (bG gj (aY (bx (K:=K) rfl) (pv 0) aG (fun _ _=>rfl)) cT (bA _)) (aL (bF (aY (bx (K:=K) rfl) (pv 0) aG (fun _ _=>rfl)))) bN)
   (aL (bF (pI (bG (Ks (K:=K) rfl) (aY (bx (K:=K) rfl) (pv 0) aG (fun _ _=>rfl)) (jQ (aj cT (aj cT aB))) (by with_unfolding_all rfl)) (aY (bx (K:=K) rfl) (pv 0) aG (fun _ _=>rfl)) jq)))), ?_⟩
  have cs:(∃c e,r = .store c e) \/ ∃(x:Str) (ys:List V),ws = .str x::ys/\x≠Str.ofString "store" /\ (x=Str.ofString "load" \/ x=Str.ofString "swap" -> ∃y z,ys=y :: .int (Jz r)::z/\touch r=true)/\(x≠Str.ofString "load" -> x≠Str.ofString "swap" -> touch r=false):=by
   cases r with
   | store c e=>exact .inl ⟨c,e,rfl⟩
   | load b c=>exact .inr ⟨_,_,ps,by decide +kernel,fun _=>⟨_,_,rfl,rfl⟩,fun z=>absurd rfl z⟩
   | swap b c e=>
     obtain ⟨x,e1,_⟩:=ps;exact .inr ⟨_,_,e1,by decide +kernel,fun _=>⟨_,_,rfl,rfl⟩,fun _ z=>absurd rfl z⟩
   | Gr b e=>
     obtain ⟨x,e1,_⟩:=ps;exact .inr ⟨_,_,e1,by decide +kernel,fun z=>absurd z (by decide +kernel),fun _ _=>rfl⟩
   | say e=>
     obtain ⟨x,e1,_⟩:=ps;exact .inr ⟨_,_,e1,by decide +kernel,fun z=>absurd z (by decide +kernel),fun _ _=>rfl⟩
   | go n=>exact .inr ⟨_,_,ps,by decide +kernel,fun z=>absurd z (by decide +kernel),fun _ _=>rfl⟩
   | HB q e f n=>
     obtain ⟨x,y,e1,_⟩:=ps;exact .inr ⟨_,_,e1,by decide +kernel,fun z=>absurd z (by decide +kernel),fun _ _=>rfl⟩
  rcases cs with ⟨c,e,rfl⟩|⟨x,ys,rfl,nx,h1,h2⟩
  ·obtain ⟨x,rfl,_⟩:=ps
   refine ⟨_,rfl,_,_,_,_,rfl,rfl,cQ.of ht,rfl,rfl,_,rfl, ?_⟩;refine cU (fun _=> ?_) (fun z=>absurd (decide_eq_true rfl) z);exact ⟨_,rfl,_,_,_,_,rfl,rfl,cQ.of ht,rfl,k H (Same.refl _)⟩
  refine ⟨_,rfl,_,_,_,_,rfl,rfl,cQ.of ht,Yw,rfl,_,rfl, ?_⟩;refine cU (fun z=>absurd (by simpa using of_decide_eq_true z) nx) (fun _=> ?_);refine ⟨_,rfl,_,_,_,_,rfl,rfl,cQ.of ht,Yw,(by show 2<=sizeLine;decide),fun p hp=> ?_⟩;have sp:=aJ (o:=HO.tup [V.str (Str.ofString "load"),V.str (Str.ofString "swap")]) hp;refine ⟨p,_,rfl,.inr (cQ.of ak),rfl,rfl,_,rfl, ?_⟩
  by_cases z:x=Str.ofString "load" \/ x=Str.ofString "swap"
  ·obtain ⟨y,w',rfl,tr⟩:=h1 z
   refine cU (fun _=> ?_) (fun q=>absurd ?_ q)
   ·refine ⟨_,rfl,_,_,_,_,rfl,rfl,cQ.of (sp _ _ ht),ad8, ?_⟩
    have:=k _ sp;unfold Jy at this;rw [if_pos tr] at this;exact this
   ·rcases z with rfl|rfl<;>decide +kernel
  ·have n1:x≠Str.ofString "load" :=fun q=>z (.inl q)
   have n2:x≠Str.ofString "swap" :=fun q=>z (.inr q);have tr:=h2 n1 n2;refine cU (fun q=>absurd q ?_) (fun _=> ?_)
   ·simp [inV,Qs,n1.symm,n2.symm]
   ·have:=k _ sp
    unfold Jy at this;rw [if_neg (by rw [tr];decide)] at this;exact this
def Jk:Lw->Nat
 | .one _=>1
 | .two _ _ _=>2
def vN (CH:Addr) (n:Nat) (K:PySem.W.Frag):Sp:=fun vs H Q _=>∃(A:sY) (s:bU) (v:V) (e:Lw),vs=[.ref A.h,v]/\qZ CH H A s/\Dat H v (En e)/\Cd e/\Jk e<=n/\Q (.int (vx s.bs e)) H
theorem Wf {au:Addr} {f:Addr} {fd:FuncData} (F:jY K "value_of" "Hand.value_of" cB f fd):bV P w K mg base j4 1 f fd ["self","part"] (vN au 0 K):=by
 refine F.ok iy (fun vs H Q E h=> ?_) (fun cdv A outer s H vs Q E hr h=> ?_)
 ·obtain ⟨A,s,v,e,rfl,_,_,_,z,_⟩:=h
  cases e<;>simp [Jk] at z
 ·obtain ⟨A,s,v,e,rfl,_,_,_,z,_⟩:=h
  cases e<;>simp [Jk] at z
theorem Ms {au:Addr} {n:Nat} {f:Addr} {fd:FuncData} (F:jY K "value_of" "Hand.value_of" cB f fd) (cD:MethAt P w K mg base (n+1) au "value_of" ["self","part"] (vN au n K)) (aP:iG K au) (iD:Gv mg "BOXES" (.str "abcdefgh")) (jV:Gv mg "ROUND" (.int 1000)):bV P w K mg base j4 (n+1+1) f fd ["self","part"] (vN au (n+1) K):=by
 refine F.ok iy (fun vs H Q E h=> ?_) (fun cdv A outer s H vs Q E hr h=> ?_)
 ·obtain ⟨A,s,v,e,rfl,_⟩:=h
  rfl
 ·obtain ⟨B,z,v,e,rfl,c,d,eo,dp,k⟩:=h
  refine ⟨_,(aF (cJ (bG gj (aY (bx (K:=K) rfl) (pv 1) aG (fun _ _=>rfl)) cT (bA _)) (aL (bF (bR mH (aY (bx (K:=K) rfl) (pv 1) aG (fun _ _=>rfl)) (jc (by rfl) jV.choose_spec.1 jV.choose_spec.2)))) bN)
   (aF (cJ (bG gj (aY (bx (K:=K) rfl) (pv 1) aG (fun _ _=>rfl)) cT (bA _)) (aL (bF (aY (bB (K:=K) rfl) (bC (K:=K) rfl (pv 0) rfl) (Bq (K:=K) rfl PySem.F.plainAttrs_str PySem.F.slot_str_index PySem.F.type_str_index Eb (jc (by rfl) iD.choose_spec.1 iD.choose_spec.2) (aj (aY (bx (K:=K) rfl) (pv 1) aG (fun _ _=>rfl)) aB)) (fun _ _=>rfl)))) bN)
   (aF (bM (i:=2) iy.nd rfl (Or.inl rfl) (dX cD aP.cls (hr.mono (Nat.le_refl _)) (pv 0) (aj (aY (bx (K:=K) rfl) (pv 1) aG (fun _ _=>rfl)) aB)))
   (aF (bM (i:=3) iy.nd rfl (Or.inl rfl) (dX cD aP.cls (hr.mono (Nat.le_refl _)) (pv 0) (aj (aY (bx (K:=K) rfl) (pv 1) aG (fun _ _=>rfl)) aB)))
   (aL (bF (bR mH (pI (bG gj (aY (bx (K:=K) rfl) (pv 1) aG (fun _ _=>rfl)) cT (bA _)) (bR kZ (pv 2) (pv 3)) (bR vg (pv 2) (pv 3))) (jc (by rfl) jV.choose_spec.1 jV.choose_spec.2)))))))), ?_⟩
  match e,d,eo,dp,k with
  | .one (.num m),d,eo,dp,k=>
    obtain ⟨t,rfl,ht⟩:=Yv (x:= .num m) d;refine ⟨_,rfl,_,_,_,_,rfl,rfl,cQ.of ht,rfl,rfl,_,rfl, ?_⟩;refine cU (fun _=> ?_) (fun z=>absurd (decide_eq_true rfl) z);exact ⟨_,rfl,_,_,_,_,rfl,rfl,cQ.of ht,rfl,_,_,rfl,rfl,(by show (0:Int)<1000;decide),k⟩
  | .one (.box b),d,eo,dp,k=>
    obtain ⟨t,rfl,ht⟩:=Yv (x:= .box b) d;refine ⟨_,rfl,_,_,_,_,rfl,rfl,cQ.of ht,rfl,rfl,_,rfl, ?_⟩;refine cU (fun z=>absurd (of_decide_eq_true z) (by decide)) (fun _=> ?_);refine ⟨_,rfl,_,_,_,_,rfl,rfl,cQ.of ht,rfl,rfl,_,rfl, ?_⟩;refine cU (fun _=> ?_) (fun z=>absurd (decide_eq_true rfl) z);have hb:b<8:=eo;refine ⟨_,rfl,B.h,au,B.hx,_,_,rfl,c.h,aP.cls,aP.nM,rfl,rfl,_,rfl,_,_,_,_,rfl,rfl,cQ.of ht,rfl,_,_,b,[],rfl,rfl,Uq hb,_,_,_,_,rfl,rfl,bL.of c.b,gP (v:= .int ((z.bs[b]?).getD 0)) ?_,k⟩;have hl:b<z.bs.length:=by rw [c.bl];exact hb
    rw [List.getElem?_map,List.getElem?_eq_getElem hl];rfl
  | .two p x y,d,eo,dp,k=>
    obtain ⟨t,u,w',rfl,ht,du,dw⟩:=aaQ d;have e1:Cd (.one x)/\Cd (.one y):=eo
    have dn:1<=n:=by
     have:2<=n+1:=dp;omega
    have np:∀q:Bool,(Str.ofString "number")≠(if q then Str.ofString "plus" else Str.ofString "minus"):=by decide +kernel
    have nb:∀q:Bool,(Str.ofString "box")≠(if q then Str.ofString "plus" else Str.ofString "minus"):=by decide +kernel
    refine ⟨_,rfl,_,_,_,_,rfl,rfl,cQ.of ht,rfl,rfl,_,rfl, ?_⟩;refine cU (fun z=>absurd (by simpa using (of_decide_eq_true z).symm) (np p)) (fun _=> ?_);refine ⟨_,rfl,_,_,_,_,rfl,rfl,cQ.of ht,rfl,rfl,_,rfl, ?_⟩;refine cU (fun z=>absurd (by simpa using (of_decide_eq_true z).symm) (nb p)) (fun _=> ?_);refine ⟨_,rfl,B.h,B.hx,_,rfl,c.h,rfl,_,rfl,_,_,_,_,rfl,rfl,cQ.of ht,rfl,B,z,u,.one x,rfl,c,du,e1.1,dn, ?_⟩;refine ⟨_,rfl,B.h,B.hx,_,rfl,c.h,rfl,_,rfl,_,_,_,_,rfl,rfl,cQ.of ht,rfl,B,z,w',.one y,rfl,c,dw,e1.2,dn, ?_⟩;refine ⟨_,rfl,_,_,_,_,rfl,rfl,cQ.of ht,rfl,rfl,_,rfl, ?_⟩;cases p with
    | true=>
      refine cU (fun _=> ?_) (fun z=>absurd (decide_eq_true rfl) z);exact ⟨_,rfl,_,rfl,_,_,rfl,rfl,_,_,rfl,rfl,(by show (0:Int)<1000;decide),k⟩
    | false=>
      refine cU (fun z=>absurd (of_decide_eq_true z) (by decide)) (fun _=> ?_);exact ⟨_,rfl,_,rfl,_,_,rfl,rfl,_,_,rfl,rfl,(by show (0:Int)<1000;decide),k⟩
theorem PB (e:Lw):Jk e<=2:=by cases e<;>simp [Jk]
def Fz (CH:Addr) (K:PySem.W.Frag):Sp:=fun vs H Q _=>∃(A:sY) (s:bU) (v:V) (q:Bool) (e f:Lw) (n:Nat),vs=[.ref A.h,v]/\qZ CH H A s/\Dat H v (DY (.HB q e f n))/\Cd e/\Cd f/\Q (.bl (yH s.bs (.HB q e f n))) H
theorem Ss {au:Addr} {f:Addr} {fd:FuncData} (F:jY K "holds" "Hand.holds" eN f fd) (cD:MethAt P w K mg base 3 au "value_of" ["self","part"] (vN au 2 K)) (aP:iG K au):bV P w K mg base j4 4 f fd ["self","row"] (Fz au K):=by
 refine F.ok o7 (fun vs H Q E h=> ?_) (fun cdv A outer s H vs Q E hr h=> ?_)
 ·obtain ⟨A,s,v,q,e,f,n,rfl,_⟩:=h
  rfl
 ·obtain ⟨B,z,v,q,e,f,n,rfl,c,d,o1,o2,k⟩:=h
  refine ⟨_,(aF (bM (i:=2) o7.nd rfl (Or.inl rfl) (dX cD aP.cls (hr.mono (by decide)) (pv 0) (aj (aY (bx (K:=K) rfl) (pv 1) aG (fun _ _=>rfl)) aB)))
   (aF (bM (i:=3) o7.nd rfl (Or.inl rfl) (dX cD aP.cls (hr.mono (by decide)) (pv 0) (aj (aY (bx (K:=K) rfl) (pv 1) aG (fun _ _=>rfl)) aB)))
   (aL (bF (pI (bG gj (aY (bx (K:=K) rfl) (pv 1) aG (fun _ _=>rfl)) cT (bA _)) (dU gj (pv 2) (pv 3) (bA _)) (dU yW (pv 2) (pv 3) (bA _))))))), ?_⟩
  obtain ⟨t,ws,rfl,ht,x,y,rfl,dx,dy⟩:=Nk d;refine ⟨_,rfl,B.h,B.hx,_,rfl,c.h,rfl,_,rfl,_,_,_,_,rfl,rfl,cQ.of ht,rfl,B,z,x,e,rfl,c,dx,o1,PB e, ?_⟩;refine ⟨_,rfl,B.h,B.hx,_,rfl,c.h,rfl,_,rfl,_,_,_,_,rfl,rfl,cQ.of ht,rfl,B,z,y,f,rfl,c,dy,o2,PB f, ?_⟩;refine ⟨_,rfl,_,_,_,_,rfl,rfl,cQ.of ht,rfl,rfl,_,rfl, ?_⟩;cases q with
  | true=>
    refine cU (fun _=> ?_) (fun z=>absurd (decide_eq_true rfl) z);refine ⟨_,rfl,_,rfl,rfl, ?_⟩
    have:decide (V.int (vx z.bs e)=V.int (vx z.bs f))=yH z.bs (.HB true e f n):=by
     show _=decide (vx z.bs e=vx z.bs f);rw [Bool.eq_iff_iff,decide_eq_true_iff,decide_eq_true_iff];exact ⟨fun z=>V.int.inj z,fun z=>by rw [z]⟩
    rw [this];exact k
  | false=>
    refine cU (fun z=>absurd (of_decide_eq_true z) (by decide)) (fun _=> ?_);exact ⟨_,rfl,_,rfl,_,_,rfl,rfl,k⟩
def Fp (CH:Addr) (K:PySem.W.Frag):Sp:=fun vs H Q _=>∃(A:sY) (s:bU) (b:Nat) (i:Int),vs=[.ref A.h,.str (Qt b),.int i]/\qZ CH H A s/\b<8/\Q .non (upd H A.b (.lst ((s.bs.set b i).map V.int)))
theorem Wj {au:Addr} {f:Addr} {fd:FuncData} (F:jY K "take" "Hand.take" fB f fd) (aP:iG K au) (iD:Gv mg "BOXES" (.str "abcdefgh")):bV P w K mg base j4 1 f fd ["self","box","number"] (Fp au K):=by
 refine F.ok FW (fun vs H Q E h=> ?_) (fun cdv A outer s H vs Q E hr h=> ?_)
 ·obtain ⟨A,s,b,i,rfl,_⟩:=h
  rfl
 ·obtain ⟨B,z,b,i,rfl,c,hb,k⟩:=h
  refine ⟨_,(aL (o8 (pv 2) (o9 (bC (K:=K) rfl (pv 0) rfl) (Bq (K:=K) rfl PySem.F.plainAttrs_str PySem.F.slot_str_index PySem.F.type_str_index Eb (jc (by rfl) iD.choose_spec.1 iD.choose_spec.2) (aj (pv 1) aB)) set_list))), ?_⟩;refine ⟨_,rfl,_,rfl,B.h,au,B.hx,_,_,rfl,c.h,aP.cls,aP.nM,rfl,rfl,_,rfl,_,_,b,[],rfl,rfl,Uq hb, ?_⟩;rw [List.map_set] at k;exact ⟨B.b,_,_,b,rfl,rfl,c.b,(by rw [List.length_map,c.bl];unfold JT;rw [if_pos (by omega),if_pos (by omega)];simp),k⟩
def Zg (CH:Addr) (K:PySem.W.Frag):Sp:=fun vs H Q _=>∃(A:sY) (s:bU) (v:V) (r:Rw) (m:Nat),vs=[.ref A.h,v]/\qZ CH H A s/\Dat H v (DY r)/\ab1 m r/\touch r=false/\s.sy.length<1000000 /\ ∀H',qZ CH H' A (zm s r)->KH A H H'->Q .non H'
theorem acn {au:Addr} {f:Addr} {fd:FuncData} (F:jY K "do" "Hand.do" iC f fd) (cD:MethAt P w K mg base 3 au "value_of" ["self","part"] (vN au 2 K)) (sX:MethAt P w K mg base 1 au "take" ["self","box","number"] (Fp au K)) (Hs:MethAt P w K mg base 4 au "holds" ["self","row"] (Fz au K)) (aP:iG K au):bV P w K mg base j4 5 f fd ["self","row"] (Zg au K):=by
 refine F.ok Kf (fun vs H Q E h=> ?_) (fun cdv A outer s H vs Q E hr h=> ?_)
 ·obtain ⟨A,s,v,r,m,rfl,_⟩:=h
  rfl
 ·obtain ⟨B,z,v,r,m,rfl,c,d,ro,tr,sl,k⟩:=h
  refine ⟨_,(aF (Bl (K:=K) rfl (pv 0) aG Gw)
   (aL (cJ (bG gj (aY (bx (K:=K) rfl) (pv 1) aG (fun _ _=>rfl)) cT (bA _)) (aL (fH (dX sX aP.cls (hr.mono (by decide)) (pv 0) (aj (aY (bx (K:=K) rfl) (pv 1) aG (fun _ _=>rfl)) (aj (dX cD aP.cls (hr.mono (by decide)) (pv 0) (aj (aY (bx (K:=K) rfl) (pv 1) aG (fun _ _=>rfl)) aB)) aB))))) (aL (cJ (bG gj (aY (bx (K:=K) rfl) (pv 1) aG (fun _ _=>rfl)) cT (bA _)) (aL (fH (kY (K:=K) rfl (bC (K:=K) rfl (pv 0) rfl) (aj (dX cD aP.cls (hr.mono (by decide)) (pv 0) (aj (aY (bx (K:=K) rfl) (pv 1) aG (fun _ _=>rfl)) aB)) aB)))) (aL (cJ (PW.pt (oh (bG gj (aY (bx (K:=K) rfl) (pv 1) aG (fun _ _=>rfl)) cT (bA _)) (mG (gB (eO (dX Hs aP.cls (hr.mono (by decide)) (pv 0) (aj (pv 1) aB))))))) (aL (dB (K:=K) rfl (pv 0) (aY (bx (K:=K) rfl) (pv 1) (RB JZ aG) (fun _ _=>rfl)) rfl)) bN))))))), ?_⟩
  refine ⟨_,rfl,B.h,au,B.hx,_,_,rfl,c.h,aP.cls,aP.yE,rfl,_,_,rfl,rfl,B.hx,_,c.h,(by show 5<1000;decide), ?_⟩;rw [Bk];have c1:=c.vf (z.pos+1) z.st;have k1:KH B H (upd H B.h (.ins au B.hx (hF B.r ((z.pos+1:Nat):Int) B.b B.sy z.st))):=KH.vf;have d1:=d.keep (c.tup k1) _ (Tn r);dsimp only;rw [show ((z.pos:Nat):Int)+1=((z.pos+1:Nat):Int) by omega];generalize (upd H B.h (.ins au B.hx (hF B.r ((z.pos+1:Nat):Int) B.b B.sy z.st)))=H1 at c1 k1 d1 ⊢;obtain ⟨t,ws,rfl,ht,ps⟩:=Nk d1;cases r with
  | load b cc=>cases tr
  | store cc e=>cases tr
  | swap b cc e=>cases tr
  | Gr b e=>
    obtain ⟨x,rfl,dx⟩:=ps;refine ⟨_,rfl,_,_,_,_,rfl,rfl,cQ.of ht,rfl,rfl,_,rfl, ?_⟩;refine cU (fun _=> ?_) (fun z=>absurd (decide_eq_true rfl) z);refine ⟨_,rfl,B.h,B.hx,_,rfl,c1.h,rfl,_,rfl,_,_,_,_,rfl,rfl,cQ.of ht,rfl,_,rfl,B.h,B.hx,_,rfl,c1.h,rfl,_,rfl,_,_,_,_,rfl,rfl,cQ.of ht,rfl,B,_,x,e,rfl,c1,dx,ro.2,PB e, ?_⟩;exact ⟨B,_,b,_,rfl,c1,ro.1,k _ (c1.Rj _ (by rw [List.length_set];exact c1.bl)) (k1.trans KH.Rj)⟩
  | say e=>
    obtain ⟨x,rfl,dx⟩:=ps;refine ⟨_,rfl,_,_,_,_,rfl,rfl,cQ.of ht,rfl,rfl,_,rfl, ?_⟩;refine cU (fun z=>absurd (of_decide_eq_true z) (by decide)) (fun _=> ?_);refine ⟨_,rfl,_,_,_,_,rfl,rfl,cQ.of ht,rfl,rfl,_,rfl, ?_⟩;refine cU (fun _=> ?_) (fun z=>absurd (decide_eq_true rfl) z);refine ⟨_,rfl,B.h,au,B.hx,_,_,rfl,c1.h,aP.cls,aP.tX,rfl,.inl ⟨rfl,_,bL.of c1.y⟩,_,rfl,B.h,B.hx,_,rfl,c1.h,rfl,_,rfl,_,_,_,_,rfl,rfl,cQ.of ht,rfl,B,_,x,e,rfl,c1,dx,ro,PB e, ?_⟩;refine ⟨_,_,_,rfl,rfl,c1.y,(by rw [List.length_map,sizeLine_eq];show z.sy.length<_;omega), ?_⟩;have:=k _ (c1.Zk (z.sy++[vx z.bs e])) (k1.trans KH.Zk);rw [List.map_append] at this;exact this
  | go n=>
    obtain rfl:=ps;refine ⟨_,rfl,_,_,_,_,rfl,rfl,cQ.of ht,rfl,rfl,_,rfl, ?_⟩;refine cU (fun z=>absurd (of_decide_eq_true z) (by decide)) (fun _=> ?_);refine ⟨_,rfl,_,_,_,_,rfl,rfl,cQ.of ht,rfl,rfl,_,rfl, ?_⟩;refine cU (fun z=>absurd (of_decide_eq_true z) (by decide)) (fun _=> ?_);refine ⟨_,rfl,_,_,_,_,rfl,rfl,cQ.of ht,rfl,rfl,_,rfl, ?_⟩;refine cU (fun _=> ?_) (fun z=>absurd (decide_eq_true rfl) z);refine fM ?_;refine ⟨_,rfl,_,rfl,_,_,_,_,rfl,rfl,cQ.of ht,rfl,_,rfl,B.h,au,B.hx,_,rfl,c1.h,aP.cls,aP.yE,(by show 5<1000;decide), ?_⟩;rw [Bk];exact k _ (c1.vf n z.st) (k1.trans KH.vf)
  | HB q e f n=>
    obtain ⟨x,y,rfl,dx,dy⟩:=ps;refine ⟨_,rfl,_,_,_,_,rfl,rfl,cQ.of ht,rfl,rfl,_,rfl, ?_⟩;refine cU (fun z=>absurd (of_decide_eq_true z) (by decide)) (fun _=> ?_);refine ⟨_,rfl,_,_,_,_,rfl,rfl,cQ.of ht,rfl,rfl,_,rfl, ?_⟩;refine cU (fun z=>absurd (of_decide_eq_true z) (by decide)) (fun _=> ?_);refine ⟨_,rfl,_,_,_,_,rfl,rfl,cQ.of ht,rfl,rfl,_,rfl, ?_⟩;refine cU (fun z=>absurd (of_decide_eq_true z) (by decide)) (fun _=> ?_);refine ⟨_,rfl,B.h,B.hx,_,rfl,c1.h,rfl,_,rfl,B,_,_,q,e,f,n,rfl,c1,d1,ro.1,ro.2,_,rfl, ?_⟩;cases hh:yH z.bs (.HB q e f n) with
    | true=>
      refine dz ?_;refine k _ ?_ k1;show qZ au H1 B {z with pos:=if yH z.bs (.HB q e f n) then z.pos+1 else n};rw [hh];exact c1
    | false=>
      refine fM ?_;refine ⟨_,rfl,_,rfl,_,_,_,_,rfl,rfl,cQ.of ht,rfl,_,rfl,B.h,au,B.hx,_,rfl,c1.h,aP.cls,aP.yE,(by show 5<1000;decide), ?_⟩;rw [Bk];refine k _ ?_ (k1.trans KH.vf);show qZ au _ B {z with pos:=if yH z.bs (.HB q e f n) then z.pos+1 else n};rw [hh];exact c1.vf n z.st
def gG (H:Hp) (r:Addr) (m:Nat) (rws:List Rw):Prop:=∃ts,H r=some (.lst ts)/\aR H ts (rws.map DY)/\(∀x∈rws,ab1 m x)/\rws.length<=1000
theorem Je (rws:List Rw):vo (rws.map DY)=true:=cY DY Tn rws
theorem gG.keep {H H':Hp} {r:Addr} {m:Nat} {rws:List Rw} (h:gG H r m rws) (k:∀o,H r=some o->H' r=some o) (t:∀x xs,H x=some (.tup xs)->H' x=some (.tup xs)):gG H' r m rws:=by
 obtain ⟨ts,e,d,q⟩:=h;exact ⟨ts,k _ e,d.keep t _ (Je rws),q⟩
theorem gG.same {H H':Hp} {r:Addr} {m:Nat} {rws:List Rw} (h:gG H r m rws) (k:Same H H'):gG H' r m rws:=h.keep (fun o e=>k _ _ e) k.tups
def Fx (CH:Addr) (K:PySem.W.Frag):Sp:=fun vs H Q _=>∃(A:sY) (s:bU) (m:Nat),vs=[.ref A.h]/\qZ CH H A s/\gG H A.r m s.rws/\A.r≠A.b/\A.r≠A.sy/\s.sy.length<900000 /\ ∀H',qZ CH H' A (lead s)->KH A H H'->Q .non H'
theorem Wo {au:Addr} {f:Addr} {fd:FuncData} (F:jY K "lead_on" "Hand.lead_on" cW f fd) (yR:FnAt P w K mg base 1 "cell_of" ["row"] (vU K)) (Ql:MethAt P w K mg base 5 au "do" ["self","row"] (Zg au K)) (aP:iG K au) (gR:Gv mg "MOST_UNTOUCHING" (.int 60)) (Bt:rC mg):bV P w K mg base j4 6 f fd ["self"] (Fx au K):=by
 refine F.ok mF (fun vs H Q E h=> ?_) (fun cdv A outer s H vs Q E hr h=> ?_)
 ·obtain ⟨A,s,m,rfl,_⟩:=h
  rfl
 ·obtain ⟨B,s,m,rfl,c,R,nrb,nry,sl,k⟩:=h
  refine ⟨_,(aF (bM (i:=1) mF.nd rfl (Or.inl rfl) aG)
   (aF (Ig PassesOwn.never (PW.pt (Ko (bG yW (bC (K:=K) rfl (pv 0) rfl) (aX (aZ (K:=K) rfl) (by rfl) Bt.gk dY (aj (bC (K:=K) rfl (pv 0) rfl) aB)) (bA _)) (Gb (bG Bv (b_ yR (hr.mono (by decide)) (by rfl) (aj (aY (bB (K:=K) rfl) (bC (K:=K) rfl (pv 0) rfl) (bC (K:=K) rfl (pv 0) rfl) (fun _ _=>rfl)) aB)) jq (bA _))))) (aF (cJ (bG gj (pv 1) (jc (by rfl) gR.choose_spec.1 gR.choose_spec.2) (bA _)) (aF (dB (K:=K) rfl (pv 0) cT rfl)
   (aL V0)) bN)
   (aF (fH (dX Ql aP.cls (hr.mono (by decide)) (pv 0) (aj (aY (bB (K:=K) rfl) (bC (K:=K) rfl (pv 0) rfl) (bC (K:=K) rfl (pv 0) rfl) (fun _ _=>rfl)) aB)))
   (aL (Zz (i:=1) mF.nd rfl (Or.inl rfl) aG Gw)))))
   (aL (dB (K:=K) rfl (pv 0) (pI (bG yW (bC (K:=K) rfl (pv 0) rfl) (aX (aZ (K:=K) rfl) (by rfl) Bt.gk dY (aj (bC (K:=K) rfl (pv 0) rfl) aB)) (bA _)) cT cT) rfl)))), ?_⟩
  have nrh:B.r≠B.h:=by
   obtain ⟨ts,e,_⟩:=R;exact d_ e c.h (by intro z;cases z)
  refine ⟨fun n σ H1=>∃(d:Nat) (z:bU),σ=[some (.ref B.h),some (.int d)]/\d<=60/\n=60 - d/\qZ au H1 B z/\KH B H H1/\led (60 - d) z=lead s/\z.rws=s.rws/\z.sy.length<=s.sy.length+d,
   ⟨60,0,s,rfl,by decide,rfl,c,KH.of_same (Same.refl _),rfl,rfl,Nat.le_refl _⟩,fun n σ H1 hσ=> ?_⟩
  obtain ⟨d,z,rfl,d60,rfl,c1,k1,hl,zr,zs⟩:=hσ
  have R1:gG H1 B.r m z.rws:=by
   rw [zr];exact R.keep (fun o e=>k1 _ _ e nrh nrb nry) (c.tup k1)
  obtain ⟨ts,hts,dts,ro,rl⟩:=R1;have ln:ts.length=z.rws.length:=by rw [dts.length,List.length_map]
  refine ⟨_,rfl,B.h,au,B.hx,_,_,rfl,c1.h,aP.cls,aP.yE,rfl,_,rfl,B.h,au,B.hx,_,_,rfl,c1.h,aP.cls,aP.rW,rfl,B.r,_,rfl,.inl (bL.of hts),_,_,rfl,rfl,_,rfl, ?_⟩;cases er:z.rws[z.pos]? with
  | none=>
    have ge:z.rws.length<=z.pos:=List.getElem?_eq_none_iff.mp er;have lf:¬decide (((z.pos:Nat):Int)<((ts.length:Nat):Int))=true:=by rw [ln];simp;omega
    refine cU (fun q=>absurd q lf) (fun _=> ?_);refine dz ?_;refine ⟨_,rfl,B.h,au,B.hx,_,_,rfl,c1.h,aP.cls,aP.yE,rfl,_,rfl,B.h,au,B.hx,_,_,rfl,c1.h,aP.cls,aP.rW,rfl,B.r,_,rfl,.inl (bL.of hts),_,_,rfl,rfl,_,rfl, ?_⟩;refine cU (fun q=>absurd q lf) (fun _=> ?_);refine ⟨_,rfl,B.h,au,B.hx,_,rfl,c1.h,aP.cls,aP.ou,(by show 5<1000;decide), ?_⟩;rw [Gd];refine k _ ?_ (k1.trans KH.vf)
    have:lead s={z with st:= "ends" }:=by
     rw [←hl];cases e60:60 - d<;>simp only [led,er]
    rw [this];exact c1.vf z.pos "ends"
  | some r=>
    have lt:z.pos<z.rws.length:=(List.getElem?_eq_some_iff.mp er).1;have lT:decide (((z.pos:Nat):Int)<((ts.length:Nat):Int))=true:=by rw [ln];simp;omega
    obtain ⟨v,ev,dv⟩:=dts.getD (i:=z.pos) (d:=DY r) (by rw [List.getElem?_map,er];rfl);refine cU (fun _=> ?_) (fun q=>absurd lT q);refine ⟨_,rfl,B.h,au,B.hx,_,_,rfl,c1.h,aP.cls,aP.rW,rfl,_,rfl,B.h,au,B.hx,_,_,rfl,c1.h,aP.cls,aP.yE,rfl,_,_,_,_,rfl,rfl,bL.of hts,gP ev,v,r,rfl,dv,fun H2 s2=>⟨rfl,_,rfl, ?_⟩⟩;have c2:=c1.same s2;have acN:=s2 _ _ hts;have k2:=k1.trans (KH.of_same (A:=B) s2);cases tr:touch r with
    | true=>
      refine cU (fun q=>absurd (of_decide_eq_true q) (by unfold Jy;rw [if_pos tr];intro z;cases z)) (fun _=> ?_);refine ⟨_,rfl,B.h,au,B.hx,_,_,rfl,c2.h,aP.cls,aP.yE,rfl,_,rfl,B.h,au,B.hx,_,_,rfl,c2.h,aP.cls,aP.rW,rfl,B.r,_,rfl,.inl (bL.of acN),_,_,rfl,rfl,_,rfl, ?_⟩;refine cU (fun _=> ?_) (fun q=>absurd lT q);refine ⟨_,rfl,B.h,au,B.hx,_,rfl,c2.h,aP.cls,aP.ou,(by show 5<1000;decide), ?_⟩;rw [Gd];refine k _ ?_ (k2.trans KH.vf)
      have:lead s={z with st:= "waits" }:=by
       rw [←hl];cases e60:60 - d<;>simp only [led,er,tr,if_true]
      rw [this];exact c2.vf z.pos "waits"
    | false=>
      refine cU (fun _=> ?_) (fun q=>absurd (decide_eq_true (by unfold Jy;rw [if_neg (by rw [tr];decide)])) q);refine ⟨fun σ' H'=>∃m',m'<60 - d /\ ∃(d:Nat) (z:bU),σ'=[some (.ref B.h),some (.int d)]/\d<=60/\m'=60 - d/\qZ au H' B z/\KH B H H'/\led (60 - d) z=lead s/\z.rws=s.rws/\z.sy.length<=s.sy.length+d,fun _ _ q=>q, ?_⟩;refine ⟨_,rfl,rfl,_,rfl, ?_⟩
      by_cases e6:d=60
      ·subst e6
       refine cU (fun _=> ?_) (fun q=>absurd (decide_eq_true rfl) q);refine ⟨_,rfl,B.h,au,B.hx,_,rfl,c2.h,aP.cls,aP.ou,(by show 5<1000;decide), ?_⟩;rw [Gd];refine k _ ?_ (k2.trans KH.vf)
       have:lead s={z with st:= "lost" }:=by
        rw [←hl];show led 0 z=_;simp only [led,er,tr];rfl
       rw [this];exact c2.vf z.pos "lost"
      ·refine cU (fun q=>absurd (by have:=V.int.inj (of_decide_eq_true q);omega) e6) (fun _=> ?_)
       refine ⟨_,rfl,B.h,B.hx,_,rfl,c2.h,rfl,_,rfl,B.h,au,B.hx,_,_,rfl,c2.h,aP.cls,aP.rW,rfl,_,rfl,B.h,au,B.hx,_,_,rfl,c2.h,aP.cls,aP.yE,rfl,_,_,_,_,rfl,rfl,bL.of acN,gP ev,B,z,v,r,m,rfl,c2,dv.same s2 _,ro r (List.mem_of_getElem? er),tr,by omega,fun H3 c3 k3=> ?_⟩;refine ⟨_,rfl,_,_,rfl,rfl,60 - (d+1),by omega,d+1,zm z r,rfl,by omega,rfl,c3,k2.trans k3, ?_,by rw [Ep,zr], ?_⟩
       ·rw [←hl,show 60 - d=(60 - (d+1))+1 by omega]
        simp only [led,er,tr];rfl
       ·have:=Jq z r
        omega
def wF (pg nb hs tn:Addr):List (Str×V):=[("program",.ref pg),("numbers",.ref nb),("hands",.ref hs),("turns",.ref tn)]
def yC (m:Int) (ns:List Int):Prop:=(ns.length:Int)=m /\ ∀x∈ns,0<=x/\x<1000
def u9 (CN:Addr) (K:PySem.W.Frag):Sp:=fun vs H Q E=>∃(cl:Addr) (m:Int) (ns:List Int),vs=[.ref cl,.int m]/\H cl=some (.lst (ns.map V.int))/\ns.length<=100/\(yC m ns -> ∀H',Same H H'->Q .non H')/\(¬yC m ns -> ∀H',Same H H'->E (.ref CN) none H')
theorem Io {f:Addr} {fd:FuncData} (F:jY K "check_numbers" "check_numbers" cN f fd) (fQ:FnAt P w K mg base 2 "is_below" ["value","count"] (tO K)) (jV:Gv mg "ROUND" (.int 1000)) (Bt:rC mg) {aO:Addr} (iu:Xr K mg aO "NoNumber"):bV P w K mg base (vH P w) 3 f fd ["cells","count"] (u9 aO K):=by
 refine F.Vb yr (fun vs H Q E h=> ?_) (fun cdv A outer s H vs Q E hr h hR=> ?_)
 ·obtain ⟨cl,m,ns,rfl,_⟩:=h
  rfl
 ·obtain ⟨cl,m,ns,rfl,hc,nl,k1,k2⟩:=h
  refine ⟨_,(aF (cJ (PW.pt (oh (gB (eO (aX (dh (K:=K) (cv:= .ty "list") (c:= .type "list") rfl rfl) (by rfl) Bt.bK bI (aj (pv 0) (aj (fJ (v:= .ty "list") (by rfl) Bt.iU fV rfl) aB))))) (mG (bG pJ (aX (aZ (K:=K) rfl) (by rfl) Bt.gk dY (aj (pv 0) aB)) (pv 1) (bA _))))) (aL (jP PySem.F.excBase_ValueError iu.ex iu.bd (by rfl) rfl rfl hR (aj cT aB))) bN)
   (aL (cJ (gB (eO (aX (jf (K:=K) rfl rfl) (by rfl) Bt.Nj G7 (aj (gC rfl (N:=["number"]) (own:=["number"]) (caps:=[]) (bH.of (by kernel_rfl)) (fW (K:=K) rfl (pv 0)) (fun _ _ _ _=>(bY (i:=0) (show List.Nodup (["number"]:List Str) by decide +kernel) rfl (Or.inl rfl))) (fun _ _ _ _=>fU) (fun _ _ _ _=>(b_ fQ (hr.mono (by decide)) (by rfl) (aj (pv 0) (aj (jc (by rfl) jV.choose_spec.1 jV.choose_spec.2) aB))))) aB)))) (aL (jP PySem.F.excBase_ValueError iu.ex iu.bd (by rfl) rfl rfl hR (aj cT aB))) bN))), ?_⟩
  refine ⟨_,rfl,_,_,true,rfl,.lst hc,lF K,true,rfl, ?_⟩;refine dz ?_;refine ⟨_,rfl,cl,_,rfl,.inl (bL.of hc),_,rfl,rfl,_,rfl, ?_⟩;rw [List.length_map]
  by_cases el:(ns.length:Int)=m
  rotate_left
  ·refine cU (fun _=> ?_) (fun z=>absurd (by simp [el]) z)
   exact ⟨(by show 1<=sizeLine;decide),k2 (fun z=>el z.1) H (Same.refl _)⟩
  refine wI (by rw [el]) ?_;refine ⟨_,rfl,cl,rfl,⟨_,bL.of hc⟩,fun D hD=> ?_⟩;refine sJ (K:=K) (fun i=>(ns[i]?).map fun x=>V.bl (decide (BR x 1000))) hD (bL.of hc) (by rw [List.length_map];omega) (fun i v H2 G F hi s2 kG kF=> ?_) (fun H2 s2 e2=> ?_)
  ·rw [List.getElem?_map] at hi
   cases ei:ns[i]? with
   | none=>rw [ei] at hi;cases hi
   | some z=>
     rw [ei] at hi;cases hi;exact ⟨_,rfl,z,1000,rfl,kF _ H2 (Same.refl _) (by rw [ei];rfl)⟩
  rw [List.length_map,GK] at e2;refine ⟨D,ns.map (fun x=>decide (BR x 1000)),rfl,bL.of (by rw [e2,List.map_map];rfl),_,rfl, ?_⟩
  by_cases al:∀x∈ns,BR x 1000
  ·have ea:(ns.map (fun x=>decide (BR x 1000))).all id=true:=by
    rw [List.all_map,List.all_eq_true];intro h hh;exact decide_eq_true (al h hh)
   rw [ea];refine dz ?_;exact k1 ⟨el,fun x hx=>al x hx⟩ H2 s2
  ·have ea:(ns.map (fun x=>decide (BR x 1000))).all id=false:=by
    rw [List.all_map,←Bool.not_eq_true,List.all_eq_true];intro z;exact al fun h hh=>of_decide_eq_true (p:=BR h 1000) (z h hh)
   rw [ea];refine fM ?_;exact ⟨(by show 1<=sizeLine;decide),k2 (fun z=>al fun x hx=>z.2 x hx) H2 s2⟩
def xY (CW CH:Addr) (K:PySem.W.Frag):Sp:=fun vs H Q _=>∃(o dx pg nb hl tn:Addr) (A:sY) (s:bU) (m:Nat) (ns:List Int) (r:Rw),vs=[.ref o,.ref A.h]/\H o=some (.ins CW dx (wF pg nb hl tn))/\H nb=some (.lst (ns.map V.int))/\ns.length=m/\qZ CH H A s/\gG H A.r m s.rws /\
 s.rws[s.pos]? = some r/\touch r=true/\nb≠A.b/\nb≠A.sy /\
 ∀t H',H t=none->H' t=some (.tup (J2 ns s.bs r))->qZ CH H' A {s with bs:=G8 ns s.bs r}->H' nb=some (.lst ((sO ns s.bs r).map V.int))->(∀x u,H x=some u->x≠nb->x≠A.b->H' x=some u)->Q (.ref t) H'
theorem Kv {aq au:Addr} {f:Addr} {fd:FuncData} (F:jY K "touch_by" "Works.touch_by" cF f fd) (yR:FnAt P w K mg base 1 "cell_of" ["row"] (vU K)) (cD:MethAt P w K mg base 3 au "value_of" ["self","part"] (vN au 2 K)) (sX:MethAt P w K mg base 1 au "take" ["self","box","number"] (Fp au K)) (aU:gK K aq) (aP:iG K au):bV P w K mg base j4 4 f fd ["self","one"] (xY aq au K):=by
 refine F.ok eZ (fun vs H Q E h=> ?_) (fun cdv A outer s H vs Q E hr h=> ?_)
 ·obtain ⟨o,dx,pg,nb,hl,tn,A,s,m,ns,r,rfl,_⟩:=h
  rfl
 ·obtain ⟨o,dx,pg,nb,hl,tn,B,z,m,ns,r,rfl,ho,hnb,nl,c,R,er,tr,Yc,nny,k⟩:=h
  refine ⟨_,(aF (bM (i:=2) eZ.nd rfl (Or.inl rfl) (aY (bB (K:=K) rfl) (bC (K:=K) rfl (pv 1) rfl) (bC (K:=K) rfl (pv 1) rfl) (fun _ _=>rfl)))
   (aF (bM (i:=3) eZ.nd rfl (Or.inl rfl) (b_ yR (hr.mono (by decide)) (by rfl) (aj (pv 2) aB)))
   (aF (bM (i:=4) eZ.nd rfl (Or.inl rfl) (pI (bG gj (aY (bx (K:=K) rfl) (pv 2) aG (fun _ _=>rfl)) cT (bA _)) jq (aY (bB (K:=K) rfl) (bC (K:=K) rfl (pv 0) rfl) (pv 3) (fun _ _=>rfl))))
   (aF (bM (i:=5) eZ.nd rfl (Or.inl rfl) (pI (bG gj (aY (bx (K:=K) rfl) (pv 2) aG (fun _ _=>rfl)) cT (bA _)) jq (dX cD aP.cls (hr.mono (by decide)) (pv 1) (aj (aY (bx (K:=K) rfl) (pv 2) (RB JZ aG) (fun _ _=>rfl)) aB))))
   (aF (cJ (bG Gg (pv 4) jq (bA _)) (aL (fH (dX sX aP.cls (hr.mono (by decide)) (pv 1) (aj (aY (bx (K:=K) rfl) (pv 2) aG (fun _ _=>rfl)) (aj (pv 4) aB))))) bN)
   (aF (cJ (bG Gg (pv 5) jq (bA _)) (aL (o8 (pv 5) (o9 (bC (K:=K) rfl (pv 0) rfl) (pv 3) set_list))) bN)
   (aL (bF (jQ (aj (aY (bx (K:=K) rfl) (pv 2) aG (fun _ _=>rfl)) (aj (pv 3) (aj (pv 4) (aj (pv 5) aB))))))))))))), ?_⟩
  obtain ⟨ts,hts,dts,ro,rl⟩:=R;obtain ⟨v,ev,dv⟩:=dts.getD (i:=z.pos) (d:=DY r) (by rw [List.getElem?_map,er];rfl);have Mi:=ro r (List.mem_of_getElem? er);refine ⟨_,rfl,B.h,au,B.hx,_,_,rfl,c.h,aP.cls,aP.rW,rfl,_,rfl,B.h,au,B.hx,_,_,rfl,c.h,aP.cls,aP.yE,rfl,_,_,_,_,rfl,rfl,bL.of hts,gP ev, ?_⟩;refine ⟨_,rfl,v,r,rfl,dv,fun H1 s1=> ?_⟩;have c1:=c.same s1;have ho1:=s1 _ _ ho;have Gz:=s1 _ _ hnb;obtain ⟨t,ws,rfl,ht,ps⟩:=Nk (dv.same s1 _);have nob:o≠nb:=d_ ho1 Gz (by intro z;cases z);have noB:o≠B.b:=d_ ho1 c1.b (by intro z;cases z);have ntb:t≠B.b:=d_ ht c1.b (by intro z;cases z);have ntn:t≠nb:=d_ ht Gz (by intro z;cases z);have cellOf:∀cc,cc<m->ns[cc]? = some ((ns[cc]?).getD 0):=fun cc h=>by rw [List.getElem?_eq_getElem (by omega)];rfl
  have cellAt:∀cc,cc<m->(ns.map V.int)[cc]? = some (.int ((ns[cc]?).getD 0)):=fun cc h=>by rw [List.getElem?_map,cellOf cc h];rfl
  have acE:∀cc,cc<m->JT (ns.map V.int).length ((cc:Nat):Int)=some cc:=fun cc h=>by rw [List.length_map];unfold JT;rw [if_pos (by omega),if_pos (by omega)];simp
  cases r with
  | load b cc=>
    obtain rfl:=ps;refine ⟨_,rfl,_,_,_,_,rfl,rfl,cQ.of ht,rfl,rfl,_,rfl, ?_⟩;refine cU (fun z=>absurd (of_decide_eq_true z) (by decide)) (fun _=> ?_);refine ⟨_,rfl,o,aq,dx,_,_,rfl,ho1,aU.cls,aU.m6,rfl,_,rfl,_,_,_,_,rfl,rfl,bL.of Gz,gP (cellAt cc Mi.2), ?_⟩;refine ⟨_,rfl,_,_,_,_,rfl,rfl,cQ.of ht,rfl,rfl,_,rfl, ?_⟩;refine cU (fun _=> ?_) (fun z=>absurd (decide_eq_true rfl) z);refine ⟨_,rfl,rfl,_,rfl, ?_⟩;refine fM ?_;refine ⟨_,rfl,B.h,B.hx,_,rfl,c1.h,rfl,_,rfl,_,_,_,_,rfl,rfl,cQ.of ht,rfl,_,rfl,B,z,b,_,rfl,c1,Mi.1, ?_⟩;refine ⟨_,rfl,rfl,_,rfl, ?_⟩;refine dz ?_;have c2:=c1.Rj (z.bs.set b ((ns[cc]?).getD 0)) (by rw [List.length_set];exact c1.bl);refine ⟨_,rfl,_,_,_,_,rfl,rfl,cQ.of (by rw [aD ntb];exact ht),rfl,_,rfl,_,rfl,_,rfl,(by show 4<=sizeLine;decide),fun p hp=> ?_⟩;have sp:=aJ (o:=HO.tup [V.str (Str.ofString "load"),V.int cc,V.int ((ns[cc]?).getD 0),V.non]) hp;refine k p _ ?_ ?_ (c2.same sp) (sp _ _ (by rw [aD Yc];exact Gz)) ?_
    ·refine s1.free ?_
     have:p≠B.b:=fun e=>by rw [e,ak] at hp;cases hp
     rw [aD this] at hp;exact hp
    ·rw [ak]
     show some (HO.tup [V.str (Str.ofString "load"),V.int cc,V.int ((ns[cc]?).getD 0),V.non])=some (HO.tup [V.str (Str.ofString "load"),V.int cc,oV (ns[cc]?),V.non]);rw [cellOf cc Mi.2];rfl
    ·intro x u e n1 n2
     exact sp _ _ (by rw [aD n2];exact s1 _ _ e)
  | store cc e=>
    obtain ⟨x,rfl,dx'⟩:=ps;refine ⟨_,rfl,_,_,_,_,rfl,rfl,cQ.of ht,rfl,rfl,_,rfl, ?_⟩;refine cU (fun _=> ?_) (fun z=>absurd (decide_eq_true rfl) z);refine ⟨_,rfl,_,_,_,_,rfl,rfl,cQ.of ht,rfl,rfl,_,rfl, ?_⟩;refine cU (fun z=>absurd (of_decide_eq_true z) (by decide)) (fun _=> ?_);refine ⟨_,rfl,B.h,B.hx,_,rfl,c1.h,rfl,_,rfl,_,rfl,_,_,_,_,rfl,rfl,cQ.of ht,rfl,B,z,x,e,rfl,c1,dx',Mi.2,PB e, ?_⟩;refine ⟨_,rfl,rfl,_,rfl, ?_⟩;refine dz ?_;refine ⟨_,rfl,rfl,_,rfl, ?_⟩;refine fM ?_;refine ⟨_,rfl,_,rfl,o,aq,dx,_,_,rfl,ho1,aU.cls,aU.m6,rfl,_,rfl,nb,_,_,cc,rfl,rfl,Gz,acE cc Mi.1, ?_⟩;rw [←List.map_set];refine ⟨_,rfl,_,_,_,_,rfl,rfl,cQ.of (by rw [aD ntn];exact ht),rfl,_,rfl,_,rfl,_,rfl,(by show 4<=sizeLine;decide),fun p hp=> ?_⟩;have sp:=aJ (o:=HO.tup [V.str (Str.ofString "store"),V.int cc,V.non,V.int (vx z.bs e)]) hp;have nbh:B.h≠nb:=d_ c1.h Gz (by intro z;cases z);refine k p _ ?_ ak (qZ.same ⟨by rw [aD nbh];exact c1.h,by rw [aD Yc.symm];exact c1.b,by rw [aD nny.symm];exact c1.y,c1.OD,c1.bl⟩ sp) (sp _ _ ak) ?_
    ·refine s1.free ?_
     have:p≠nb:=fun e=>by rw [e,ak] at hp;cases hp
     rw [aD this] at hp;exact hp
    ·intro x u e n1 n2
     exact sp _ _ (by rw [aD n1];exact s1 _ _ e)
  | swap b cc e=>
    obtain ⟨x,rfl,dx'⟩:=ps;refine ⟨_,rfl,_,_,_,_,rfl,rfl,cQ.of ht,rfl,rfl,_,rfl, ?_⟩;refine cU (fun z=>absurd (of_decide_eq_true z) (by decide)) (fun _=> ?_);refine ⟨_,rfl,o,aq,dx,_,_,rfl,ho1,aU.cls,aU.m6,rfl,_,rfl,_,_,_,_,rfl,rfl,bL.of Gz,gP (cellAt cc Mi.2.1), ?_⟩;refine ⟨_,rfl,_,_,_,_,rfl,rfl,cQ.of ht,rfl,rfl,_,rfl, ?_⟩;refine cU (fun z=>absurd (of_decide_eq_true z) (by decide)) (fun _=> ?_);refine ⟨_,rfl,B.h,B.hx,_,rfl,c1.h,rfl,_,rfl,_,rfl,_,_,_,_,rfl,rfl,cQ.of ht,rfl,B,z,x,e,rfl,c1,dx',Mi.2.2,PB e, ?_⟩;refine ⟨_,rfl,rfl,_,rfl, ?_⟩;refine fM ?_;refine ⟨_,rfl,B.h,B.hx,_,rfl,c1.h,rfl,_,rfl,_,_,_,_,rfl,rfl,cQ.of ht,rfl,_,rfl,B,z,b,_,rfl,c1,Mi.1, ?_⟩;refine ⟨_,rfl,rfl,_,rfl, ?_⟩;refine fM ?_;have c2:=c1.Rj (z.bs.set b ((ns[cc]?).getD 0)) (by rw [List.length_set];exact c1.bl);have akR:(upd H1 B.b (.lst ((z.bs.set b ((ns[cc]?).getD 0)).map V.int))) nb=some (.lst (ns.map V.int)):=by rw [aD Yc];exact Gz
    refine ⟨_,rfl,_,rfl,o,aq,dx,_,_,rfl,(by rw [aD noB];exact ho1),aU.cls,aU.m6,rfl,_,rfl,nb,_,_,cc,rfl,rfl,akR,acE cc Mi.2.1, ?_⟩;rw [←List.map_set];refine ⟨_,rfl,_,_,_,_,rfl,rfl,cQ.of (by rw [aD ntn,aD ntb];exact ht),rfl,_,rfl,_,rfl,_,rfl,(by show 4<=sizeLine;decide),fun p hp=> ?_⟩;have sp:=aJ (o:=HO.tup [V.str (Str.ofString "swap"),V.int cc,V.int ((ns[cc]?).getD 0),V.int (vx z.bs e)]) hp;have nbh:B.h≠nb:=d_ c1.h Gz (by intro z;cases z);refine k p _ ?_ ?_ (qZ.same ⟨by rw [aD nbh];exact c2.h,by rw [aD Yc.symm];exact c2.b,by rw [aD nny.symm];exact c2.y,c2.OD,c2.bl⟩ sp) (sp _ _ ak) ?_
    ·refine s1.free ?_
     have n1:p≠nb:=fun e=>by rw [e,ak] at hp;cases hp
     rw [aD n1] at hp;have n2:p≠B.b:=fun e=>by rw [e,ak] at hp;cases hp
     rw [aD n2] at hp;exact hp
    ·rw [ak]
     show some (HO.tup [V.str (Str.ofString "swap"),V.int cc,V.int ((ns[cc]?).getD 0),V.int (vx z.bs e)])=some (HO.tup [V.str (Str.ofString "swap"),V.int cc,oV (ns[cc]?),V.int (vx z.bs e)]);rw [cellOf cc Mi.2.1];rfl
    ·intro x u e n1 n2
     exact sp _ _ (by rw [aD n1,aD n2];exact s1 _ _ e)
  | Gr b e=>cases tr
  | say e=>cases tr
  | go n=>cases tr
  | HB q e f n=>cases tr
structure JH where
 (o dx pg L nb hl tn:Addr) (rs:List Addr) (hd:List sY)
structure zJ (CH:Addr) (i k m:Nat) (τ:Tg) (H:Hp) (A:sY) (s:bU):Prop where
 c:qZ CH H A s
 r:gG H A.r m s.rws
 tr:τ A.r=[0]
 th:τ A.h=[i,4,k]
 tb:τ A.b=[i,5,k]
 ty:τ A.sy=[i,6,k]
structure um (CW CH:Addr) (i:Nat) (τ:Tg) (H:Hp) (W:JH) (S:pO):Prop where
 un:pU τ H
 i0:i≠0
 o:H W.o=some (.ins CW W.dx (wF W.pg W.nb W.hl W.tn))
 pg:H W.pg=some (.tup [.int S.m,.ref W.L])
 L:H W.L=some (.lst (W.rs.map V.ref))
 nb:H W.nb=some (.lst (S.ns.map V.int))
 hl:H W.hl=some (.lst (W.hd.map fun a=> .ref a.h))
 tn:H W.tn=some (.lst (S.ts.map V.int))
 to:τ W.o=[i,0]
 tb:τ W.nb=[i,1]
 tl:τ W.hl=[i,2]
 tt:τ W.tn=[i,3]
 tL:τ W.L=[0]
 rl:W.rs.length=S.hs.length
 rs:∀(k:Nat) (r:Addr) (s:bU),W.rs[k]? = some r->S.hs[k]? = some s->τ r=[0]/\gG H r S.m s.rws
 len:W.hd.length=S.hs.length
 hd:∀(k:Nat) (A:sY) (s:bU),W.hd[k]? = some A->S.hs[k]? = some s->zJ CH i k S.m τ H A s
 ok:∀s∈S.hs,nY s
 sl:∀s∈S.hs,s.sy.length<=60*(S.ts.length+1)
 nl:S.ns.length=S.m
 hn:S.hs.length<=100
section
variable {CW CH:Addr} {i:Nat} {τ τ':Tg} {H H':Hp} {W:JH} {S:pO}
theorem zJ.mv {k m:Nat} {A:sY} {s:bU} (h:zJ CH i k m τ H A s) (q:Mv i τ H τ' H'):zJ CH i k m τ' H' A s:=by
 obtain ⟨⟨c1,c2,c3,c4,c5⟩,r,tr,th,tb,ty⟩:=h;have e1:=q.keep _ _ c1 (.inr (by rw [th];rfl));have e2:=q.keep _ _ c2 (.inr (by rw [tb];rfl));have e3:=q.keep _ _ c3 (.inr (by rw [ty];rfl));have rr:=r;obtain ⟨ts,hr,_⟩:=rr;have e4:=q.keep _ _ hr (.inl tr);exact ⟨⟨e1.1,e2.1,e3.1,c4,c5⟩,r.keep (fun o e=>(q.keep _ _ e (.inl tr)).1) q.tup,e4.2.trans tr,e1.2.trans th,e2.2.trans tb,e3.2.trans ty⟩
theorem VG {r:Addr} {m:Nat} {rws:List Rw} (h:τ r=[0]/\gG H r m rws) (q:Mv i τ H τ' H'):τ' r=[0]/\gG H' r m rws:=by
 obtain ⟨t,R⟩:=h;have rr:=R;obtain ⟨ts,hr,_⟩:=rr;have e4:=q.keep _ _ hr (.inl t);exact ⟨e4.2.trans t,R.keep (fun o e=>(q.keep _ _ e (.inl t)).1) q.tup⟩
theorem um.mv (w:um CW CH i τ H W S) (q:Mv i τ H τ' H') (u:pU τ' H'):um CW CH i τ' H' W S:=by
 have e1:=q.keep _ _ w.o (.inr (by rw [w.to];rfl));have e2:=q.keep _ _ w.nb (.inr (by rw [w.tb];rfl));have e3:=q.keep _ _ w.hl (.inr (by rw [w.tl];rfl));have e4:=q.keep _ _ w.tn (.inr (by rw [w.tt];rfl));have e5:=q.keep _ _ w.L (.inl w.tL);exact ⟨u,w.i0,e1.1,q.tup _ _ w.pg,e5.1,e2.1,e3.1,e4.1,e1.2.trans w.to,e2.2.trans w.tb,e3.2.trans w.tl,e4.2.trans w.tt,e5.2.trans w.tL,w.rl,fun k r s h1 h2=>VG (w.rs k r s h1 h2) q,w.len,fun k A s h1 h2=>(w.hd k A s h1 h2).mv q,w.ok,w.sl,w.nl,w.hn⟩
theorem um.same (w:um CW CH i τ H W S) (k:Same H H'):um CW CH i τ H' W S:=w.mv (Mv.of_same k) (w.un.same k)
theorem um.hand {k:Nat} {s:bU} (w:um CW CH i τ H W S) (h:S.hs[k]? = some s):∃A,W.hd[k]? = some A/\zJ CH i k S.m τ H A s:=by
 have:k<W.hd.length:=by rw [w.len];exact (List.getElem?_eq_some_iff.mp h).1
 exact ⟨W.hd[k],by simp [this],w.hd k _ _ (by simp [this]) h⟩
end
def vQ (CW CH CN:Addr) (K:PySem.W.Frag):Sp:=fun vs H Q E=>∃(i:Nat) (τ:Tg) (W:JH) (S:pO) (h:Int),vs=[.ref W.o,.int h]/\um CW CH i τ H W S/\(∀(k:Nat) (A:sY) (s:bU),h=k->W.hd[k]? = some A->S.hs[k]? = some s->Q (.ref A.h) H)/\(¬BR h S.hs.length->E (.ref CN) none H)
theorem Oq {aq au:Addr} {f:Addr} {fd:FuncData} (F:jY K "hand_of" "Works.hand_of" cO f fd) (fQ:FnAt P w K mg base 2 "is_below" ["value","count"] (tO K)) (aU:gK K aq) (Bt:rC mg) {aH:Addr} (bT:Xr K mg aH "NoHand"):bV P w K mg base (vH P w) 3 f fd ["self","hand"] (vQ aq au aH K):=by
 refine F.Vb yt (fun vs H Q E h=> ?_) (fun cdv A outer s H vs Q E hr h hR=> ?_)
 ·obtain ⟨i,τ,W,S,h,rfl,_⟩:=h
  rfl
 ·obtain ⟨i,τ,W,S,h,rfl,w,k1,k2⟩:=h
  refine ⟨_,(aF (cJ (gB (eO (b_ fQ (hr.mono (by decide)) (by rfl) (aj (pv 1) (aj (aX (aZ (K:=K) rfl) (by rfl) Bt.gk dY (aj (bC (K:=K) rfl (pv 0) rfl) aB)) aB))))) (aL (jP PySem.F.excBase_ValueError bT.ex bT.bd (by rfl) rfl rfl hR (aj cT aB))) bN)
   (aL (bF (aY (bB (K:=K) rfl) (bC (K:=K) rfl (pv 0) rfl) (pv 1) (fun _ _=>rfl))))), ?_⟩
  refine ⟨_,rfl,_,rfl,W.o,aq,W.dx,_,_,rfl,w.o,aU.cls,aU.qG,rfl,W.hl,_,rfl,.inl (bL.of w.hl),h,_,rfl,_,rfl, ?_⟩;have ll:(W.hd.map fun a=>V.ref a.h).length=S.hs.length:=by rw [List.length_map,w.len]
  by_cases hh:BR h (W.hd.map fun a=>V.ref a.h).length
  ·rw [decide_eq_true hh]
   refine dz ?_;obtain ⟨n,rfl⟩:=Int.eq_ofNat_of_zero_le hh.1;have nl:n<S.hs.length:=by have:=hh.2;rw [ll] at this;omega
   have es:S.hs[n]? = some S.hs[n]:=by simp [nl]
   obtain ⟨A,eA,_⟩:=w.hand es;exact ⟨_,rfl,W.o,aq,W.dx,_,_,rfl,w.o,aU.cls,aU.qG,rfl,_,rfl,_,_,_,_,rfl,rfl,bL.of w.hl,gP (by rw [List.getElem?_map,eA];rfl),k1 n A _ rfl eA es⟩
  ·rw [decide_eq_false hh]
   refine fM ?_;rw [ll] at hh;exact ⟨(by show 1<=sizeLine;decide),k2 hh⟩
def Rf (CW CH CN:Addr) (K:PySem.W.Frag):Sp:=fun vs H Q E=>∃(i:Nat) (τ:Tg) (W:JH) (S:pO) (h:Int),vs=[.ref W.o,.int h]/\um CW CH i τ H W S/\(∀(k:Nat) (s:bU),h=k->S.hs[k]? = some s->Q (.str s.st) H)/\(¬BR h S.hs.length->E (.ref CN) none H)
theorem ZV {aq au aH:Addr} {f:Addr} {fd:FuncData} (F:jY K "how" "Works.how" fu f fd) (mJ:jU P w K mg base 3 aq "hand_of" ["self","hand"] (vQ aq au aH K)) (aU:gK K aq) (aP:iG K au):bV P w K mg base (vH P w) 4 f fd ["self","hand"] (Rf aq au aH K):=by
 refine F.Vb FT (fun vs H Q E h=> ?_) (fun cdv A outer s H vs Q E hr h hR=> ?_)
 ·obtain ⟨i,τ,W,S,h,rfl,_⟩:=h
  rfl
 ·obtain ⟨i,τ,W,S,h,rfl,w,k1,k2⟩:=h
  refine ⟨_,(aL (bF (bC (K:=K) rfl (wk mJ aU.cls rfl hR (hr.mono (by decide)) (pv 0) (aj (pv 1) aB)) rfl))), ?_⟩;refine ⟨_,rfl,W.o,W.dx,_,rfl,w.o,rfl,_,rfl,i,τ,W,S,h,rfl,w,fun k A s e eA es=> ?_,k2⟩;have a:=w.hd k A s eA es;exact ⟨A.h,au,A.hx,_,_,rfl,a.c.h,aP.cls,aP.ou,rfl,k1 k s e es⟩
def P_ (S:pO):List Int:=(List.range S.hs.length).map fun k:Nat=>((S.ts.count (k:Int):Nat):Int)
def vR (CW CH:Addr) (K:PySem.W.Frag):Sp:=fun vs H Q _=>∃(i:Nat) (τ:Tg) (W:JH) (S:pO),vs=[.ref W.o]/\um CW CH i τ H W S /\ ∀l H',H l=none->H' l=some (.lst ((P_ S).map V.int))->Same H H'->Q (.ref l) H'
theorem Ou {aq au:Addr} {f:Addr} {fd:FuncData} (F:jY K "counts" "Works.counts" cV f fd) (aU:gK K aq) (Bt:rC mg):bV P w K mg base j4 1 f fd ["self"] (vR aq au K):=by
 refine F.ok zy (fun vs H Q E h=> ?_) (fun cdv A outer s H vs Q E hr h=> ?_)
 ·obtain ⟨i,τ,W,S,rfl,_⟩:=h
  rfl
 ·obtain ⟨i,τ,W,S,rfl,w,k⟩:=h
  refine ⟨_,(aL (bF (gC rfl (N:=["hand","self"]) (own:=["hand"]) (caps:=[0]) (bH.of (by kernel_rfl)) (jt (by rfl) Bt.mY (aj (aX (aZ (K:=K) rfl) (by rfl) Bt.gk dY (aj (bC (K:=K) rfl (pv 0) rfl) aB)) aB)) (fun _ _ _ _=>(bY (i:=0) (show List.Nodup (["hand","self"]:List Str) by decide +kernel) rfl (Or.inl rfl))) (fun _ _ _ _=>fU) (fun _ _ _ _=>(Bq (K:=K) rfl PySem.F.plainAttrs_list PySem.F.slot_list_count PySem.F.type_list_count (O1 (K:=K) rfl) (bC (K:=K) rfl (pv 1) rfl) (aj (pv 0) aB)))))), ?_⟩;have ll:(W.hd.map fun a=>V.ref a.h).length=S.hs.length:=by rw [List.length_map,w.len]
  refine ⟨_,rfl,W.o,aq,W.dx,_,_,rfl,w.o,aU.cls,aU.qG,rfl,W.hl,_,rfl,.inl (bL.of w.hl),_,rfl,(by rw [ll];have:=w.hn;omega),(by rw [ll];have:=w.hn;omega),fun D hD=> ?_⟩;rw [ll,Int.toNat_natCast];refine t_ (fun j:Nat=>some (.int ((S.ts.count (j:Int):Nat):Int))) hD (by have:=w.hn;omega) (fun j H1 G F hj s1 kG kF=> ?_) (fun H1 s1 e1=> ?_)
  ·refine ⟨_,rfl,W.o,aq,W.dx,_,_,rfl,s1 _ _ w.o,aU.cls,aU.wB,rfl,.inl ⟨rfl,_,bL.of (s1 _ _ w.tn)⟩,_,rfl,_,S.ts,_,rfl,rfl,bL.of (s1 _ _ w.tn),kF _ H1 (Same.refl _) (by rw [Int.zero_add])⟩
  ·refine k D H1 hD ?_ s1
   rw [e1];unfold P_;rw [List.map_map,List.filterMap_eq_map'];rfl
structure uf (C:List (List Nat)) (τ:Tg) (H:Hp) (τ':Tg) (H':Hp):Prop where
 keep:∀x u,H x=some u->τ x∉C->H' x=some u/\τ' x=τ x
 tup:∀x xs,H x=some (.tup xs)->H' x=some (.tup xs)
theorem uf.of_same {C:List (List Nat)} {τ:Tg} {H H':Hp} (k:Same H H'):uf C τ H τ H':=⟨fun x u e _=>⟨k _ _ e,rfl⟩,k.tups⟩
theorem uf.claim {C:List (List Nat)} {τ:Tg} {H H':Hp} {p:Addr} {t:List Nat} (k:Same H H') (hp:H p=none):uf C τ H (aV τ p t) H':=⟨fun x u e _=>⟨k _ _ e,aW (aA e hp)⟩,k.tups⟩
theorem uf.set {C:List (List Nat)} {τ:Tg} {H:Hp} {x:Addr} {o u:HO} (ht:τ x∈C) (hx:H x=some o) (hn:∀xs,o ≠ .tup xs):uf C τ H τ (upd H x u):=
 ⟨fun y v e n=>⟨by rw [aD (fun z:y=x=>n (by rw [z];exact ht))];exact e,rfl⟩,fun y xs e=>by rw [aD (d_ e hx fun z=>hn xs z.symm)];exact e⟩
theorem uf.trans {C:List (List Nat)} {τ τ1 τ2:Tg} {H H1 H2:Hp} (a:uf C τ H τ1 H1) (b:uf C τ1 H1 τ2 H2):uf C τ H τ2 H2:=⟨fun x u e n=>by
 obtain ⟨e1,t1⟩:=a.keep x u e n;obtain ⟨e2,t2⟩:=b.keep x u e1 (by rw [t1];exact n);exact ⟨e2,by rw [t2,t1]⟩,fun x xs e=>b.tup _ _ (a.tup _ _ e)⟩
theorem zJ.mvT {C:List (List Nat)} {CH:Addr} {i k m:Nat} {τ τ':Tg} {H H':Hp} {A:sY} {s:bU} (h:zJ CH i k m τ H A s) (q:uf C τ H τ' H') (h0:[0]∉C) (h4:[i,4,k]∉C) (h5:[i,5,k]∉C) (h6:[i,6,k]∉C):zJ CH i k m τ' H' A s:=by
 obtain ⟨⟨c1,c2,c3,c4,c5⟩,r,tr,th,tb,ty⟩:=h;have e1:=q.keep _ _ c1 (by rw [th];exact h4);have e2:=q.keep _ _ c2 (by rw [tb];exact h5);have e3:=q.keep _ _ c3 (by rw [ty];exact h6);have rr:=r;obtain ⟨ts,hr,_⟩:=rr;have e4:=q.keep _ _ hr (by rw [tr];exact h0);exact ⟨⟨e1.1,e2.1,e3.1,c4,c5⟩,r.keep (fun o e=>(q.keep _ _ e (by rw [tr];exact h0)).1) q.tup,e4.2.trans tr,e1.2.trans th,e2.2.trans tb,e3.2.trans ty⟩
theorem iW {C:List (List Nat)} {τ τ':Tg} {H H':Hp} {r:Addr} {m:Nat} {rws:List Rw} (h:τ r=[0]/\gG H r m rws) (q:uf C τ H τ' H') (h0:[0]∉C):τ' r=[0]/\gG H' r m rws:=by
 obtain ⟨t,R⟩:=h;have rr:=R;obtain ⟨ts,hr,_⟩:=rr;have e4:=q.keep _ _ hr (by rw [t];exact h0);exact ⟨e4.2.trans t,R.keep (fun o e=>(q.keep _ _ e (by rw [t];exact h0)).1) q.tup⟩
def J5 (CW CH CN CO:Addr) (K:PySem.W.Frag):Sp:=fun vs H Q E=>∃(i:Nat) (τ:Tg) (W:JH) (S:pO) (h:Int),vs=[.ref W.o,.int h]/\um CW CH i τ H W S/\S.ts.length<=10000 /\
 (∀(k:Nat) (s:bU) (r:Rw) (t:Addr) (H':Hp),h=k->S.hs[k]? = some s->s.st = "waits" -> s.rws[s.pos]? = some r->touch r=true->H t=none->H' t=some (.tup (J2 S.ns s.bs r))->um CW CH i τ H' W (nu S k)->rF i τ H H'->Q (.ref t) H') /\
 (¬BR h S.hs.length->E (.ref CN) none H)/\(∀(k:Nat) (s:bU),h=k->S.hs[k]? = some s->s.st ≠ "waits" -> E (.ref CO) none H)
theorem QX {S:pO} {k:Nat} {s:bU} {r:Rw} (es:S.hs[k]? = some s) (er:s.rws[s.pos]? = some r):nu S k={S with ns:=sO S.ns s.bs r,hs:=S.hs.set k (wL S.ns s r),ts:=S.ts++[(k:Int)]}:=by
 unfold nu;simp only [es,er]
theorem Ld (ns bs:List Int) (r:Rw):(sO ns bs r).length=ns.length:=by cases r<;>simp [sO]
theorem um.turned {CW CH:Addr} {i:Nat} {τ:Tg} {H H':Hp} {W:JH} {S:pO} {k:Nat} {A:sY} {s:bU} {r:Rw} (w:um CW CH i τ H W S) (eA:W.hd[k]? = some A) (es:S.hs[k]? = some s) (er:s.rws[s.pos]? = some r)
 (kp:∀x u,H x=some u->x≠W.nb->x≠A.b->x≠A.h->x≠A.sy->x≠W.tn->H' x=some u) (c:qZ CH H' A (wL S.ns s r)) (hnb:H' W.nb=some (.lst ((sO S.ns s.bs r).map V.int))) (htn:H' W.tn=some (.lst ((S.ts++[(k:Int)]).map V.int))):um CW CH i τ H' W (nu S k)/\rF i τ H H':=by
 have a:=w.hd k A s eA es;have tup:∀x xs,H x=some (.tup xs)->H' x=some (.tup xs):=fun x xs e=>kp _ _ e (d_ e w.nb (by intro z;cases z)) (d_ e a.c.b (by intro z;cases z)) (d_ e a.c.h (by intro z;cases z)) (d_ e a.c.y (by intro z;cases z)) (d_ e w.tn (by intro z;cases z))
 have st:rF i τ H H':=by
  refine ⟨fun x u e n=> ?_,tup,fun x e=> ?_⟩
  ·have ne:∀(y:Addr) (t:List Nat),τ y=i::t->x≠y:=fun y t ty z=>n (by rw [z,ty];rfl)
   exact kp _ _ e (ne _ _ w.tb) (ne _ _ a.tb) (ne _ _ a.th) (ne _ _ a.ty) (ne _ _ w.tt)
  ·cases q:H x with
   | none=>rfl
   | some u=>
     have no:∀y o,H' y=some o->x≠y:=fun y o h z=>by rw [z,h] at e;cases e
     rw [kp _ _ q (no _ _ hnb) (no _ _ c.b) (no _ _ c.h) (no _ _ c.y) (no _ _ htn)] at e;cases e
 refine ⟨?_,st⟩
 have q:uf [[i,1],[i,5,k],[i,4,k],[i,6,k],[i,3]] τ H τ H':=by
  refine ⟨fun x u e n=>⟨?_,rfl⟩,tup⟩;have ne:∀(y:Addr) (t:List Nat),τ y=t->t∈[[i,1],[i,5,k],[i,4,k],[i,6,k],[i,3]]->x≠y:=fun y t ty ht z=>n (by rw [z,ty];exact ht);exact kp _ _ e (ne _ _ w.tb (by simp)) (ne _ _ a.tb (by simp)) (ne _ _ a.th (by simp)) (ne _ _ a.ty (by simp)) (ne _ _ w.tt (by simp))
 have i0:=w.i0;have z0:[0]∉[[i,1],[i,5,k],[i,4,k],[i,6,k],[i,3]]:=by simp
 rw [QX es er];have hk:k<S.hs.length:=(List.getElem?_eq_some_iff.mp es).1
 have get:∀(j:Nat) (s':bU),(S.hs.set k (wL S.ns s r))[j]? = some s'->(j=k/\s'=wL S.ns s r)\/(j≠k/\S.hs[j]? = some s'):=fun j s' e=>by
  rw [List.getElem?_set] at e
  by_cases z:k=j
  ·subst z
   simp [hk] at e;exact .inl ⟨rfl,e.symm⟩
  ·rw [if_neg z] at e
   exact .inr ⟨fun y=>z y.symm,e⟩
 have gr:(wL S.ns s r).rws=s.rws:=wG _ _;have mem:∀s'∈S.hs.set k (wL S.ns s r),s'=wL S.ns s r\/s'∈S.hs:=fun s' m=>(List.mem_or_eq_of_mem_set m).symm;refine ⟨st.un w.un,i0,(q.keep _ _ w.o (by rw [w.to];simp)).1,tup _ _ w.pg,(q.keep _ _ w.L (by rw [w.tL];exact z0)).1,hnb,(q.keep _ _ w.hl (by rw [w.tl];simp)).1,htn,w.to,w.tb,w.tl,w.tt,w.tL, ?_, ?_, ?_, ?_, ?_, ?_, ?_, ?_⟩
 ·simp [w.rl]
 ·intro j r' s' h1 h2
  rcases get j s' h2 with ⟨rfl,rfl⟩|⟨_,h2⟩
  ·rw [gr]
   exact iW (w.rs j r' s h1 es) q z0
  ·exact iW (w.rs j r' s' h1 h2) q z0
 ·simp [w.len]
 ·intro j A' s' h1 h2
  rcases get j s' h2 with ⟨rfl,rfl⟩|⟨nj,h2⟩
  ·rw [eA] at h1
   cases h1;refine ⟨c, ?_,a.tr,a.th,a.tb,a.ty⟩;rw [gr];exact (iW ⟨a.tr,a.r⟩ q z0).2
  ·exact (w.hd j A' s' h1 h2).mvT q z0 (by simp [nj]) (by simp [nj]) (by simp [nj])
 ·intro s' m
  rcases mem s' m with rfl|m
  ·exact K5 _ _
  ·exact w.ok s' m
 ·intro s' m
  simp only [List.length_append,List.length_singleton];rcases mem s' m with rfl|m
  ·have:=K4 60 {s with pos:=s.pos+1,bs:=G8 S.ns s.bs r}
   have:=w.sl s (List.mem_of_getElem? es);show (led 60 _).sy.length<=_;simp only at *;omega
  ·have:=w.sl s' m
   omega
 ·show (sO S.ns s.bs r).length=S.m
  rw [Ld,w.nl]
 ·simp [w.hn]
theorem Wh {aq au aH bh:Addr} {f:Addr} {fd:FuncData} (F:jY K "turn" "Works.turn" eG f fd) (mJ:jU P w K mg base 3 aq "hand_of" ["self","hand"] (vQ aq au aH K)) (yP:MethAt P w K mg base 4 aq "touch_by" ["self","one"] (xY aq au K)) (nU:MethAt P w K mg base 6 au "lead_on" ["self"] (Fx au K)) (aU:gK K aq) (aP:iG K au) (lC:Xr K mg bh "Over"):bV P w K mg base (vH P w) 7 f fd ["self","hand"] (J5 aq au aH bh K):=by
 refine F.Vb oY (fun vs H Q E h=> ?_) (fun cdv A outer s H vs Q E hr h hR=> ?_)
 ·obtain ⟨i,τ,W,S,h,rfl,_⟩:=h
  rfl
 ·obtain ⟨i,τ,W,S,h,rfl,w,tl,k1,k2,k3⟩:=h
  refine ⟨_,(aF (bM (i:=2) oY.nd rfl (Or.inl rfl) (wk mJ aU.cls rfl hR (hr.mono (by decide)) (pv 0) (aj (pv 1) aB)))
   (aF (cJ (bG pJ (bC (K:=K) rfl (pv 2) rfl) cT (bA _)) (aL (jP PySem.F.excBase_ValueError lC.ex lC.bd (by rfl) rfl rfl hR (aj cT aB))) bN)
   (aF (bM (i:=3) oY.nd rfl (Or.inl rfl) (dX yP aU.cls (hr.mono (by decide)) (pv 0) (aj (pv 2) aB)))
   (aF (Bl (K:=K) rfl (pv 2) aG Gw)
   (aF (fH (fX nU aP.cls (hr.mono (by decide)) (pv 2)))
   (aF (fH (kY (K:=K) rfl (bC (K:=K) rfl (pv 0) rfl) (aj (pv 1) aB)))
   (aL (bF (pv 3))))))))), ?_⟩
  refine ⟨_,rfl,W.o,W.dx,_,rfl,w.o,rfl,_,rfl,i,τ,W,S,h,rfl,w,fun k A s e eA es=> ?_,k2⟩;have a:=w.hd k A s eA es;refine ⟨_,rfl,A.h,au,A.hx,_,_,rfl,a.c.h,aP.cls,aP.ou,rfl,rfl,_,rfl, ?_⟩
  by_cases wt:s.st = "waits"
  rotate_left
  ·refine cU (fun _=> ?_) (fun z=>absurd (by simp [wt]) z)
   exact ⟨(by show 1<=sizeLine;decide),k3 k s e es wt⟩
  refine wI (by rw [wt]) ?_;obtain ⟨r,er,tr⟩:=w.ok s (List.mem_of_getElem? es) wt;have Yc:W.nb≠A.b:=eY w.tb a.tb (by simp);have nny:W.nb≠A.sy:=eY w.tb a.ty (by simp);refine ⟨_,rfl,W.o,W.dx,_,rfl,w.o,rfl,_,rfl,W.o,W.dx,W.pg,W.nb,W.hl,W.tn,A,s,S.m,S.ns,r,rfl,w.o,w.nb,w.nl,a.c,a.r,er,tr,Yc,nny,fun t H1 tf t1 c1 nb1 p1=> ?_⟩;refine ⟨_,rfl,A.h,au,A.hx,_,_,rfl,c1.h,aP.cls,aP.yE,rfl,_,_,rfl,rfl,A.hx,_,c1.h,(by show 5<1000;decide), ?_⟩;rw [Bk];have c2:=c1.vf (s.pos+1) s.st;have p2:KH A H1 (upd H1 A.h (.ins au A.hx (hF A.r ((s.pos+1:Nat):Int) A.b A.sy s.st))):=KH.vf;have t2:=c1.tup p2 _ _ t1;dsimp only;rw [show ((s.pos:Nat):Int)+1=((s.pos+1:Nat):Int) by omega];generalize (upd H1 A.h (.ins au A.hx (hF A.r ((s.pos+1:Nat):Int) A.b A.sy s.st)))=H2 at c2 p2 t2 ⊢;have nrb:A.r≠A.b:=eY a.tr a.tb (by intro z;cases z);have nry:A.r≠A.sy:=eY a.tr a.ty (by intro z;cases z);have nrh:A.r≠A.h:=eY a.tr a.th (by intro z;cases z);have nrn:A.r≠W.nb:=eY a.tr w.tb (by intro z;cases z);have afY:∀x xs,H x=some (.tup xs)->H2 x=some (.tup xs):=fun x xs q=>c1.tup p2 _ _ (p1 _ _ q (d_ q w.nb (by intro z;cases z)) (d_ q a.c.b (by intro z;cases z)));have R2:gG H2 A.r S.m s.rws:=a.r.keep (fun o q=>p2 _ _ (p1 _ _ q nrn nrb) nrh nrb nry) afY;have sl:=w.sl s (List.mem_of_getElem? es);refine ⟨_,rfl,A.h,A.hx,_,rfl,c2.h,rfl,A,_,S.m,rfl,c2,R2,nrb,nry,by show s.sy.length<_;omega,fun H3 c3 p3=> ?_⟩;have k13:∀x u,H x=some u->x≠W.nb->x≠A.b->x≠A.h->x≠A.sy->H3 x=some u:=fun x u q n1 n2 n3 n4=>p3 _ _ (p2 _ _ (p1 _ _ q n1 n2) n3 n2 n4) n3 n2 n4;have o3:=k13 _ _ w.o (eY w.to w.tb (by simp)) (eY w.to a.tb (by simp)) (eY w.to a.th (by simp)) (eY w.to a.ty (by simp));have tn3:=k13 _ _ w.tn (eY w.tt w.tb (by simp)) (eY w.tt a.tb (by simp)) (eY w.tt a.th (by simp)) (eY w.tt a.ty (by simp));have nb3:=p3 _ _ (p2 _ _ nb1 (eY w.tb a.th (by simp)) Yc nny) (eY w.tb a.th (by simp)) Yc nny;have t3:=c2.tup p3 _ _ t2;refine ⟨_,rfl,W.o,aq,W.dx,_,_,rfl,o3,aU.cls,aU.wB,rfl,.inl ⟨rfl,_,bL.of tn3⟩,_,rfl,_,_,_,rfl,rfl,tn3,(by rw [List.length_map,sizeLine_eq];omega), ?_⟩;have k14:∀x u,H x=some u->x≠W.nb->x≠A.b->x≠A.h->x≠A.sy->x≠W.tn->(upd H3 W.tn (.lst (S.ts.map V.int++[V.int h]))) x=some u:=fun x u q n1 n2 n3 n4 n5=>by rw [aD n5];exact k13 x u q n1 n2 n3 n4
  have nbt:W.nb≠W.tn:=eY w.tb w.tt (by simp);have c4:qZ au (upd H3 W.tn (.lst (S.ts.map V.int++[V.int h]))) A (wL S.ns s r):=⟨by rw [aD (eY a.th w.tt (by simp))];exact c3.h,by rw [aD (eY a.tb w.tt (by simp))];exact c3.b,by rw [aD (eY a.ty w.tt (by simp))];exact c3.y,c3.OD,c3.bl⟩;obtain ⟨w4,st⟩:=w.turned (H':=upd H3 W.tn (.lst (S.ts.map V.int++[V.int h]))) eA es er k14 c4 (by rw [aD nbt];exact nb3) (by rw [ak,List.map_append,e];rfl);refine ⟨_,rfl,k1 k s r t _ e es wt er tr tf ?_ w4 st⟩;rw [aD (d_ t3 tn3 (by intro z;cases z))];exact t3
structure Bs (H0:Hp) (τ0:Tg) (o:Addr) (τ:Tg) (H:Hp):Prop where
 un:pU τ H
 kp:Kp o H0 H
 tg:∀x u,H0 x=some u->x≠o->τ x=τ0 x
theorem Bs.same {H0 H H':Hp} {τ0 τ:Tg} {o:Addr} (b:Bs H0 τ0 o τ H) (k:Same H H'):Bs H0 τ0 o τ H':=⟨b.un.same k,b.kp.trans (Kp.of_same k),b.tg⟩
theorem Bs.claim {H0 H H':Hp} {τ0 τ:Tg} {o p:Addr} {t:List Nat} (b:Bs H0 τ0 o τ H) (k:Same H H') (hp:H p=none) (hp':∃u,H' p=some u):Bs H0 τ0 o (aV τ p t) H':=
 ⟨b.un.claim k hp',b.kp.trans (Kp.of_same k),fun x u e n=>by rw [aW (aA (b.kp _ _ e n) hp)];exact b.tg x u e n⟩
theorem Bs.set {H0 H:Hp} {τ0 τ:Tg} {o x:Addr} {v:HO} (b:Bs H0 τ0 o τ H) (hx:x=o\/H0 x=none):Bs H0 τ0 o τ (upd H x v):=
 ⟨b.un.dom (fun y e=>by
   by_cases z:y=x
   ·rw [z,ak] at e;cases e
   ·rw [aD z] at e;exact e),fun y u e n=>by
   have z:y≠x:=by
    rcases hx with rfl|hx
    ·exact n
    ·exact aA e hx
   rw [aD z];exact b.kp _ _ e n,b.tg⟩
theorem Bs.fresh {H0 H:Hp} {τ0 τ:Tg} {o p:Addr} (b:Bs H0 τ0 o τ H) (hp:H p=none) (n:p≠o):H0 p=none:=Wx b.kp n hp
def tK (CW CH CN:Addr) (K:PySem.W.Frag):Sp:=fun vs H Q E=>∃(i:Nat) (τ:Tg) (o dx p L0:Addr) (VF:List Addr) (m:Nat) (cv:V) (ns:List Int) (rws:List (List Rw)),vs=[.ref o,.ref p,cv]/\H o=some (.ins CW dx [])/\H p=some (.tup [.int m,.ref L0])/\H L0=some (.lst (VF.map V.ref))/\VF.length=rws.length /\
 (∀(k:Nat) (r:Addr) (x:List Rw),VF[k]? = some r->rws[k]? = some x->gG H r m x)/\rws.length<=100/\m<=100/\pU τ H/\i≠0/\ns.length<=100/\((cv = .non/\ns=List.replicate m 0) \/ ∃cl,cv = .ref cl/\H cl=some (.lst (ns.map V.int))) /\
 (yC m ns -> ∀(τ':Tg) (W:JH) (H':Hp),W.o=o->um CW CH i τ' H' W (Hj m ns rws)->(∀x u,H x=some u->x≠o->τ' x=τ x)->Kp o H H'->Q .non H')/\(¬yC m ns -> ∀H',Kp o H H'->E (.ref CN) none H')
theorem wM {α:Type} {l:List α} {x y:α} {k:Nat} (h:(l++[x])[k]? = some y):l[k]? = some y\/(k=l.length/\y=x):=by
 by_cases e:k<l.length
 ·rw [List.getElem?_append_left e] at h
  exact .inl h
 ·rw [List.getElem?_append_right (by omega)] at h
  have lt:=(List.getElem?_eq_some_iff.mp h).1;simp at lt;have:k=l.length:=by omega
  subst this;simp at h;exact .inr ⟨rfl,h.symm⟩
theorem R7 {aq au:Addr} {f:Addr} {fd:FuncData} (F:Xy K "__init__" "Works.__init__" bW [.none] f fd) (aU:gK K aq) (aP:iG K au) {aO:Addr} (zK:xr P w K mg base 3 "check_numbers" ["cells","count"] (u9 aO K)) (Lr:sW P w K mg base 1 au "Hand" ["self","rows"] [] (zL au K)) (nU:MethAt P w K mg base 6 au "lead_on" ["self"] (Fx au K)) (Bt:rC mg):bV P w K mg base (vH P w) 7 f fd ["self","program","cells"] (tK aq au aO K):=by
 refine F.Vb oZ (fun vs H Q E h=> ?_) (fun cdv A outer s H vs Q E hr h hR=> ?_)
 ·obtain ⟨i,τ,o,dx,p,L0,VF,m,cv,ns,rws,rfl,_⟩:=h
  rfl
 ·obtain ⟨i,τ,o,dx,p,L0,VF,m,cv,ns,rws,rfl,ho,hp,hL,lr,acP,rl,ml,un,i0,nl,hcv,k1,k2⟩:=h
  refine ⟨_,(aF (cJ (bG Bv (pv 2) jq (bA _)) (aL (wj (i:=2) rfl oZ.nd rfl (Or.inl rfl) (N:=["cell"]) (own:=["cell"]) (caps:=[]) (bH.of (by kernel_rfl)) (jt (by rfl) Bt.mY (aj (aY (bx (K:=K) rfl) (pv 1) aG (fun _ _=>rfl)) aB)) (fun _ _ _ _=>(bY (i:=0) (show List.Nodup (["cell"]:List Str) by decide +kernel) rfl (Or.inl rfl))) (fun _ _ _ _=>fU) (fun _ _ _ _=>aG))) bN)
   (aF (fH (RK zK rfl hR (hr.mono (by decide)) (by rfl) (aj (pv 2) (aj (aY (bx (K:=K) rfl) (pv 1) aG (fun _ _=>rfl)) aB))))
   (aF (dB (K:=K) rfl (pv 0) (jQ (aj (aY (bx (K:=K) rfl) (pv 1) aG (fun _ _=>rfl)) (aj (gC rfl (N:=["rows"]) (own:=["rows"]) (caps:=[]) (bH.of (by kernel_rfl)) (fW (K:=K) rfl (aY (bx (K:=K) rfl) (pv 1) aG (fun _ _=>rfl))) (fun _ _ _ _=>(bY (i:=0) (show List.Nodup (["rows"]:List Str) by decide +kernel) rfl (Or.inl rfl))) (fun _ _ _ _=>fU) (fun _ _ _ _=>(cR (cC (K:=K) rfl) (by rfl) Bt.iU fV (aj (pv 0) aB)))) aB))) rfl)
   (aF (dB (K:=K) rfl (pv 0) (cR (cC (K:=K) rfl) (by rfl) Bt.iU fV (aj (pv 2) aB)) rfl)
   (aF (dB (K:=K) rfl (pv 0) (gC rfl (N:=["rows"]) (own:=["rows"]) (caps:=[]) (bH.of (by kernel_rfl)) (fW (K:=K) rfl (aY (bx (K:=K) rfl) (bC (K:=K) rfl (pv 0) rfl) aG (fun _ _=>rfl))) (fun _ _ _ _=>(bY (i:=0) (show List.Nodup (["rows"]:List Str) by decide +kernel) rfl (Or.inl rfl))) (fun _ _ _ _=>fU) (fun _ _ _ _=>(rT Lr (hr.mono (by decide)) (by rfl) (aj (pv 0) aB)))) rfl)
   (aF (dB (K:=K) rfl (pv 0) (fO aB) rfl)
   (aL (yx PassesOwn.leaving rfl (fW (K:=K) rfl (bC (K:=K) rfl (pv 0) rfl)) (bY (i:=3) oZ.nd rfl (Or.inl rfl))
   (aL (fH (fX nU aP.cls (hr.mono (by decide)) (pv 3)))))))))))), ?_⟩
  refine mL (fun σ H1=>∃cl:Addr,σ=[some (.ref o),some (.ref p),some (.ref cl),none]/\H1 cl=some (.lst (ns.map V.int))/\Same H H1) (fun D' hD' rt'=> ?_) ?_
  ·refine ⟨_,rfl,rfl,_,rfl, ?_⟩
   rcases hcv with ⟨rfl,rfl⟩|⟨cl,rfl,hcl⟩
   ·refine fM ?_
    refine ⟨_,rfl,_,_,_,_,rfl,rfl,cQ.of hp,rfl,_,rfl,by omega,by omega,fun D hD=> ?_⟩;rw [Int.toNat_natCast];refine t_ (fun _=>some (.int 0)) hD (by omega) (fun i H1 G F hi s1 kG kF=>kF _ H1 (Same.refl _) rfl) (fun H1 s1 e1=> ?_);rw [GJ] at e1;exact hD' _ _ ⟨D,rfl,e1,s1⟩
   ·refine dz ?_
    exact hD' _ _ ⟨cl,rfl,hcl,Same.refl _⟩
  rintro σ H1 ⟨cl,rfl,hcl,s1⟩;have hp1:=s1 _ _ hp;refine vW (fun R g=> ?_);refine ⟨_,rfl,_,rfl,_,_,_,_,rfl,rfl,cQ.of hp1,rfl,cl,m,ns,rfl,hcl,nl,fun good H2 s2=> ?_,fun bad H2 s2=>k2 bad H2 (Kp.of_same (s1.trans s2))⟩;refine g _ _ ?_;have Zo:=s1.trans s2;have ho2:=Zo _ _ ho;have hp2:=Zo _ _ hp;have hL2:=Zo _ _ hL;have acV:=s2 _ _ hcl;have aao:∀(k:Nat) (r:Addr) (x:List Rw),VF[k]? = some r->rws[k]? = some x->gG H2 r m x:=fun k r x a b=>(acP k r x a b).same Zo;have B2:Bs H τ o (aV τ o [i,0]) H2:=⟨fun x e=>by rw [aW (aA ho2 e).symm];exact un.same Zo x e,Kp.of_same Zo,fun x u e n=>aW n⟩;have to2:aV τ o [i,0] o=[i,0]:=bJ;generalize aV τ o [i,0]=τ2 at B2 to2;refine vW (fun R g=> ?_);refine ⟨_,rfl,_,_,_,_,rfl,rfl,cQ.of hp2,rfl,_,rfl,_,_,_,_,rfl,rfl,cQ.of hp2,rfl,L0,rfl,⟨_,bL.of hL2⟩,fun L hLn=> ?_⟩;have sL:=aJ (o:=HO.lst []) hLn;have nLo:L≠o:=(aA ho2 hLn).symm;refine pL (K:=K) (xs:=VF.map V.ref) (fun j σ Hc=>∃(v:Option V) (τc:Tg) (rs:List Addr),σ=[v]/\rs.length=j/\Same H2 Hc/\Hc L=some (.lst (rs.map V.ref))/\Bs H τ o τc Hc/\τc o=[i,0]/\τc L=[0] /\ ∀(k:Nat) (r:Addr) (x:List Rw),rs[k]? = some r->rws[k]? = some x->r≠L/\τc r=[0]/\gG Hc r m x) ?_ ?_ ?_ ?_
  ·exact ⟨none,aV τ2 L [0],[],rfl,rfl,sL,ak,B2.claim sL hLn ⟨_,ak⟩,by rw [aW nLo.symm];exact to2,bJ,fun k r x h=>by simp at h⟩
  ·rintro j σ Hc hj ⟨v,τc,rs,rfl,_,sc,_⟩
   exact bL.of (sc _ _ hL2)
  ·rintro j x σ Hc hj ⟨v,τc,rs,rfl,lj,sc,hLc,Bc,toc,tLc,hc⟩
   rw [List.getElem?_map] at hj
   obtain ⟨r0,er0,rfl⟩:∃r0,VF[j]? = some r0/\x = .ref r0:=by
    cases e:VF[j]? with
    | none=>rw [e] at hj;cases hj
    | some r0=>rw [e] at hj;exact ⟨r0,rfl,(Option.some.inj hj).symm⟩
   have jl:j<rws.length:=by rw [←lr];exact (List.getElem?_eq_some_iff.mp er0).1
   have ex:rws[j]? = some rws[j]:=by simp [jl]
   have rr:=aao j r0 _ er0 ex;obtain ⟨ts,hts,dts,rq,rl'⟩:=rr;dsimp only [gO,Fj];rw [if_pos rfl];refine ⟨_,rfl,r0,_,rfl,.inl (bL.of (sc _ _ hts)),fun r hrn=> ?_⟩;have sr:=aJ (o:=HO.lst ts) hrn;have nrL:r≠L:=(aA hLc hrn).symm;have nro:r≠o:=(aA (sc _ _ ho2) hrn).symm;have hLf:H L=none:=Zo.free hLn;refine ⟨rs.map V.ref,sr _ _ hLc,(by rw [List.length_map,sizeLine_eq];omega),some (.ref r0),aV τc r [0],rs++[r],rfl,by simp [lj],fun y u e=> ?_,by rw [ak];simp,(Bc.claim sr hrn ⟨_,ak⟩).set (.inr hLf), ?_, ?_, ?_⟩
   ·rw [aD (aA e hLn)]
    exact sr _ _ (sc _ _ e)
   ·rw [aW nro.symm];exact toc
   ·rw [aW nrL.symm];exact tLc
   ·intro k r' x' h1 h2
    have tups:∀y ys,Hc y=some (.tup ys)->(upd (upd Hc r (.lst ts)) L (.lst (rs.map V.ref++[V.ref r]))) y=some (.tup ys):=fun y ys e=>by
     rw [aD (d_ e hLc (by intro z;cases z))];exact sr _ _ e
    rcases wM h1 with h1|⟨e1,rfl⟩
    ·obtain ⟨n1,t1,R1⟩:=hc k r' x' h1 h2
     have rr:=R1;obtain ⟨ts',hr',_⟩:=rr;have n2:r'≠r:=aA hr' hrn;refine ⟨n1,by rw [aW n2];exact t1,R1.keep (fun u e=> ?_) tups⟩;rw [aD n1];exact sr _ _ e
    ·rw [e1,lj,ex] at h2
     cases h2;refine ⟨nrL,bJ,ts,by rw [aD nrL,ak], ?_,rq,rl'⟩;exact dts.keep (fun y ys e=>tups _ _ (sc _ _ e)) _ (Je _)
  rintro σ H3 ⟨v,τ3,rs,rfl,lrs,HD,hL3,B3,to3,tL3,hr3⟩;rw [List.length_map] at lrs;have ho3:=HD _ _ ho2;refine ⟨(by show 2<=sizeLine;decide),fun pg hpg=> ?_⟩;have spg:=aJ (o:=HO.tup [V.int m,V.ref L]) hpg;refine ⟨_,rfl,o,aq,dx,_,rfl,spg _ _ ho3,aU.cls,aU.yD,(by show 0<1000;decide), ?_⟩;refine g _ _ ?_;have ajg:pg≠o:=(aA ho3 hpg).symm;have ho4:(upd (upd H3 pg (.tup [V.int m,V.ref L])) o (.ins aq dx (cL "program" (.ref pg) []))) o=some (.ins aq dx [("program",.ref pg)]):=ak;have acR:(upd (upd H3 pg (.tup [V.int m,V.ref L])) o (.ins aq dx (cL "program" (.ref pg) []))) pg=some (.tup [V.int m,V.ref L]):=by rw [aD ajg,ak]
  have q4:uf [[i,0]] τ3 H3 τ3 (upd (upd H3 pg (.tup [V.int m,V.ref L])) o (.ins aq dx (cL "program" (.ref pg) []))):=(uf.of_same spg).trans (uf.set (by rw [to3];simp) (spg _ _ ho3) (by intro xs z;cases z));have B4:Bs H τ o τ3 (upd (upd H3 pg (.tup [V.int m,V.ref L])) o (.ins aq dx (cL "program" (.ref pg) []))):=(B3.same spg).set (.inl rfl);have Vc:Kp o H3 (upd (upd H3 pg (.tup [V.int m,V.ref L])) o (.ins aq dx (cL "program" (.ref pg) []))):=(Kp.of_same spg).trans Kp.set;generalize (upd (upd H3 pg (.tup [V.int m,V.ref L])) o (.ins aq dx (cL "program" (.ref pg) [])))=H4 at ho4 acR q4 B4 Vc ⊢;have hL4:=(q4.keep _ _ hL3 (by rw [tL3];simp)).1;have hr4:∀(k:Nat) (r:Addr) (x:List Rw),rs[k]? = some r->rws[k]? = some x->τ3 r=[0]/\gG H4 r m x:=fun k r x h1 h2=>iW ⟨(hr3 k r x h1 h2).2.1,(hr3 k r x h1 h2).2.2⟩ q4 (by simp);have ajo:cl≠o:=d_ acV ho2 (by intro z;cases z);have akW:=Vc _ _ (HD _ _ acV) ajo;refine vW (fun R g=> ?_);refine ⟨_,rfl,cl,_,rfl,.inl (bL.of akW),fun nb hnb=> ?_⟩;have snb:=aJ (o:=HO.lst (ns.map V.int)) hnb;refine ⟨_,rfl,o,aq,dx,_,rfl,snb _ _ ho4,aU.cls,aU.m6,(by show 1<1000;decide), ?_⟩;refine g _ _ ?_;have Z6:nb≠o:=(aA ho4 hnb).symm;have Vf:(upd (upd H4 nb (.lst (ns.map V.int))) o (.ins aq dx (cL "numbers" (.ref nb) [("program",.ref pg)]))) o=some (.ins aq dx [("program",.ref pg),("numbers",.ref nb)]):=ak;have acU:(upd (upd H4 nb (.lst (ns.map V.int))) o (.ins aq dx (cL "numbers" (.ref nb) [("program",.ref pg)]))) nb=some (.lst (ns.map V.int)):=by rw [aD Z6,ak]
  have q5:uf [[i,0]] τ3 H4 (aV τ3 nb [i,1]) (upd (upd H4 nb (.lst (ns.map V.int))) o (.ins aq dx (cL "numbers" (.ref nb) [("program",.ref pg)]))):=(uf.claim snb hnb).trans (uf.set (by rw [aW Z6.symm,to3];simp) (snb _ _ ho4) (by intro xs z;cases z));have B5:Bs H τ o (aV τ3 nb [i,1]) (upd (upd H4 nb (.lst (ns.map V.int))) o (.ins aq dx (cL "numbers" (.ref nb) [("program",.ref pg)]))):=(B4.claim snb hnb ⟨_,ak⟩).set (.inl rfl);have to5:aV τ3 nb [i,1] o=[i,0]:=by rw [aW Z6.symm];exact to3
  have tn5:aV τ3 nb [i,1] nb=[i,1]:=bJ;generalize (upd (upd H4 nb (.lst (ns.map V.int))) o (.ins aq dx (cL "numbers" (.ref nb) [("program",.ref pg)])))=H5 at Vf acU q5 B5 ⊢;generalize aV τ3 nb [i,1]=τ5 at q5 B5 to5 tn5;have hL5:=q5.keep _ _ hL4 (by rw [tL3];simp);have hr5:∀(k:Nat) (r:Addr) (x:List Rw),rs[k]? = some r->rws[k]? = some x->τ5 r=[0]/\gG H5 r m x:=fun k r x h1 h2=>iW (hr4 k r x h1 h2) q5 (by simp);have acQ:=q5.tup _ _ acR;have tL5:τ5 L=[0]:=hL5.2.trans tL3;have hL5:=hL5.1;refine vW (fun R g=> ?_);refine ⟨_,rfl,o,aq,dx,_,_,rfl,Vf,aU.cls,aU.yD,rfl,_,_,_,_,rfl,rfl,cQ.of acQ,rfl,L,rfl,⟨_,bL.of hL5⟩,fun hl hhl=> ?_⟩;have shl:=aJ (o:=HO.lst []) hhl;have ajk:hl≠o:=(aA Vf hhl).symm;refine pL (K:=K) (xs:=rs.map V.ref) (fun j σ Hc=>∃(v:Option V) (τc:Tg) (hd:List sY),σ=[v]/\hd.length=j/\Same H5 Hc/\Hc hl=some (.lst (hd.map fun a=> .ref a.h))/\Bs H τ o τc Hc/\(∀x u,H5 x=some u->τc x=τ5 x)/\τc hl=[i,2] /\ ∀(k:Nat) (A:sY) (x:List Rw),hd[k]? = some A->rws[k]? = some x->zJ au i k m τc Hc A (new x)/\H A.h=none/\H A.b=none/\H A.sy=none) ?_ ?_ ?_ ?_
  ·exact ⟨none,aV τ5 hl [i,2],[],rfl,rfl,shl,ak,B5.claim shl hhl ⟨_,ak⟩,fun x u e=>aW (aA e hhl),bJ,fun k A x h=>by simp at h⟩
  ·rintro j σ Hc hj ⟨v,τc,hd,rfl,_,sc,_⟩
   exact bL.of (sc _ _ hL5)
  ·rintro j x σ Hc hj ⟨v,τc,hd,rfl,lj,sc,Yo,Bc,tgc,tlc,hc⟩
   rw [List.getElem?_map] at hj
   obtain ⟨r,er,rfl⟩:∃r,rs[j]? = some r/\x = .ref r:=by
    cases e:rs[j]? with
    | none=>rw [e] at hj;cases hj
    | some r0=>rw [e] at hj;exact ⟨r0,rfl,(Option.some.inj hj).symm⟩
   have jl:j<rws.length:=by rw [←lr,←lrs];exact (List.getElem?_eq_some_iff.mp er).1
   have ex:rws[j]? = some rws[j]:=by simp [jl]
   obtain ⟨tr,R⟩:=hr5 j r _ er ex;have rr:=R;obtain ⟨ts,hts,_⟩:=rr;dsimp only [gO,Fj];rw [if_pos rfl];refine ⟨_,rfl,fun h hx hn hxn nhx=> ?_⟩;have hn':(upd Hc hx (.own h)) h=none:=by rw [aD nhx.symm];exact hn
   have sm:Same Hc (upd (upd Hc hx (.own h)) h (.ins au hx [])):=(aJ hxn).trans (aJ hn');refine ⟨h,r,hx,rfl,ak,fun b sy H7 hb hsy acw h7 b7 sy7 k7=>⟨rfl, ?_⟩⟩;have S7:Same Hc H7:=fun y u e=>k7 _ _ (sm _ _ e) (aA e hn);have fb:Hc b=none:=sm.free hb;have fy:Hc sy=none:=sm.free hsy;have nhl:hl≠h:=aA Yo hn;have nbl:hl≠b:=aA Yo fb;have nyl:hl≠sy:=aA Yo fy;have Ws:h≠b:=aA ak hb;have Yd:h≠sy:=aA ak hsy;have hlf:H hl=none:=B5.fresh hhl ajk;have sH:Same Hc Hc:=Same.refl _;have T:∀x u,Hc x=some u->aV (aV (aV τc h [i,4,j]) b [i,5,j]) sy [i,6,j] x=τc x:=fun y u e=>by rw [aW (aA e fy),aW (aA e fb),aW (aA e hn)]
   have B7:Bs H τ o (aV (aV (aV τc h [i,4,j]) b [i,5,j]) sy [i,6,j]) H7:=by
    refine ⟨fun y e=> ?_,Bc.kp.trans (Kp.of_same S7),fun y u e n=> ?_⟩
    ·have n1:y≠h:=fun z=>by rw [z,h7] at e;cases e
     have n2:y≠b:=fun z=>by rw [z,b7] at e;cases e
     have n3:y≠sy:=fun z=>by rw [z,sy7] at e;cases e
     rw [aW n3,aW n2,aW n1];exact Bc.un y (S7.free e)
    ·rw [T y u (Bc.kp _ _ e n)]
     exact Bc.tg y u e n
   have q7:uf [[i,2]] τc Hc (aV (aV (aV τc h [i,4,j]) b [i,5,j]) sy [i,6,j]) (upd H7 hl (.lst ((hd.map fun a=>V.ref a.h)++[V.ref h]))):=by
    refine ⟨fun y u e n=>⟨?_,T y u e⟩,fun y ys e=> ?_⟩
    ·rw [aD (fun z:y=hl=>n (by rw [z,tlc];simp))]
     exact S7 _ _ e
    ·rw [aD (d_ e Yo (by intro z;cases z))]
     exact S7 _ _ e
   have Th:aV (aV (aV τc h [i,4,j]) b [i,5,j]) sy [i,6,j] h=[i,4,j]:=by rw [aW Yd,aW Ws,bJ]
   have Tb:aV (aV (aV τc h [i,4,j]) b [i,5,j]) sy [i,6,j] b=[i,5,j]:=by rw [aW acw,bJ]
   have Ty:aV (aV (aV τc h [i,4,j]) b [i,5,j]) sy [i,6,j] sy=[i,6,j]:=bJ;generalize aV (aV (aV τc h [i,4,j]) b [i,5,j]) sy [i,6,j]=τ7 at T B7 q7 Th Tb Ty;refine ⟨_,S7 _ _ Yo,(by rw [List.length_map,sizeLine_eq];omega),some (.ref r),τ7,hd++[⟨h,hx,r,b,sy⟩],rfl,by simp [lj],fun y u e=> ?_,by rw [ak];simp,B7.set (.inr hlf),fun y u e=> ?_, ?_, ?_⟩
   ·rw [aD (aA e hhl)]
    exact S7 _ _ (sc _ _ e)
   ·rw [T y u (sc _ _ e)]
    exact tgc y u e
   ·rw [T _ _ Yo];exact tlc
   ·intro k A x' h1 h2
    rcases wM h1 with h1|⟨e1,rfl⟩
    ·exact ⟨(hc k A x' h1 h2).1.mvT q7 (by simp) (by simp) (by simp) (by simp),(hc k A x' h1 h2).2⟩
    ·rw [e1,lj,ex] at h2
     cases h2;rw [e1,lj];have tr':τc r=[0]:=by rw [tgc _ _ hts];exact tr
     obtain ⟨t9,R9⟩:=iW ⟨tr',R.same sc⟩ q7 (by simp);have hoc:=sc _ _ Vf;exact ⟨⟨⟨by rw [aD nhl.symm];exact h7,by rw [aD nbl.symm];exact b7,by rw [aD nyl.symm];exact sy7,acw,rfl⟩,R9,t9,Th,Tb,Ty⟩,Bc.fresh hn (aA hoc hn).symm,Bc.fresh fb (aA hoc fb).symm,Bc.fresh fy (aA hoc fy).symm⟩
  rintro σ H8 ⟨v,τ8,hd,rfl,lhd,X4,akU,B8,Vq,tl8,hd8⟩;rw [List.length_map] at lhd;have W3:=X4 _ _ Vf;have YS:τ8 o=[i,0]:=by rw [Vq _ _ Vf];exact to5
  refine ⟨_,rfl,o,aq,dx,_,rfl,W3,aU.cls,aU.qG,(by show 2<1000;decide), ?_⟩;refine g _ _ ?_;have ho9:(upd H8 o (.ins aq dx (cL "hands" (.ref hl) [("program",.ref pg),("numbers",.ref nb)]))) o=some (.ins aq dx [("program",.ref pg),("numbers",.ref nb),("hands",.ref hl)]):=ak;have q9:uf [[i,0]] τ8 H8 τ8 (upd H8 o (.ins aq dx (cL "hands" (.ref hl) [("program",.ref pg),("numbers",.ref nb)]))):=uf.set (by rw [YS];simp) W3 (by intro xs z;cases z);have B9:Bs H τ o τ8 (upd H8 o (.ins aq dx (cL "hands" (.ref hl) [("program",.ref pg),("numbers",.ref nb)]))):=B8.set (.inl rfl);generalize (upd H8 o (.ins aq dx (cL "hands" (.ref hl) [("program",.ref pg),("numbers",.ref nb)])))=H9 at ho9 q9 B9 ⊢;refine vW (fun R g=> ?_);refine ⟨(by show 0<=sizeLine;decide),fun tn htn=> ?_⟩;have stn:=aJ (o:=HO.lst []) htn;refine ⟨_,rfl,o,aq,dx,_,rfl,stn _ _ ho9,aU.cls,aU.wB,(by show 3<1000;decide), ?_⟩;refine g _ _ ?_;have ZX:tn≠o:=(aA ho9 htn).symm;have Pq:(upd (upd H9 tn (.lst [])) o (.ins aq dx (cL "turns" (.ref tn) [("program",.ref pg),("numbers",.ref nb),("hands",.ref hl)]))) o=some (.ins aq dx (wF pg nb hl tn)):=ak;have Yl:(upd (upd H9 tn (.lst [])) o (.ins aq dx (cL "turns" (.ref tn) [("program",.ref pg),("numbers",.ref nb),("hands",.ref hl)]))) tn=some (.lst []):=by rw [aD ZX,ak]
  have Zv:uf [[i,0]] τ8 H9 (aV τ8 tn [i,3]) (upd (upd H9 tn (.lst [])) o (.ins aq dx (cL "turns" (.ref tn) [("program",.ref pg),("numbers",.ref nb),("hands",.ref hl)]))):=(uf.claim stn htn).trans (uf.set (by rw [aW ZX.symm,YS];simp) (stn _ _ ho9) (by intro xs z;cases z));have B10:Bs H τ o (aV τ8 tn [i,3]) (upd (upd H9 tn (.lst [])) o (.ins aq dx (cL "turns" (.ref tn) [("program",.ref pg),("numbers",.ref nb),("hands",.ref hl)]))):=(B9.claim stn htn ⟨_,ak⟩).set (.inl rfl);have N6:aV τ8 tn [i,3] o=[i,0]:=by rw [aW ZX.symm];exact YS
  have N5:aV τ8 tn [i,3] tn=[i,3]:=bJ;have Km:=q9.trans Zv;generalize (upd (upd H9 tn (.lst [])) o (.ins aq dx (cL "turns" (.ref tn) [("program",.ref pg),("numbers",.ref nb),("hands",.ref hl)])))=Xx at Pq Yl Zv B10 Km ⊢;generalize aV τ8 tn [i,3]=HN at Zv B10 N6 N5 Km;have El:=Km.keep _ _ akU (by rw [tl8];simp);have Q6:HN hl=[i,2]:=El.2.trans tl8;have El:=El.1
  have n5:∀x u,H5 x=some u->τ5 x≠[i,0]->Xx x=some u/\HN x=τ5 x:=fun x u e n=>by
   have:=Km.keep _ _ (X4 _ _ e) (by rw [Vq _ _ e];simp [n]);exact ⟨this.1,by rw [this.2,Vq _ _ e]⟩
  have acX:=n5 _ _ hL5 (by rw [tL5];simp);have Yn:=n5 _ _ acU (by rw [tn5];simp);have acS:=Km.tup _ _ (X4 _ _ acQ);have akV:∀(k:Nat) (A:sY) (x:List Rw),hd[k]? = some A->rws[k]? = some x->zJ au i k m HN Xx A (new x):=fun k A x h1 h2=>(hd8 k A x h1 h2).1.mvT Km (by simp) (by simp) (by simp) (by simp)
  have akM:∀(k:Nat) (r:Addr) (x:List Rw),rs[k]? = some r->rws[k]? = some x->HN r=[0]/\gG Xx r m x:=fun k r x h1 h2=>by
   obtain ⟨t5,R5⟩:=hr5 k r x h1 h2;have rr:=R5;obtain ⟨ts,hts,_⟩:=rr;exact iW ⟨by rw [Vq _ _ hts];exact t5,R5.same X4⟩ Km (by simp)
  have lh:hd.length=rws.length:=by rw [lhd,lrs,lr]
  refine ⟨_,rfl,o,aq,dx,_,_,rfl,Pq,aU.cls,aU.qG,rfl,hl,rfl,⟨_,bL.of El⟩, ?_⟩
  refine wO (K:=K) (a:=hl) (xs:=hd.map fun a=>V.ref a.h) (fun j σ Hc=>∃x1:Option V,σ=[some (.ref o),some (.ref p),some (.ref cl),x1]/\(∀x u,Xx x=some u->(∀k,HN x≠[i,4,k])->(∀k,HN x≠[i,5,k])->(∀k,HN x≠[i,6,k])->Hc x=some u)/\(∀x ys,Xx x=some (.tup ys)->Hc x=some (.tup ys))/\Bs H τ o HN Hc /\
   ∀(k:Nat) (A:sY) (x:List Rw),hd[k]? = some A->rws[k]? = some x->zJ au i k m HN Hc A (if k<j then lead (new x) else new x))
   ⟨none,rfl,fun x u e _ _ _=>e,fun x ys e=>e,B10,fun k A x h1 h2=>by rw [if_neg (by omega)];exact akV k A x h1 h2⟩ (fun j σ Hc _ ⟨_,_,kc,_⟩=>bL.of (kc _ _ El (by rw [Q6];simp) (by rw [Q6];simp) (by rw [Q6];simp))) ?_ ?_
  ·rintro j v σ Hc hj ⟨x1,rfl,kc,tc,Bc,hc⟩
   rw [List.getElem?_map] at hj
   obtain ⟨A,eA,rfl⟩:∃A,hd[j]? = some A/\v = .ref A.h:=by
    cases e:hd[j]? with
    | none=>rw [e] at hj;cases hj
    | some A=>rw [e] at hj;exact ⟨A,rfl,(Option.some.inj hj).symm⟩
   have jl:j<rws.length:=by rw [←lh];exact (List.getElem?_eq_some_iff.mp eA).1
   have ex:rws[j]? = some rws[j]:=by simp [jl]
   have a:=hc j A _ eA ex;rw [if_neg (by omega)] at a;refine ⟨_,rfl,A.h,A.hx,_,rfl,a.c.h,rfl,A,_,m,rfl,a.c,a.r,eY a.tr a.tb (by intro z;cases z),eY a.tr a.ty (by intro z;cases z),(by show 0<900000;decide),fun H12 c12 k12=> ?_⟩;have q12:uf [[i,4,j],[i,5,j],[i,6,j]] HN Hc HN H12:=⟨fun x u e n=>⟨k12 _ _ e (fun z=>n (by rw [z,a.th];simp)) (fun z=>n (by rw [z,a.tb];simp)) (fun z=>n (by rw [z,a.ty];simp)),rfl⟩,a.c.tup k12⟩;refine ⟨_,rfl,fun x u e n4 n5 n6=>(q12.keep _ _ (kc x u e n4 n5 n6) (by simp [n4,n5,n6])).1,fun x ys e=>q12.tup _ _ (tc _ _ e), ?_, ?_⟩
   ·obtain ⟨f1,f2,f3⟩:=(hd8 j A _ eA ex).2
    refine ⟨Bc.un.dom fun x e=> ?_,fun x u e n=>k12 _ _ (Bc.kp _ _ e n) (aA e f1) (aA e f2) (aA e f3),Bc.tg⟩;cases q:Hc x with
    | none=>rfl
    | some u=>
      have no:∀y o,H12 y=some o->x≠y:=fun y o h z=>by rw [z,h] at e;cases e
      rw [k12 _ _ q (no _ _ c12.h) (no _ _ c12.b) (no _ _ c12.y)] at e;cases e
   ·intro k A' x h1 h2
    by_cases z:k=j
    ·subst z
     rw [eA] at h1;cases h1;rw [ex] at h2;cases h2;rw [if_pos (by omega)];have lr':(lead (new rws[k])).rws=rws[k]:=wG _ _;refine ⟨c12, ?_,a.tr,a.th,a.tb,a.ty⟩;rw [lr'];exact (iW ⟨a.tr,a.r⟩ q12 (by simp)).2
    ·have b:=(hc k A' x h1 h2).mvT q12 (by simp) (by simp [z]) (by simp [z]) (by simp [z])
     by_cases lt:k<j
     ·rw [if_pos lt] at b
      rw [if_pos (by omega)];exact b
     ·rw [if_neg lt] at b
      rw [if_neg (by omega)];exact b
  ·rintro σ H11 ⟨x1,rfl,kc,tc,Bc,hc⟩
   rw [List.length_map] at hc;have kt:∀x u t,Xx x=some u->HN x=t->(∀k,t≠[i,4,k])->(∀k,t≠[i,5,k])->(∀k,t≠[i,6,k])->H11 x=some u:=fun x u t e et n4 n5 n6=>kc x u e (by rw [et];exact n4) (by rw [et];exact n5) (by rw [et];exact n6);have abP:HN L=[0]:=acX.2.trans tL5;have abG:HN nb=[i,1]:=Yn.2.trans tn5
   have get:∀(k:Nat) (s:bU),(rws.map fun r=>lead (new r))[k]? = some s -> ∃x,rws[k]? = some x/\s=lead (new x):=fun k s e=>by
    rw [List.getElem?_map] at e;cases q:rws[k]? with
    | none=>rw [q] at e;cases e
    | some x=>rw [q] at e;exact ⟨x,rfl,(Option.some.inj e).symm⟩
   refine k1 good HN ⟨o,dx,pg,L,nb,hl,tn,rs,hd⟩ H11 rfl ⟨Bc.un,i0,kt _ _ _ Pq N6 (by simp) (by simp) (by simp),tc _ _ acS,kt _ _ _ acX.1 abP (by simp) (by simp) (by simp),kt _ _ _ Yn.1 abG (by simp) (by simp) (by simp),kt _ _ _ El Q6 (by simp) (by simp) (by simp),kt _ _ _ Yl N5 (by simp) (by simp) (by simp),N6,abG,Q6,N5,abP, ?_, ?_, ?_, ?_, ?_, ?_, ?_, ?_⟩ Bc.tg Bc.kp
   ·show rs.length=(rws.map _).length
    rw [List.length_map,lrs,lr]
   ·intro k r s h1 h2
    obtain ⟨x,ex,rfl⟩:=get k s h2;obtain ⟨t1,R1⟩:=akM k r x h1 ex;have lr':(lead (new x)).rws=x:=wG _ _;rw [lr'];exact ⟨t1,R1.keep (fun u e=>kt _ _ _ e t1 (by simp) (by simp) (by simp)) tc⟩
   ·show hd.length=(rws.map _).length
    rw [List.length_map,lh]
   ·intro k A s h1 h2
    obtain ⟨x,ex,rfl⟩:=get k s h2;have:=hc k A x h1 ex;rw [if_pos (List.getElem?_eq_some_iff.mp h1).1] at this;exact this
   ·intro s ms
    obtain ⟨x,_,rfl⟩:=List.mem_map.mp ms;exact K5 _ _
   ·intro s ms
    obtain ⟨x,_,rfl⟩:=List.mem_map.mp ms;exact K4 60 (new x)
   ·have:=good.1
    show ns.length=m;omega
   ·show (rws.map _).length<=100
    rw [List.length_map];exact rl
def PlA:Nat->PyData->Prop
 | 0,_=>False
 | n+1,.list ds=>ds.length<=20000 /\ ∀d∈ds,PlA n d
 | n+1,.tuple ds=>ds.length<=20000 /\ ∀d∈ds,PlA n d
 | _+1,.int _=>True
 | _+1,.str _=>True
 | _+1,.none=>True
 | _+1,.bool _=>True
 | _+1,_=>False
theorem PlA.ints {n:Nat} {ns:List Int} (h:ns.length<=20000):PlA (n+2) (.list (ns.map PyData.int)):=by
 refine ⟨by rw [List.length_map];exact h,fun d hd=> ?_⟩;obtain ⟨i,_,rfl⟩:=List.mem_map.mp hd;trivial
theorem WD (K:PySem.W.Frag):PySem.W.kitOne K (.type "str") (.type "tuple")=some false:=by kernel_rfl
theorem WL (K:PySem.W.Frag):PySem.W.kitOne K (.type "str") (.type "list")=some false:=by kernel_rfl
theorem Gu (K:PySem.W.Frag):PySem.W.kitOne K (.type "str") (.type "bool")=some false:=by kernel_rfl
theorem WK (K:PySem.W.Frag):PySem.W.kitOne K (.type "str") (.type "str")=some true:=rfl
theorem WR (K:PySem.W.Frag):PySem.W.kitOne K (.type "int") (.type "tuple")=some false:=by kernel_rfl
theorem WW (K:PySem.W.Frag):PySem.W.kitOne K (.type "int") (.type "list")=some false:=by kernel_rfl
theorem WT (K:PySem.W.Frag):PySem.W.kitOne K (.type "int") (.type "str")=some false:=by kernel_rfl
theorem WX (K:PySem.W.Frag):PySem.W.kitOne K (.type "bool") (.type "tuple")=some false:=by kernel_rfl
theorem WY (K:PySem.W.Frag):PySem.W.kitOne K (.type "bool") (.type "list")=some false:=by kernel_rfl
theorem WM (K:PySem.W.Frag):PySem.W.kitOne K (.type "NoneType") (.type "tuple")=some false:=by kernel_rfl
theorem WQ (K:PySem.W.Frag):PySem.W.kitOne K (.type "NoneType") (.type "list")=some false:=by kernel_rfl
theorem Em (n:Nat) (v:V):(List.range n).filterMap (fun _=>some v)=List.replicate n v:=by
 induction n with
 | zero=>rfl
 | succ n ih=>rw [eX,ih,List.replicate_succ'];rfl
def qy (n:Nat) (K:PySem.W.Frag):Sp:=fun vs H Q _=>∃(x y:V) (d:PyData),vs=[x,y]/\Dat H x d/\Dat H y d/\PlA n d /\ ∀H',Same H H'->Q (.bl true) H'
theorem Ow {f:Addr} {fd:FuncData} (F:jY K "_law_alike" "_law_alike" iV f fd):bV P w K mg base j4 1 f fd ["found","due"] (qy 0 K):=by
 refine F.ok DX (fun vs H Q E h=> ?_) (fun cdv A outer s H vs Q E hr h=> ?_)
 ·obtain ⟨x,y,d,_,_,_,z,_⟩:=h
  exact z.elim
 ·obtain ⟨x,y,d,_,_,_,z,_⟩:=h
  exact z.elim
theorem D_ {n:Nat} {f:Addr} {fd:FuncData} (F:jY K "_law_alike" "_law_alike" iV f fd) (xu:FnAt P w K mg base (n+1) "_law_alike" ["found","due"] (qy n K)) (Bt:rC mg):bV P w K mg base j4 (n+1+1) f fd ["found","due"] (qy (n+1) K):=by
 refine F.ok DX (fun vs H Q E h=> ?_) (fun cdv A outer s H vs Q E hr h=> ?_)
 ·obtain ⟨x,y,d,rfl,_⟩:=h
  rfl
 ·obtain ⟨x,y,d,rfl,dx,dy,pl,k⟩:=h
  refine ⟨_,(aF (cJ (PW.pt (oh (eO (aX (dh (K:=K) (cv:= .ty "tuple") (c:= .type "tuple") rfl rfl) (by rfl) Bt.bK bI (aj (pv 1) (aj (fJ (v:= .ty "tuple") (by rfl) Bt.zQ wQ rfl) aB)))) (mG (eO (aX (dh (K:=K) (cv:= .ty "list") (c:= .type "list") rfl rfl) (by rfl) Bt.bK bI (aj (pv 1) (aj (fJ (v:= .ty "list") (by rfl) Bt.iU fV rfl) aB))))))) (aF (cJ (PW.pt (oh (bG pJ (aX (dh (K:=K) (cv:= .ty "tuple") (c:= .type "tuple") rfl rfl) (by rfl) Bt.bK bI (aj (pv 0) (aj (fJ (v:= .ty "tuple") (by rfl) Bt.zQ wQ rfl) aB))) (aX (dh (K:=K) (cv:= .ty "tuple") (c:= .type "tuple") rfl rfl) (by rfl) Bt.bK bI (aj (pv 1) (aj (fJ (v:= .ty "tuple") (by rfl) Bt.zQ wQ rfl) aB))) (bA _)) (mG (bG pJ (aX (dh (K:=K) (cv:= .ty "list") (c:= .type "list") rfl rfl) (by rfl) Bt.bK bI (aj (pv 0) (aj (fJ (v:= .ty "list") (by rfl) Bt.iU fV rfl) aB))) (aX (dh (K:=K) (cv:= .ty "list") (c:= .type "list") rfl rfl) (by rfl) Bt.bK bI (aj (pv 1) (aj (fJ (v:= .ty "list") (by rfl) Bt.iU fV rfl) aB))) (bA _))))) (aL (bF wu)) bN)
   (aF (cJ (bG pJ (aX (aZ (K:=K) rfl) (by rfl) Bt.gk dY (aj (pv 0) aB)) (aX (aZ (K:=K) rfl) (by rfl) Bt.gk dY (aj (pv 1) aB)) (bA _)) (aL (bF wu)) bN)
   (aL (bF (aX (jf (K:=K) rfl rfl) (by rfl) Bt.Nj G7 (aj (gC rfl (N:=["mine","other"]) (own:=["mine","other"]) (caps:=[]) (bH.of (by kernel_rfl)) (V4 (K:=K) rfl (by rfl) Bt.ad4 (aj (pv 0) (aj (pv 1) aB))) (fun _ _ _ _=>(Gf (K:=K) (n:=2) rfl rfl (lG (bY (i:=0) (show List.Nodup (["mine","other"]:List Str) by decide +kernel) rfl (Or.inl rfl)) (lG (bY (i:=1) (show List.Nodup (["mine","other"]:List Str) by decide +kernel) rfl (Or.inl rfl)) Ge)))) (fun _ _ _ _=>fU) (fun _ _ _ _=>(b_ xu (hr.mono (Nat.le_refl _)) (by rfl) (aj (pv 0) (aj (pv 1) aB))))) aB)))))) bN)
   (aF (cJ (bG Bv (pv 1) jq (bA _)) (aL (bF (dU Bv (pv 0) jq (bA _)))) bN)
   (aF (cJ (PW.pt (oh (eO (aX (dh (K:=K) (cv:= .ty "bool") (c:= .type "bool") rfl rfl) (by rfl) Bt.bK bI (aj (pv 1) (aj (fJ (v:= .ty "bool") (by rfl) Bt.CQ wR rfl) aB)))) (mG (eO (aX (dh (K:=K) (cv:= .ty "str") (c:= .type "str") rfl rfl) (by rfl) Bt.bK bI (aj (pv 1) (aj (fJ (v:= .ty "str") (by rfl) Bt.ad5 aaM rfl) aB))))))) (aL (bF (nH (dU gj (aX (dh (K:=K) (cv:= .ty "bool") (c:= .type "bool") rfl rfl) (by rfl) Bt.bK bI (aj (pv 0) (aj (fJ (v:= .ty "bool") (by rfl) Bt.CQ wR rfl) aB))) (aX (dh (K:=K) (cv:= .ty "bool") (c:= .type "bool") rfl rfl) (by rfl) Bt.bK bI (aj (pv 1) (aj (fJ (v:= .ty "bool") (by rfl) Bt.CQ wR rfl) aB))) (bA _)) (qD (dU gj (pv 0) (pv 1) (bA _)))))) bN)
   (aL (bF (nH (aX (dh (K:=K) (cv:= .ty "int") (c:= .type "int") rfl rfl) (by rfl) Bt.bK bI (aj (pv 0) (aj (fJ (v:= .ty "int") (by rfl) Bt.CP vC rfl) aB))) (nH (RD (aX (dh (K:=K) (cv:= .ty "bool") (c:= .type "bool") rfl rfl) (by rfl) Bt.bK bI (aj (pv 0) (aj (fJ (v:= .ty "bool") (by rfl) Bt.CQ wR rfl) aB)))) (qD (dU gj (pv 0) (pv 1) (bA _)))))))))), ?_⟩
  match d,pl,dx,dy with
  | .int i,pl,dx,dy=>
    simp only [Dat] at dx dy;subst dx dy;refine ⟨_,rfl,_,_,false,rfl,.int i,WR K,_,rfl,dz ?_⟩;refine ⟨_,rfl,_,_,false,rfl,.int i,WW K,_,rfl,dz ?_⟩;refine ⟨_,rfl,rfl,_,rfl,dz ?_⟩;refine ⟨_,rfl,_,_,false,rfl,.int i,qL K,_,rfl,dz ?_⟩;refine ⟨_,rfl,_,_,false,rfl,.int i,WT K,_,rfl,dz ?_⟩;refine ⟨_,rfl,_,_,true,rfl,.int i,zf K,_,rfl,fM ?_⟩;refine ⟨_,rfl,_,_,false,rfl,.int i,qL K,_,rfl,_,rfl,fM ?_⟩;refine ⟨_,rfl,_,rfl,rfl, ?_⟩;rw [decide_eq_true rfl];exact k _ (Same.refl _)
  | .str i,pl,dx,dy=>
    simp only [Dat] at dx dy;subst dx dy;refine ⟨_,rfl,_,_,false,rfl,.str i,WD K,_,rfl,dz ?_⟩;refine ⟨_,rfl,_,_,false,rfl,.str i,WL K,_,rfl,dz ?_⟩;refine ⟨_,rfl,rfl,_,rfl,dz ?_⟩;refine ⟨_,rfl,_,_,false,rfl,.str i,Gu K,_,rfl,dz ?_⟩;refine ⟨_,rfl,_,_,true,rfl,.str i,WK K,_,rfl,fM ?_⟩;refine ⟨_,rfl,_,_,false,rfl,.str i,Gu K,_,rfl,_,_,false,rfl,.str i,Gu K,rfl,_,rfl, ?_⟩;refine cU (fun _=> ?_) (fun z=>absurd (decide_eq_true rfl) z);refine ⟨_,rfl,_,rfl,rfl, ?_⟩;rw [decide_eq_true rfl];exact k _ (Same.refl _)
  | .bool i,pl,dx,dy=>
    simp only [Dat] at dx dy;subst dx dy;refine ⟨_,rfl,_,_,false,rfl,.bl i,WX K,_,rfl,dz ?_⟩;refine ⟨_,rfl,_,_,false,rfl,.bl i,WY K,_,rfl,dz ?_⟩;refine ⟨_,rfl,rfl,_,rfl,dz ?_⟩;refine ⟨_,rfl,_,_,true,rfl,.bl i,pq K,_,rfl,fM ?_⟩;refine fM ?_;refine ⟨_,rfl,_,_,true,rfl,.bl i,pq K,_,rfl,_,_,true,rfl,.bl i,pq K,rfl,_,rfl, ?_⟩;refine cU (fun _=> ?_) (fun z=>absurd (decide_eq_true rfl) z);refine ⟨_,rfl,_,rfl,rfl, ?_⟩;rw [decide_eq_true rfl];exact k _ (Same.refl _)
  | .none,pl,dx,dy=>
    simp only [Dat] at dx dy;subst dx dy;refine ⟨_,rfl,_,_,false,rfl,.non,WM K,_,rfl,dz ?_⟩;refine ⟨_,rfl,_,_,false,rfl,.non,WQ K,_,rfl,dz ?_⟩;refine ⟨_,rfl,rfl,_,rfl,fM ?_⟩;exact ⟨_,rfl,rfl,k _ (Same.refl _)⟩
  | .list ds,pl,dx,dy=>
    simp only [Dat] at dx dy;obtain ⟨a,vs,rfl,ha,da⟩:=dx;obtain ⟨b,ws,rfl,hb,db⟩:=dy;have la:vs.length=ds.length:=da.length;have lb:ws.length=ds.length:=db.length;have pl1:ds.length<=20000:=pl.1;refine ⟨_,rfl,_,_,false,rfl,.lst hb,nP K,_,rfl,dz ?_⟩;refine ⟨_,rfl,_,_,true,rfl,.lst hb,lF K,_,rfl,fM ?_⟩;refine ⟨_,rfl,_,_,false,rfl,.lst ha,nP K,_,rfl,_,_,false,rfl,.lst hb,nP K,rfl,_,rfl, ?_⟩;refine wI rfl ?_;refine ⟨_,rfl,_,_,true,rfl,.lst ha,lF K,_,rfl,_,_,true,rfl,.lst hb,lF K,rfl,_,rfl, ?_⟩;refine wI rfl ?_;refine ⟨_,rfl,a,_,rfl,.inl (bL.of ha),_,rfl,b,_,rfl,.inl (bL.of hb),rfl,_,rfl, ?_⟩;refine wI (by rw [la,lb]) ?_;refine ⟨_,rfl,_,rfl,a,b,vs,ws,rfl,.inl ⟨bL.of ha,bL.of hb,fun D hD=> ?_⟩⟩;refine PJ (K:=K) la lb (fun i=>some (.bl true)) hD (bL.of ha) (bL.of hb) (by omega) (fun i x y H2 G F hx hy s2 kG kF=> ?_) (fun H2 s2 e2=> ?_)
    ·obtain ⟨d,ed,dx⟩:=da.get hx
     obtain ⟨d',ed',dy⟩:=db.get hy;rw [ed] at ed';cases ed';exact ⟨_,rfl,_,rfl,x,y,d,rfl,dx.same s2 d,dy.same s2 d,pl.2 d (List.mem_of_getElem? ed),fun H3 s3=>kF _ H3 s3 rfl⟩
    ·rw [Em] at e2
     refine ⟨D,List.replicate ds.length true,rfl,bL.of (by rw [e2,List.map_replicate]), ?_⟩;rw [show (List.replicate ds.length true).all id=true by simp];exact k H2 s2
  | .tuple ds,pl,dx,dy=>
    simp only [Dat] at dx dy;obtain ⟨a,vs,rfl,ha,da⟩:=dx;obtain ⟨b,ws,rfl,hb,db⟩:=dy;have la:vs.length=ds.length:=da.length;have lb:ws.length=ds.length:=db.length;have pl1:ds.length<=20000:=pl.1;refine ⟨_,rfl,_,_,true,rfl,.tup hb,jd K,_,rfl,fM ?_⟩;refine fM ?_;refine ⟨_,rfl,_,_,true,rfl,.tup ha,jd K,_,rfl,_,_,true,rfl,.tup hb,jd K,rfl,_,rfl, ?_⟩;refine wI rfl ?_;refine ⟨_,rfl,_,_,false,rfl,.tup ha,sE K,_,rfl,_,_,false,rfl,.tup hb,sE K,rfl,_,rfl, ?_⟩;refine wI rfl ?_;refine ⟨_,rfl,a,_,rfl,.inr (cQ.of ha),_,rfl,b,_,rfl,.inr (cQ.of hb),rfl,_,rfl, ?_⟩;refine wI (by rw [la,lb]) ?_;refine ⟨_,rfl,_,rfl,a,b,vs,ws,rfl,.inr ⟨cQ.of ha,cQ.of hb,fun D hD=> ?_⟩⟩;refine Lb (K:=K) la lb (fun i=>some (.bl true)) hD ha hb (by omega) (fun i x y H2 G F hx hy s2 kG kF=> ?_) (fun H2 s2 e2=> ?_)
    ·obtain ⟨d,ed,dx⟩:=da.get hx
     obtain ⟨d',ed',dy⟩:=db.get hy;rw [ed] at ed';cases ed';exact ⟨_,rfl,_,rfl,x,y,d,rfl,dx.same s2 d,dy.same s2 d,pl.2 d (List.mem_of_getElem? ed),fun H3 s3=>kF _ H3 s3 rfl⟩
    ·rw [Em] at e2
     refine ⟨D,List.replicate ds.length true,rfl,bL.of (by rw [e2,List.map_replicate]), ?_⟩;rw [show (List.replicate ds.length true).all id=true by simp];exact k H2 s2
structure RT (τ:Tg) (H:Hp) (r:Addr):Prop where
 R:gQ H r
 off:∀x o,H x=some o->τ x≠[]->x≠r/\Off H r x
 un:pU τ H
theorem RT.draw {τ:Tg} {H H':Hp} {r:Addr} (h:RT τ H r) (k:KR r H H') (R':gQ H' r):RT τ H' r:=by
 have un':pU τ H':=h.un.dom fun x e=>by
  refine Kp.new k.1 e ?_;exact R'.at
 refine ⟨R',fun x o e t=> ?_,un'⟩;cases q:H x with
 | none=>exact absurd (h.un x q) t
 | some u=>
   obtain ⟨n,f⟩:=h.off x u q t;exact ⟨n,k.2 x u q n f⟩
theorem RT.stp {τ:Tg} {H H':Hp} {r:Addr} {i:Nat} (h:RT τ H r) (k:rF i τ H H'):RT τ H' r:=by
 obtain ⟨g,c,gs,cs,p,t,e1,e2,e3,q⟩:=h.R
 have tr:τ r=[]:=by
  by_cases z:τ r=[]
  ·exact z
  ·exact absurd rfl (h.off r _ e1 z).1
 have tg:τ g=[]:=by
  by_cases z:τ g=[]
  ·exact z
  ·exact absurd rfl ((h.off g _ e2 z).2 _ _ _ _ e1).1
 have tc:τ c=[]:=by
  by_cases z:τ c=[]
  ·exact z
  ·exact absurd rfl ((h.off c _ e3 z).2 _ _ _ _ e1).2
 have e1':=k.keep _ _ e1 (by rw [tr];simp);refine ⟨⟨g,c,gs,cs,p,t,e1',k.keep _ _ e2 (by rw [tg];simp),k.keep _ _ e3 (by rw [tc];simp),q⟩,fun x o e t=> ?_,h.un.dom k.dom⟩;cases q:H x with
 | none=>exact absurd (h.un x q) t
 | some u=>
   obtain ⟨n,f⟩:=h.off x u q t;refine ⟨n,fun g' c' u' v' e'=> ?_⟩;rw [e1'] at e';cases e';exact f _ _ _ _ e1
theorem RT.same {τ:Tg} {H H':Hp} {r:Addr} (h:RT τ H r) (k:Same H H'):RT τ H' r:=h.stp (i:=0) (rF.of_same k)
theorem RT.keep {τ:Tg} {H H':Hp} {r x:Addr} {o:HO} (h:RT τ H r) (k:KR r H H') (e:H x=some o) (t:τ x≠[]):H' x=some o:=k.1 _ _ e (h.off x o e t).1
theorem RT.claim {τ:Tg} {H H':Hp} {r p:Addr} {t:List Nat} (h:RT τ H r) (k:Same H H') (hp:H p=none) (hp':∃o,H' p=some o):RT (aV τ p t) H' r:=by
 have h':=h.same k;refine ⟨h'.R,fun x o e n=> ?_,h.un.claim k hp'⟩
 by_cases z:x=p
 ·subst z
  exact ⟨h.R.ne hp,(h.R.off hp).same h.R k⟩
 ·rw [aW z] at n
  exact h'.off x o e n
theorem RT.made {τ τ':Tg} {H H':Hp} {r:Addr} (h:RT τ H r) (k:Same H H') (tg:∀x u,H x=some u->τ' x=τ x) (un:pU τ' H'):RT τ' H' r:=by
 have h':=h.same k;refine ⟨h'.R,fun x o e n=> ?_,un⟩;cases q:H x with
 | some u=>exact h'.off x o e (by rw [←tg x u q];exact n)
 | none=>exact ⟨h.R.ne q,(h.R.off q).same h.R k⟩
def yp (CH:Addr) (K:PySem.W.Frag):Sp:=fun vs H Q _=>∃(A:sY) (s:bU),vs=[.ref A.h]/\qZ CH H A s /\ ∀(B:sY) (H':Hp),H B.h=none->H B.b=none->H B.sy=none->B.r=A.r->qZ CH H' B s->Same H H'->Q (.ref B.h) H'
theorem Zx (r b b' sy:Addr) (n:Int) (st:Str):cL "in_boxes" (.ref b') (hF r n b sy st)=hF r n b' sy st:=by rfl
theorem Zw (r b sy sy':Addr) (n:Int) (st:Str):cL "sayings" (.ref sy') (hF r n b sy st)=hF r n b sy' st:=by rfl
theorem KN {au:Addr} {f:Addr} {fd:FuncData} (F:jY K "another" "Hand.another" cX f fd) (aP:iG K au) (Lr:sW P w K mg base 1 au "Hand" ["self","rows"] [] (zL au K)) (Bt:rC mg):bV P w K mg base j4 3 f fd ["self"] (yp au K):=by
 refine F.ok qR (fun vs H Q E h=> ?_) (fun cdv A outer s H vs Q E hr h=> ?_)
 ·obtain ⟨A,s,rfl,_⟩:=h
  rfl
 ·obtain ⟨B,s,rfl,c,k⟩:=h
  refine ⟨_,(aF (bM (i:=1) qR.nd rfl (Or.inl rfl) (rT Lr (hr.mono (by decide)) (by rfl) (aj (bC (K:=K) rfl (pv 0) rfl) aB)))
   (aF (dB (K:=K) rfl (pv 1) (bC (K:=K) rfl (pv 0) rfl) rfl)
   (aF (dB (K:=K) rfl (pv 1) (cR (cC (K:=K) rfl) (by rfl) Bt.iU fV (aj (bC (K:=K) rfl (pv 0) rfl) aB)) rfl)
   (aF (dB (K:=K) rfl (pv 1) (cR (cC (K:=K) rfl) (by rfl) Bt.iU fV (aj (bC (K:=K) rfl (pv 0) rfl) aB)) rfl)
   (aF (dB (K:=K) rfl (pv 1) (bC (K:=K) rfl (pv 0) rfl) rfl)
   (aL (bF (pv 1)))))))), ?_⟩
  refine ⟨_,rfl,B.h,au,B.hx,_,_,rfl,c.h,aP.cls,aP.rW,rfl,fun h hx hh hhx nx=> ?_⟩;have hh':(upd H hx (.own h)) h=none:=by rw [aD nx.symm];exact hh
  have sm:Same H (upd (upd H hx (.own h)) h (.ins au hx [])):=(aJ hhx).trans (aJ hh');refine ⟨h,B.r,hx,rfl,ak,fun b0 Vt H1 hb0 aru aqT e1 eb1 arT k1=>⟨rfl, ?_⟩⟩;have S1:Same H H1:=fun x u e=>k1 _ _ (sm _ _ e) (aA e hh);clear k1 sm hh';have c1:=c.same S1;refine ⟨_,rfl,B.h,au,B.hx,_,_,rfl,c1.h,aP.cls,aP.yE,rfl,_,rfl,h,au,hx,_,rfl,e1,aP.cls,aP.yE,(by show 5<1000;decide), ?_⟩;rw [Bk];have S2:Same H (upd H1 h (.ins au hx (hF B.r s.pos b0 Vt "waits"))):=fun x u e=>by rw [aD (aA e hh)];exact S1 _ _ e
  have e2:(upd H1 h (.ins au hx (hF B.r s.pos b0 Vt "waits"))) h=some (.ins au hx (hF B.r s.pos b0 Vt "waits")):=ak;generalize (upd H1 h (.ins au hx (hF B.r s.pos b0 Vt "waits")))=H2 at S2 e2 ⊢;have c2:=c.same S2;refine ⟨_,rfl,B.h,au,B.hx,_,_,rfl,c2.h,aP.cls,aP.nM,rfl,B.b,_,rfl,.inl (bL.of c2.b),fun b hb=> ?_⟩;have sb:=aJ (o:=HO.lst (s.bs.map V.int)) hb;have Ws:b≠h:=(aA e2 hb).symm;refine ⟨_,rfl,h,au,hx,_,rfl,sb _ _ e2,aP.cls,aP.nM,(by show 5<1000;decide), ?_⟩;rw [Zx];have fb:H b=none:=S2.free hb;have S3:Same H (upd (upd H2 b (.lst (s.bs.map V.int))) h (.ins au hx (hF B.r s.pos b Vt "waits"))):=fun x u e=>by rw [aD (aA e hh)];exact sb _ _ (S2 _ _ e)
  have e3:(upd (upd H2 b (.lst (s.bs.map V.int))) h (.ins au hx (hF B.r s.pos b Vt "waits"))) h=some (.ins au hx (hF B.r s.pos b Vt "waits")):=ak;have eb3:(upd (upd H2 b (.lst (s.bs.map V.int))) h (.ins au hx (hF B.r s.pos b Vt "waits"))) b=some (.lst (s.bs.map V.int)):=by rw [aD Ws,ak]
  generalize (upd (upd H2 b (.lst (s.bs.map V.int))) h (.ins au hx (hF B.r s.pos b Vt "waits")))=H3 at S3 e3 eb3 ⊢;have c3:=c.same S3;refine ⟨_,rfl,B.h,au,B.hx,_,_,rfl,c3.h,aP.cls,aP.tX,rfl,B.sy,_,rfl,.inl (bL.of c3.y),fun y hy=> ?_⟩;have sy:=aJ (o:=HO.lst (s.sy.map V.int)) hy;have Yd:y≠h:=(aA e3 hy).symm;have OD:b≠y:=aA eb3 hy;refine ⟨_,rfl,h,au,hx,_,rfl,sy _ _ e3,aP.cls,aP.tX,(by show 5<1000;decide), ?_⟩;rw [Zw];have fy:H y=none:=S3.free hy;have S4:Same H (upd (upd H3 y (.lst (s.sy.map V.int))) h (.ins au hx (hF B.r s.pos b y "waits"))):=fun x u e=>by rw [aD (aA e hh)];exact sy _ _ (S3 _ _ e)
  have e4:(upd (upd H3 y (.lst (s.sy.map V.int))) h (.ins au hx (hF B.r s.pos b y "waits"))) h=some (.ins au hx (hF B.r s.pos b y "waits")):=ak;have eb4:(upd (upd H3 y (.lst (s.sy.map V.int))) h (.ins au hx (hF B.r s.pos b y "waits"))) b=some (.lst (s.bs.map V.int)):=by rw [aD Ws];exact sy _ _ eb3
  have ey4:(upd (upd H3 y (.lst (s.sy.map V.int))) h (.ins au hx (hF B.r s.pos b y "waits"))) y=some (.lst (s.sy.map V.int)):=by rw [aD Yd,ak]
  generalize (upd (upd H3 y (.lst (s.sy.map V.int))) h (.ins au hx (hF B.r s.pos b y "waits")))=H4 at S4 e4 eb4 ey4 ⊢;have c4:=c.same S4;refine ⟨_,rfl,B.h,au,B.hx,_,_,rfl,c4.h,aP.cls,aP.ou,rfl,_,rfl,h,au,hx,_,rfl,e4,aP.cls,aP.ou,(by show 5<1000;decide), ?_⟩;rw [Gd];exact ⟨_,rfl,k ⟨h,hx,B.r,b,y⟩ _ hh fb fy rfl ⟨ak,by rw [aD Ws];exact eb4,by rw [aD Yd];exact ey4,OD,c.bl⟩ (fun x u e=>by rw [aD (aA e hh)];exact S4 _ _ e)⟩
def J3 (CW CH:Addr) (K:PySem.W.Frag):Sp:=fun vs H Q _=>∃(i i':Nat) (τ:Tg) (W:JH) (S:pO),vs=[.ref W.o]/\um CW CH i τ H W S/\q_ S/\S.m<=100/\i'≠0 /\ ∀(τ':Tg) (W':JH) (H':Hp),um CW CH i' τ' H' W' S->(∀x u,H x=some u->τ' x=τ x)->Same H H'->Q (.ref W'.o) H'
theorem Wg {aq au aO:Addr} {f:Addr} {fd:FuncData} (F:jY K "twin" "Works.twin" eF f fd) (aU:gK K aq) (aP:iG K au) (Xu:sW P w K mg base 7 aq "Works" ["self","program","cells"] [] (fun vs H Q _=>tK aq au aO K vs H Q fun _ _ _=>False)) (C_:MethAt P w K mg base 3 au "another" ["self"] (yp au K)) (Bt:rC mg):bV P w K mg base j4 9 f fd ["self"] (J3 aq au K):=by
 refine F.ok uh (fun vs H Q E h=> ?_) (fun cdv A outer s H vs Q E hr h=> ?_)
 ·obtain ⟨i,i',τ,W,S,rfl,_⟩:=h
  rfl
 ·obtain ⟨i,i',τ,W,S,rfl,w,g,ml,i0,k⟩:=h
  refine ⟨_,(aF (bM (i:=1) uh.nd rfl (Or.inl rfl) (rT Xu (hr.mono (by decide)) (by rfl) (aj (bC (K:=K) rfl (pv 0) rfl) (aj (bC (K:=K) rfl (pv 0) rfl) aB))))
   (aF (dB (K:=K) rfl (pv 1) (gC rfl (N:=["one"]) (own:=["one"]) (caps:=[]) (bH.of (by kernel_rfl)) (fW (K:=K) rfl (bC (K:=K) rfl (pv 0) rfl)) (fun _ _ _ _=>(bY (i:=0) (show List.Nodup (["one"]:List Str) by decide +kernel) rfl (Or.inl rfl))) (fun _ _ _ _=>fU) (fun _ _ _ _=>(fX C_ aP.cls (hr.mono (by decide)) (pv 0)))) rfl)
   (aF (dB (K:=K) rfl (pv 1) (cR (cC (K:=K) rfl) (by rfl) Bt.iU fV (aj (bC (K:=K) rfl (pv 0) rfl) aB)) rfl)
   (aL (bF (pv 1)))))), ?_⟩
  have good:yC S.m S.ns:=⟨by rw [w.nl],g.n⟩;refine ⟨_,rfl,W.o,aq,W.dx,_,_,rfl,w.o,aU.cls,aU.yD,rfl,_,rfl,W.o,aq,W.dx,_,_,rfl,w.o,aU.cls,aU.m6,rfl,fun o dx ho hdx ndx=> ?_⟩;have ho':(upd H dx (.own o)) o=none:=by rw [aD ndx.symm];exact ho
  have sm:Same H (upd (upd H dx (.own o)) o (.ins aq dx [])):=(aJ hdx).trans (aJ ho');refine ⟨i',τ,o,dx,W.pg,W.L,W.rs,S.m,.ref W.nb,S.ns,S.hs.map bU.rws,rfl,ak,sm _ _ w.pg,sm _ _ w.L,by rw [List.length_map];exact w.rl,fun kk r x h1 h2=> ?_,by rw [List.length_map];exact w.hn,ml,w.un.same sm,i0,by rw [w.nl];exact ml,.inr ⟨W.nb,rfl,sm _ _ w.nb⟩,fun _ τ1 W1 H1 eo w1 tg kp=>⟨rfl, ?_⟩,fun bad=>absurd good bad⟩
  ·rw [List.getElem?_map] at h2
   cases e:S.hs[kk]? with
   | none=>rw [e] at h2;cases h2
   | some s=>rw [e] at h2;cases h2;exact (w.rs kk r s h1 e).2.same sm
  have S1:Same H H1:=fun x u e=>kp _ _ (sm _ _ e) (aA e ho);have YW:∀x u,H x=some u->τ1 x=τ x:=fun x u e=>tg x u (sm _ _ e) (aA e ho);have fo:H W1.o=none:=by rw [eo];exact ho
  have eo':V.ref o=V.ref W1.o:=by rw [eo]
  rw [eo'];clear kp tg sm ho' eo';have wA:um aq au i τ1 H1 W S:=w.mv (Mv.tags S1 YW) w1.un;refine ⟨_,rfl,W.o,aq,W.dx,_,_,rfl,wA.o,aU.cls,aU.qG,rfl,W.hl,rfl,⟨_,bL.of wA.hl⟩,fun D hD=> ?_⟩;have sD:=aJ (o:=HO.lst []) hD;refine pL (K:=K) (xs:=W.hd.map fun a=>V.ref a.h) (fun j σ Hc=>∃(v:Option V) (τc:Tg) (hd:List sY),σ=[v]/\hd.length=j/\Same H1 Hc/\Hc D=some (.lst (hd.map fun a=> .ref a.h))/\pU τc Hc/\(∀x u,H1 x=some u->τc x=τ1 x)/\τc D=[i',2] /\ ∀(k:Nat) (A:sY) (s:bU),hd[k]? = some A->S.hs[k]? = some s->zJ au i' k S.m τc Hc A s) ?_ ?_ ?_ ?_
  ·exact ⟨none,aV τ1 D [i',2],[],rfl,rfl,sD,ak,w1.un.claim sD ⟨_,ak⟩,fun x u e=>aW (aA e hD),bJ,fun k A s e=>by simp at e⟩
  ·rintro j σ Hc _ ⟨v,τc,hd,rfl,_,sc,_⟩
   exact bL.of (sc _ _ wA.hl)
  ·rintro j x σ Hc hj ⟨v,τc,hd,rfl,lj,sc,hDc,unc,tgc,tDc,hc⟩
   rw [List.getElem?_map] at hj
   obtain ⟨A,eA,rfl⟩:∃A,W.hd[j]? = some A/\x = .ref A.h:=by
    cases e:W.hd[j]? with
    | none=>rw [e] at hj;cases hj
    | some A=>rw [e] at hj;exact ⟨A,rfl,(Option.some.inj hj).symm⟩
   have wc:um aq au i τc Hc W S:=wA.mv (Mv.tags sc tgc) unc;have jl:j<S.hs.length:=by rw [←w.len];exact (List.getElem?_eq_some_iff.mp eA).1
   have es:S.hs[j]? = some S.hs[j]:=by simp [jl]
   have a:=wc.hd j A _ eA es;dsimp only [gO,Fj];rw [if_pos rfl];refine ⟨_,rfl,A.h,A.hx,_,rfl,a.c.h,rfl,A,_,rfl,a.c,fun B H7 fh fb fy er c7 s7=> ?_⟩;have nDh:D≠B.h:=aA hDc fh;have nDb:D≠B.b:=aA hDc fb;have nDy:D≠B.sy:=aA hDc fy;have T:∀x u,Hc x=some u->aV (aV (aV τc B.h [i',4,j]) B.b [i',5,j]) B.sy [i',6,j] x=τc x:=fun y u e=>by rw [aW (aA e fy),aW (aA e fb),aW (aA e fh)]
   have U7:pU (aV (aV (aV τc B.h [i',4,j]) B.b [i',5,j]) B.sy [i',6,j]) H7:=fun y e=>by
    have n1:y≠B.h:=fun z=>by rw [z,c7.h] at e;cases e
    have n2:y≠B.b:=fun z=>by rw [z,c7.b] at e;cases e
    have n3:y≠B.sy:=fun z=>by rw [z,c7.y] at e;cases e
    rw [aW n3,aW n2,aW n1];exact unc y (s7.free e)
   have Th:aV (aV (aV τc B.h [i',4,j]) B.b [i',5,j]) B.sy [i',6,j] B.h=[i',4,j]:=by rw [aW c7.Yd,aW c7.Ws,bJ]
   have Tb:aV (aV (aV τc B.h [i',4,j]) B.b [i',5,j]) B.sy [i',6,j] B.b=[i',5,j]:=by rw [aW c7.OD,bJ]
   have Ty:aV (aV (aV τc B.h [i',4,j]) B.b [i',5,j]) B.sy [i',6,j] B.sy=[i',6,j]:=bJ;generalize aV (aV (aV τc B.h [i',4,j]) B.b [i',5,j]) B.sy [i',6,j]=τ7 at T U7 Th Tb Ty
   have q7:uf [[i',2]] τc Hc τ7 (upd H7 D (.lst ((hd.map fun a=>V.ref a.h)++[V.ref B.h]))):=by
    refine ⟨fun y u e n=>⟨?_,T y u e⟩,fun y ys e=> ?_⟩
    ·rw [aD (fun z:y=D=>n (by rw [z,tDc];simp))]
     exact s7 _ _ e
    ·rw [aD (d_ e hDc (by intro z;cases z))]
     exact s7 _ _ e
   have hjl:hd.length<=100:=by rw [lj];have:=w.hn;omega
   refine ⟨_,s7 _ _ hDc,(by rw [List.length_map,sizeLine_eq];omega),some (.ref A.h),τ7,hd++[B],rfl,by simp [lj],fun y u e=> ?_,by rw [ak];simp, ?_,fun y u e=> ?_, ?_, ?_⟩
   ·rw [aD (aA e hD)]
    exact s7 _ _ (sc _ _ e)
   ·exact U7.dom fun y e=>by
     by_cases z:y=D
     ·rw [z,ak] at e;cases e
     ·rw [aD z] at e;exact e
   ·rw [T y u (sc _ _ e)]
    exact tgc y u e
   ·rw [T _ _ hDc];exact tDc
   ·intro k A' s' h1 h2
    rcases wM h1 with h1|⟨e1,rfl⟩
    ·exact (hc k A' s' h1 h2).mvT q7 (by simp) (by simp) (by simp) (by simp)
    ·rw [e1,lj,es] at h2
     cases h2;rw [e1,lj];obtain ⟨t9,R9⟩:=iW ⟨a.tr,a.r⟩ q7 (by simp);exact ⟨⟨by rw [aD nDh.symm];exact c7.h,by rw [aD nDb.symm];exact c7.b,by rw [aD nDy.symm];exact c7.y,c7.OD,c7.bl⟩,by rw [er];exact R9,by rw [er];exact t9,Th,Tb,Ty⟩
  rintro σ H8 ⟨v,τ8,hd,rfl,lhd,s18,hD8,un8,Vq,tD8,hd8⟩;rw [List.length_map] at lhd;have W3:=s18 _ _ w1.o;have YS:τ8 W1.o=[i',0]:=by rw [Vq _ _ w1.o];exact w1.to
  refine ⟨_,rfl,W1.o,aq,W1.dx,_,rfl,W3,aU.cls,aU.qG,(by show 4<1000;decide), ?_⟩;have ho9:(upd H8 W1.o (.ins aq W1.dx (cL "hands" (.ref D) (wF W1.pg W1.nb W1.hl W1.tn)))) W1.o=some (.ins aq W1.dx (wF W1.pg W1.nb D W1.tn)):=ak;have q9:uf [[i',0]] τ8 H8 τ8 (upd H8 W1.o (.ins aq W1.dx (cL "hands" (.ref D) (wF W1.pg W1.nb W1.hl W1.tn)))):=uf.set (by rw [YS];simp) W3 (by intro xs z;cases z)
  have un9:pU τ8 (upd H8 W1.o (.ins aq W1.dx (cL "hands" (.ref D) (wF W1.pg W1.nb W1.hl W1.tn)))):=un8.dom fun y e=>by
   by_cases z:y=W1.o
   ·rw [z,ak] at e;cases e
   ·rw [aD z] at e;exact e
  have S9:Same H (upd H8 W1.o (.ins aq W1.dx (cL "hands" (.ref D) (wF W1.pg W1.nb W1.hl W1.tn)))):=fun x u e=>by rw [aD (aA e fo)];exact s18 _ _ (S1 _ _ e)
  generalize (upd H8 W1.o (.ins aq W1.dx (cL "hands" (.ref D) (wF W1.pg W1.nb W1.hl W1.tn))))=H9 at ho9 q9 un9 S9 ⊢;have w9:um aq au i τ8 H9 W S:=w.mv (Mv.tags S9 fun x u e=>(Vq x u (S1 _ _ e)).trans (YW x u e)) un9;refine ⟨_,rfl,W.o,aq,W.dx,_,_,rfl,w9.o,aU.cls,aU.wB,rfl,W.tn,_,rfl,.inl (bL.of w9.tn),fun t ht=> ?_⟩;have st:=aJ (o:=HO.lst (S.ts.map V.int)) ht;have nto:t≠W1.o:=(aA ho9 ht).symm;refine ⟨_,rfl,W1.o,aq,W1.dx,_,rfl,st _ _ ho9,aU.cls,aU.wB,(by show 4<1000;decide), ?_⟩;have Pq:(upd (upd H9 t (.lst (S.ts.map V.int))) W1.o (.ins aq W1.dx (cL "turns" (.ref t) (wF W1.pg W1.nb D W1.tn)))) W1.o=some (.ins aq W1.dx (wF W1.pg W1.nb D t)):=ak;have acO:(upd (upd H9 t (.lst (S.ts.map V.int))) W1.o (.ins aq W1.dx (cL "turns" (.ref t) (wF W1.pg W1.nb D W1.tn)))) t=some (.lst (S.ts.map V.int)):=by rw [aD nto,ak]
  have Zv:uf [[i',0]] τ8 H9 (aV τ8 t [i',3]) (upd (upd H9 t (.lst (S.ts.map V.int))) W1.o (.ins aq W1.dx (cL "turns" (.ref t) (wF W1.pg W1.nb D W1.tn)))):=(uf.claim st ht).trans (uf.set (by rw [aW nto.symm,YS];simp) (st _ _ ho9) (by intro xs z;cases z))
  have YK:pU (aV τ8 t [i',3]) (upd (upd H9 t (.lst (S.ts.map V.int))) W1.o (.ins aq W1.dx (cL "turns" (.ref t) (wF W1.pg W1.nb D W1.tn)))):=(un9.claim st ⟨_,ak⟩).dom fun y e=>by
   by_cases z:y=W1.o
   ·rw [z,ak] at e;cases e
   ·rw [aD z] at e;exact e
  have S10:Same H (upd (upd H9 t (.lst (S.ts.map V.int))) W1.o (.ins aq W1.dx (cL "turns" (.ref t) (wF W1.pg W1.nb D W1.tn)))):=fun x u e=>by rw [aD (aA e fo)];exact st _ _ (S9 _ _ e)
  have N6:aV τ8 t [i',3] W1.o=[i',0]:=by rw [aW nto.symm];exact YS
  have N5:aV τ8 t [i',3] t=[i',3]:=bJ;have tgt:∀x u,H x=some u->aV τ8 t [i',3] x=τ x:=fun x u e=>by rw [aW (aA (S9 _ _ e) ht)];exact (Vq x u (S1 _ _ e)).trans (YW x u e)
  have Q18:uf [[i',0]] τ1 H1 τ8 H8:=⟨fun x u e _=>⟨s18 _ _ e,Vq x u e⟩,s18.tups⟩;have Q8:=q9.trans Zv;generalize (upd (upd H9 t (.lst (S.ts.map V.int))) W1.o (.ins aq W1.dx (cL "turns" (.ref t) (wF W1.pg W1.nb D W1.tn))))=Xx at Pq acO Zv YK S10 Q8 ⊢;generalize aV τ8 t [i',3]=HN at Zv YK N6 N5 tgt Q8;have Q1:=Q18.trans Q8;have hL:=Q1.keep _ _ w1.L (by rw [w1.tL];simp);have hnb:=Q1.keep _ _ w1.nb (by rw [w1.tb];simp);have hDd:=Q8.keep _ _ hD8 (by rw [tD8];simp);refine ⟨_,rfl,k HN ⟨W1.o,W1.dx,W1.pg,W1.L,W1.nb,D,t,W1.rs,hd⟩ Xx ⟨YK,i0,Pq,Q1.tup _ _ w1.pg,hL.1,hnb.1,hDd.1,acO,N6,hnb.2.trans w1.tb,hDd.2.trans tD8,N5,hL.2.trans w1.tL, ?_, ?_,by rw [lhd,w.len],fun kk A s h1 h2=>(hd8 kk A s h1 h2).mvT Q8 (by simp) (by simp) (by simp) (by simp),w.ok,w.sl,w.nl,w.hn⟩ tgt S10⟩
  ·have:=w1.rl
   unfold Hj at this;simpa using this
  ·intro kk r s h1 h2
   have e1:(Hj S.m S.ns (S.hs.map bU.rws)).hs[kk]? = some (lead (new s.rws)):=by
    show ((S.hs.map bU.rws).map fun r=>lead (new r))[kk]? = _;rw [List.getElem?_map,List.getElem?_map,h2];rfl
   have:=w1.rs kk r _ h1 e1;rw [show (lead (new s.rws)).rws=s.rws from wG _ _] at this;exact iW this Q1 (by simp)
theorem adn (a b c d:V):sI [a,b,c,d] none (some 2)=[a,b]:=Ue _ 2
theorem adl (a b c d:V):sI [a,b,c,d] (some 2) none=[c,d]:=Jv _ 2
theorem ZM {α:Type} (xs:List α) (h:xs.length=4):¬(HT.jW xs.length 0 none=0/\HT.jW xs.length xs.length (some 2)=xs.length):=by
 rw [h];decide
theorem ZL {α:Type} (xs:List α) (h:xs.length=4):¬(HT.jW xs.length 0 (some 2)=0/\HT.jW xs.length xs.length none=xs.length):=by
 rw [h];decide
def nt (H H':Hp):Hp:=fun x=>match H' x with
 | some (.tup xs)=>some (.tup xs)
 | o=>match H x with
   | none=>o
   | some _=>none
theorem Z0 {H H':Hp} {x:Addr} {xs:List V} (e:H' x=some (.tup xs)):nt H H' x=some (.tup xs):=by unfold nt;rw [e]
theorem Yb {H H':Hp} {x:Addr} {o:HO} (n:H x=none) (e:H' x=some o):nt H H' x=some o:=by
 unfold nt;rw [e,n];cases o<;>rfl
theorem Z2 {H H':Hp} {x:Addr} {o:HO} (e:nt H H' x=some o):H' x=some o/\((∃xs,o = .tup xs)\/H x=none):=by
 unfold nt at e;split at e
 ·rename_i xs q
  cases e;exact ⟨q,.inl ⟨_,rfl⟩⟩
 ·cases q:H x with
  | none=>rw [q] at e;exact ⟨e,.inr rfl⟩
  | some u=>rw [q] at e;cases e
def rm (τ:Tg) (H:Hp):Hp:=fun x=>match H x with
 | some (.tup xs)=>some (.tup xs)
 | o=>if τ x=[0] then o else none
theorem rN {τ:Tg} {H:Hp} {x:Addr} {xs:List V} (e:H x=some (.tup xs)):rm τ H x=some (.tup xs):=by unfold rm;rw [e]
theorem vL {τ:Tg} {H:Hp} {x:Addr} {o:HO} (t:τ x=[0]) (e:H x=some o):rm τ H x=some o:=by
 unfold rm;rw [e];cases o<;>simp only [t,if_true]<;>rfl
theorem Ao {τ:Tg} {H:Hp} {x:Addr} {o:HO} (e:rm τ H x=some o):H x=some o/\((∃xs,o = .tup xs)\/τ x=[0]):=by
 unfold rm at e;split at e
 ·rename_i xs q
  cases e;exact ⟨q,.inl ⟨_,rfl⟩⟩
 ·by_cases t:τ x=[0]
  ·rw [if_pos t] at e;exact ⟨e,.inr t⟩
  ·rw [if_neg t] at e;cases e
theorem tH (τ:Tg) (H:Hp):Same (rm τ H) H:=fun x o e=>(Ao e).1
theorem qx {i:Nat} {τ τ':Tg} {H H':Hp} (q:Mv i τ H τ' H'):Same (rm τ H) (rm τ' H'):=fun x o e=>by
 obtain ⟨e,⟨xs,rfl⟩|t⟩:=Ao e
 ·exact rN (q.tup _ _ e)
 ·have:=q.keep x o e (.inl t)
  exact vL (this.2.trans t) this.1
theorem jG {i:Nat} {τ:Tg} {H H':Hp} (q:rF i τ H H') (i0:i≠0):Same (rm τ H) (rm τ H'):=fun x o e=>by
 obtain ⟨e,⟨xs,rfl⟩|t⟩:=Ao e
 ·exact rN (q.tup _ _ e)
 ·exact vL t (q.keep x o e (by rw [t];intro z;exact i0 (Option.some.inj z).symm))
def Qp (τ:Tg) (H H':Hp):Tg:=fun x=>match H x with
 | some _=>τ x
 | none=>match H' x with
   | some _=>[0]
   | none=>τ x
theorem Vo {τ:Tg} {H H':Hp} {x:Addr} {o:HO} (e:H x=some o):Qp τ H H' x=τ x:=by unfold Qp;rw [e]
theorem Vp {τ:Tg} {H H':Hp} {x:Addr} {o:HO} (n:H x=none) (e:H' x=some o):Qp τ H H' x=[0]:=by unfold Qp;rw [n];simp only [e]
theorem YT {τ:Tg} {H H':Hp} (k:Same H H') (u:pU τ H):pU (Qp τ H H') H':=fun x e=>by
 have n:=k.free e;unfold Qp;rw [n];simp only [e];exact u x n
theorem Z1 {τ:Tg} {H H':Hp}:Same (nt H H') (rm (Qp τ H H') H'):=fun x o e=>by
 obtain ⟨e,⟨xs,rfl⟩|n⟩:=Z2 e
 ·exact rN e
 ·exact vL (Vp n e) e
abbrev Nu:=Int×Int
def pD (x:Nu):PyData:= .tuple [.int x.1,.int x.2]
theorem sG (x:Nu):Gy (pD x)=true:=rfl
theorem Ng {H:Hp} {t:Addr} {x:Nu} (h:H t=some (.tup [.int x.1,.int x.2])):Dat H (.ref t) (pD x):=by
 simp only [pD,Dat];exact ⟨t,_,rfl,h,by simp only [aR,Dat,and_self]⟩
theorem Js {H:Hp} {v:V} {x:Nu} (h:Dat H v (pD x)):∃t,v = .ref t/\H t=some (.tup [.int x.1,.int x.2]):=by
 simp only [pD,Dat] at h;obtain ⟨t,vs,e,q,d⟩:=h
 match vs,d with
 | [a,b],d=>
   simp only [aR,Dat,and_true] at d;obtain ⟨rfl,rfl⟩:=d;exact ⟨t,e,q⟩
 | [],d=>simp only [aR] at d
 | [_],d=>simp only [aR,and_false] at d
 | _::_::_::_,d=>simp only [aR,and_false] at d
def sS (H:Hp) (a:Addr) (ps:List Nu):Prop:=∃vs,H a=some (.lst vs)/\aR H vs (ps.map pD)
theorem sS.same {H H':Hp} {a:Addr} {ws:List Nu} (h:sS H a ws) (k:Same H H'):sS H' a ws:=by
 obtain ⟨vs,e,d⟩:=h;exact ⟨vs,k _ _ e,aR.keep k.tups _ (cY _ sG ws) d⟩
theorem V2 {H:Hp} {vs:List V} {ps:List Nu} {i:Nat} {v:V} (d:aR H vs (ps.map pD)) (e:vs[i]? = some v):∃x t,ps[i]? = some x/\v = .ref t/\H t=some (.tup [.int x.1,.int x.2]):=by
 obtain ⟨q,eq,dq⟩:=d.get e;rw [List.getElem?_map] at eq;cases ex:ps[i]? with
 | none=>rw [ex] at eq;cases eq
 | some x=>
   rw [ex] at eq;cases eq;obtain ⟨t,rfl,ht⟩:=Js dq;exact ⟨x,t,rfl,rfl,ht⟩
def nK (x:Nt):List Int:=[x.1,x.2.1,x.2.2.1,x.2.2.2]
theorem Z9 (x:Nt):(nK x).map V.int=nV x:=rfl
def Xv (ns:List Nt):Prop:=ns.Pairwise fun x y=>Tim.nO (nK y) (nK x)=false
def vInt:V->Int
 | .int n=>n
 | _=>0
def tupK (H:Hp) (v:V):List Int:=match v with
 | .ref t=>match H t with
   | some (.tup xs)=>xs.map vInt
   | _=>[]
 | _=>[]
def toN:List Int->Nt
 | [a,b,c,d]=>(a,b,c,d)
 | _=>(0,0,0,0)
theorem tG {H:Hp} {t:Addr} {x:Nt} (h:H t=some (.tup (nV x))):tupK H (.ref t)=nK x:=by
 unfold tupK;dsimp only;rw [h];rfl
theorem Q0 (x:Nt):toN (nK x)=x:=rfl
theorem Mu {H:Hp} {vs:List V} {ns:List Nt} (d:aR H vs (ns.map nD)) {v:V} (hv:v∈vs):∃t x,v = .ref t/\x∈ns/\H t=some (.tup (nV x)):=by
 obtain ⟨i,hi,e⟩:=List.getElem_of_mem hv;obtain ⟨x,t,ex,ev,ht⟩:=Gk d (i:=i) (v:=v) (by rw [List.getElem?_eq_getElem hi,e]);exact ⟨t,x,ev,List.mem_of_getElem? ex,ht⟩
theorem Mw {H:Hp}:∀{vs:List V} {ns:List Nt},aR H vs (ns.map nD)->vs.map (fun v=>toN (tupK H v))=ns
 | [],[],_=>rfl
 | [],_::_,h=>by simp only [List.map_cons,aR] at h
 | _::_,[],h=>by simp only [List.map_nil,aR] at h
 | v::vs,n::ns,h=>by
   simp only [List.map_cons,aR] at h;obtain ⟨t,rfl,ht⟩:=qN h.1;rw [List.map_cons,Mw h.2,tG ht,Q0]
theorem SJ {H:Hp}:∀{vs:List V},(∀v∈vs,∃t x,v=V.ref t/\H t=some (.tup (nV x)))->aR H vs ((vs.map fun v=>toN (tupK H v)).map nD)
 | [],_=>by simp [aR]
 | v::vs,h=>by
   obtain ⟨t,x,rfl,ht⟩:=h v (.head _);simp only [List.map_cons,aR];exact ⟨by rw [tG ht,Q0];exact GQ ht,SJ fun v hv=>h v (.tail _ hv)⟩
theorem Rh {K:PySem.W.Frag} {H:Hp} {p:Addr} {ns:List Nt} {Q:VK} (N:ur H p ns) (h64:ns.length<64) (k:∀l ns' H',H l=none->ur H' l ns'->ns'.Perm ns->Xv ns'->Same H H'->Q (.ref l) H'):Kl K [.ref p] H Q:=by
 obtain ⟨ys,hp,d⟩:=N;refine ⟨p,ys,4,tupK H,rfl,bL.of hp,by rw [d.length,List.length_map];exact h64,by decide,fun y hy=> ?_,fun l zs hl pz sz=> ?_⟩
 ·obtain ⟨t,x,rfl,_,ht⟩:=Mu d hy
  exact ⟨t,rfl,by rw [tG ht,Z9];exact cQ.of ht,by rw [tG ht];rfl⟩
 ·have sm:=aJ (o:=HO.lst zs) hl
  have all:∀v∈zs,∃t x,v=V.ref t/\H t=some (.tup (nV x)):=fun v hv=>by
   obtain ⟨t,x,e,_,ht⟩:=Mu d (pz.mem_iff.mp hv);exact ⟨t,x,e,ht⟩
  refine k l (zs.map fun v=>toN (tupK H v)) _ hl ⟨zs,ak,aR.keep sm.tups _ (cY _ pA _) (SJ all)⟩ ?_ ?_ sm
  ·rw [←Mw d]
   exact pz.map _
  ·unfold Xv
   rw [List.pairwise_map];refine List.Pairwise.imp_of_mem (fun {x y} hx hy h=> ?_) sz;obtain ⟨t,a,rfl,ht⟩:=all x hx;obtain ⟨u,b,rfl,hu⟩:=all y hy;rw [tG ht,tG hu] at h ⊢;exact h
def ft (x:Nt):Nu:=(x.1,x.2.1)
def dF (ns:List Nt) (o m:Int):List Nu:=(ns.filter fun x=>decide (x.2.2.1=o)&&decide (x.2.2.2=m)).map ft
theorem Dm (ns:List Nt) (x:Nt) (o m:Int):dF (ns++[x]) o m=dF ns o m++(if x.2.2.1=o/\x.2.2.2=m then [ft x] else []):=by
 unfold dF;rw [List.filter_append,List.map_append];congr 1
 by_cases e:x.2.2.1=o/\x.2.2.2=m
 ·simp [e.1,e.2]
 ·rw [if_neg e]
  by_cases e1:x.2.2.1=o
  ·have e2:¬x.2.2.2=m:=fun z=>e ⟨e1,z⟩
   simp [e2]
  ·simp [e1]
def nW (H:Hp) (f:Addr) (ns:List Nt):Prop:=∃kvs,H f=some (.dT kvs) /\ ∀o m:Int,(gF kvs [Sum.inl o,Sum.inl m]=none/\dF ns o m=[]) \/ ∃l,gF kvs [Sum.inl o,Sum.inl m]=some (.ref l)/\sS H l (dF ns o m)
theorem nW.same {H H':Hp} {f:Addr} {ns:List Nt} (h:nW H f ns) (k:Same H H'):nW H' f ns:=by
 obtain ⟨kvs,e,q⟩:=h;refine ⟨kvs,k _ _ e,fun o m=> ?_⟩;rcases q o m with z|⟨l,e1,e2⟩
 ·exact .inl z
 ·exact .inr ⟨l,e1,e2.same k⟩
def Ax (K:PySem.W.Frag):Sp:=fun vs H Q _=>∃(t c a:Addr) (cs:List Int) (ns:List Nt),vs=[.ref t]/\RecAt H t c a cs ns/\E_ cs ns /\ ∀(f:Addr) (H':Hp),H f=none->nW (nt H H') f ns->Same H H'->Q (.ref f) H'
theorem Ot {f:Addr} {fd:FuncData} (F:jY K "firsts_of" "firsts_of" fj f fd):bV P w K mg base j4 1 f fd ["record"] (Ax K):=by
 refine F.ok qz (fun vs H Q E h=> ?_) (fun cdv A outer s H vs Q E hr h=> ?_)
 ·obtain ⟨t,c,a,cs,ns,rfl,_⟩:=h
  rfl
 ·obtain ⟨t,c,a,cs,ns,rfl,R,ok,k⟩:=h
  have hu:=Yk hr;obtain ⟨ht,hc,nvs,ha,dn⟩:=id R;have nvl:nvs.length=ns.length:=by rw [dn.length,List.length_map]
  have nl:=ok.2.1
  refine ⟨_,(aF (bM (i:=1) qz.nd rfl (Or.inl rfl) RN)
   (aF (yx PassesOwn.never rfl (fW (K:=K) rfl (aY (bx (K:=K) rfl) (pv 0) aG (fun _ _=>rfl))) (bY (i:=2) qz.nd rfl (Or.inl rfl))
   (aL (fH (kY (K:=K) rfl (RM hu (pv 1) (pH (Mg (K:=K) rfl) (pv 2) (tU aG) tV) (fO aB) ⟨rfl,rfl,rfl,rfl⟩) (aj (pH (Mg (K:=K) rfl) (pv 2) tV (tU aG)) aB)))))
   (aL (bF (pv 1))))), ?_⟩
  intro f hf;have s1:=aJ (o:=HO.dT []) hf;refine ⟨_,rfl,_,_,_,_,rfl,rfl,cQ.of (s1 _ _ ht),rfl,a,rfl,⟨_,bL.of (s1 _ _ ha)⟩, ?_⟩
  refine wO (K:=K) (a:=a) (xs:=nvs) (fun i σ H2=>∃(x:Option V) (kvs:List (List Key×V)),σ=[some (.ref t),some (.ref f),x]/\Same H H2/\H2 f=some (.dT kvs)/\kvs.length<=i /\
   (∀o m:Int,(gF kvs [Sum.inl o,Sum.inl m]=none/\dF (ns.take i) o m=[]) \/ ∃l,gF kvs [Sum.inl o,Sum.inl m]=some (.ref l)/\sS H2 l (dF (ns.take i) o m)/\H l=none/\l≠f) /\
   (∀(o m o' m':Int) l,gF kvs [Sum.inl o,Sum.inl m]=some (.ref l)->gF kvs [Sum.inl o',Sum.inl m']=some (.ref l)->o=o'/\m=m'))
   ⟨none,[],rfl,s1,ak,Nat.zero_le _,fun o m=> .inl ⟨rfl,rfl⟩,fun o m o' m' l h=>by cases h⟩ (fun i σ H2 _ ⟨_,_,_,sm,_⟩=>bL.of (sm _ _ ha)) ?_ ?_
  ·rintro i v σ H2 hi ⟨x0,kvs,rfl,sm,hF,kl,hval,inj⟩
   obtain ⟨x,w,ex,rfl,hx⟩:=Gk dn hi;have il:i<nvs.length:=(List.getElem?_eq_some_iff.mp hi).1;have hx2:=sm _ _ hx;have tk:ns.take (i+1)=ns.take i++[x]:=by rw [List.take_add_one,ex];rfl
   refine Jp (fun v H3=>∃l Gs,v = .ref l/\Same H H3/\(∀a xs,H2 a=some (HO.tup xs)->H3 a=some (HO.tup xs))/\H3 f=some (.dT Gs)/\Gs.length<=i+1/\gF Gs [Sum.inl x.2.2.1,Sum.inl x.2.2.2]=some (.ref l) /\
    (∀o m:Int,(gF Gs [Sum.inl o,Sum.inl m]=none/\dF (ns.take i) o m=[]) \/ ∃l,gF Gs [Sum.inl o,Sum.inl m]=some (.ref l)/\sS H3 l (dF (ns.take i) o m)/\H l=none/\l≠f) /\
    (∀(o m o' m':Int) l,gF Gs [Sum.inl o,Sum.inl m]=some (.ref l)->gF Gs [Sum.inl o',Sum.inl m']=some (.ref l)->o=o'/\m=m')) (fun Q' kQ=> ?_) ?_
   ·refine ⟨_,rfl,f,rfl,.inr ⟨_,.inl hF⟩,_,rfl,_,rfl,_,_,rfl,cQ.of hx2,ZL _ rfl,fun p1 hp1=> ?_⟩
    have c2:sI (nV x) (some 2) none=[.int x.2.2.1,.int x.2.2.2]:=adl ..;rw [c2];have sp1:=aJ (o:=HO.tup [V.int x.2.2.1,V.int x.2.2.2]) hp1;refine ⟨(by show 0<=sizeLine;decide),fun e he=> ?_⟩;have sp2:=aJ (o:=HO.lst []) he;have s12:=sp1.trans sp2;refine ⟨kvs,[Sum.inl x.2.2.1,Sum.inl x.2.2.2],p1,s12 _ _ hF,rfl,sp2 _ _ ak,by rw [sizeLine_eq];omega,fun v hv=> ?_,fun hn=> ?_⟩
    ·rcases hval x.2.2.1 x.2.2.2 with z|⟨l,e1,e2,e3,e4⟩
     ·rw [z.1] at hv;cases hv
     ·rw [e1] at hv
      cases hv;refine kQ _ _ ⟨l,kvs,rfl,sm.trans s12,s12.tups,s12 _ _ hF,by omega,e1,fun o m=> ?_,inj⟩;rcases hval o m with z|⟨l',f1,f2,f3,f4⟩
      ·exact .inl z
      ·exact .inr ⟨l',f1,f2.same s12,f3,f4⟩
    ·have kF:Kp f (upd (upd H2 p1 (.tup [V.int x.2.2.1,V.int x.2.2.2])) e (.lst [])) (upd (upd (upd H2 p1 (.tup [V.int x.2.2.1,V.int x.2.2.2])) e (.lst [])) f (.dT (putK kvs [Sum.inl x.2.2.1,Sum.inl x.2.2.2] (.ref e)))):=Kp.set
     have nef:e≠f:=fun z=>by rw [←z] at hF;rw [sp1 _ _ hF] at he;cases he
     have hFe:(upd (upd H2 p1 (.tup [V.int x.2.2.1,V.int x.2.2.2])) e (.lst [])) f=some (.dT kvs):=s12 _ _ hF;have he2:H2 e=none:=sp1.free he;have tF:∀a xs,(upd (upd H2 p1 (.tup [V.int x.2.2.1,V.int x.2.2.2])) e (.lst [])) a=some (HO.tup xs)->(upd (upd (upd H2 p1 (.tup [V.int x.2.2.1,V.int x.2.2.2])) e (.lst [])) f (.dT (putK kvs [Sum.inl x.2.2.1,Sum.inl x.2.2.2] (.ref e)))) a=some (HO.tup xs):=fun a xs h=>kF _ _ h (d_ h hFe (by intro z;cases z))
     have neq:∀o m:Int,([Sum.inl o,Sum.inl m]:List Key)=[Sum.inl x.2.2.1,Sum.inl x.2.2.2]↔o=x.2.2.1/\m=x.2.2.2:=fun o m=>by
      constructor
      ·intro z;injection z with z1 z2;injection z2 with z2 _;exact ⟨Sum.inl.inj z1,Sum.inl.inj z2⟩
      ·rintro ⟨rfl,rfl⟩;rfl
     refine kQ _ _ ⟨e,_,rfl,fun b o eb=>kF _ _ ((sm.trans s12) _ _ eb) (aA eb hf),fun a xs h=>tF _ _ (s12.tups _ _ h),ak, ?_,by rw [Am,if_pos rfl],fun o m=> ?_,fun o m o' m' l h1 h2=> ?_⟩
     ·exact Nat.le_trans (za ..) (by omega)
     ·rw [Am]
      by_cases q:o=x.2.2.1/\m=x.2.2.2
      ·rw [if_pos ((neq o m).mpr q)]
       obtain ⟨rfl,rfl⟩:=q;refine .inr ⟨e,rfl, ?_,sm.free he2,nef⟩;rcases hval x.2.2.1 x.2.2.2 with z|⟨l,e1,_⟩
       ·rw [z.2]
        exact ⟨[],kF _ _ ak nef,by simp [aR]⟩
       ·rw [e1] at hn;cases hn
      ·rw [if_neg fun z=>q ((neq o m).mp z)]
       rcases hval o m with z|⟨l',f1,f2,f3,f4⟩
       ·exact .inl z
       ·refine .inr ⟨l',f1, ?_,f3,f4⟩
        obtain ⟨ws,g1,g2⟩:=f2.same s12;exact ⟨ws,kF _ _ g1 f4,aR.keep tF _ (cY _ sG _) g2⟩
     ·rw [Am] at h1 h2
      have old:∀o m:Int,gF kvs [Sum.inl o,Sum.inl m]=some (V.ref e)->False:=fun o m h=>by
       rcases hval o m with z|⟨l',f1,⟨ws,g1,_⟩,f3,f4⟩
       ·rw [z.1] at h;cases h
       ·rw [f1] at h
        cases h;rw [he2] at g1;cases g1
      by_cases q:o=x.2.2.1/\m=x.2.2.2
      ·rw [if_pos ((neq o m).mpr q)] at h1
       cases h1
       by_cases q':o'=x.2.2.1/\m'=x.2.2.2
       ·exact ⟨q.1.trans q'.1.symm,q.2.trans q'.2.symm⟩
       ·rw [if_neg fun z=>q' ((neq o' m').mp z)] at h2
        exact (old _ _ h2).elim
      ·rw [if_neg fun z=>q ((neq o m).mp z)] at h1
       by_cases q':o'=x.2.2.1/\m'=x.2.2.2
       ·rw [if_pos ((neq o' m').mpr q')] at h2
        cases h2;exact (old _ _ h1).elim
       ·rw [if_neg fun z=>q' ((neq o' m').mp z)] at h2
        exact inj _ _ _ _ _ h1 h2
   ·rintro v H3 ⟨l,Gs,rfl,sm3,tp3,hF3,kl3,hkey,Yj,acF⟩
    obtain ⟨z0,PL,hl0,nlf⟩:∃z0:True,sS H3 l (dF (ns.take i) x.2.2.1 x.2.2.2)/\H l=none/\l≠f:=by
     rcases Yj x.2.2.1 x.2.2.2 with z|⟨l',f1,f2,f3,f4⟩
     ·rw [z.1] at hkey;cases hkey
     ·rw [f1] at hkey
      cases hkey;exact ⟨trivial,f2,f3,f4⟩
    obtain ⟨ws,hl3,dl3⟩:=id PL;refine ⟨.inl ⟨rfl,_,bL.of hl3⟩,_,rfl,_,rfl,_,_,rfl,cQ.of (tp3 _ _ hx2),ZM _ rfl,fun p2 hp2=> ?_⟩;have c1:sI (nV x) none (some 2)=[.int x.1,.int x.2.1]:=adn ..;rw [c1];have sp:=aJ (o:=HO.tup [V.int x.1,V.int x.2.1]) hp2
    have wl:ws.length<=ns.length:=by
     rw [dl3.length,List.length_map];unfold dF;rw [List.length_map];have a1:=List.length_filter_le (fun y:Nt=>decide (y.2.2.1=x.2.2.1)&&decide (y.2.2.2=x.2.2.2)) (ns.take i);have a2:(ns.take i).length<=ns.length:=by rw [List.length_take];omega
     omega
    refine ⟨l,ws,_,rfl,rfl,sp _ _ hl3,by rw [sizeLine_eq];omega, ?_⟩;have kL:Kp l (upd H3 p2 (.tup [V.int x.1,V.int x.2.1])) (upd (upd H3 p2 (.tup [V.int x.1,V.int x.2.1])) l (.lst (ws++[V.ref p2]))):=Kp.set;have tL:=kL.tups (sp _ _ hl3);refine ⟨_,Gs,rfl,fun b o eb=>kL _ _ (sp _ _ (sm3 _ _ eb)) (aA eb hl0),kL _ _ (sp _ _ hF3) nlf.symm,kl3,fun o m=> ?_,acF⟩;rw [tk,Dm]
    by_cases q:x.2.2.1=o/\x.2.2.2=m
    ·obtain ⟨rfl,rfl⟩:=q
     rw [if_pos ⟨rfl,rfl⟩];refine .inr ⟨l,hkey,⟨_,ak, ?_⟩,hl0,nlf⟩;rw [List.map_append];exact aR.append (aR.keep (fun a xs h=>tL _ _ (sp.tups _ _ h)) _ (cY _ sG _) dl3) (Nb (Ng (x:=ft x) (tL _ _ ak)))
    ·rw [if_neg q,List.append_nil]
     rcases Yj o m with z|⟨l',f1,f2,f3,f4⟩
     ·exact .inl z
     ·have nll:l'≠l:=fun z=>by
       subst z;obtain ⟨e1,e2⟩:=acF _ _ _ _ _ f1 hkey;exact q ⟨e1.symm,e2.symm⟩
      obtain ⟨us,g1,g2⟩:=f2;exact .inr ⟨l',f1,⟨us,kL _ _ (sp _ _ g1) nll,aR.keep (fun a xs h=>tL _ _ (sp.tups _ _ h)) _ (cY _ sG _) g2⟩,f3,f4⟩
  ·rintro σ H2 ⟨x0,kvs,rfl,sm,hF,kl,hval,inj⟩
   rw [nvl,List.take_length] at hval;refine ⟨_,rfl,k f H2 hf ⟨kvs,Yb hf hF,fun o m=> ?_⟩ sm⟩;rcases hval o m with z|⟨l,f1,⟨ws,g1,g2⟩,hl0,_⟩
   ·exact .inl z
   ·exact .inr ⟨l,f1,ws,Yb hl0 g1,aR.keep (fun a xs e=>Z0 e) _ (cY _ sG _) g2⟩
def Aw (K:PySem.W.Frag):Sp:=fun vs H Q _=>∃(t:Addr) (x:Nt),vs=[.ref t]/\H t=some (.tup (nV x)) /\ ∀H',Same H H'->Q (.bl (!decide (x.1=x.2.2.1))) H'
theorem KD {f:Addr} {fd:FuncData} (F:jY K "is_note" "is_note" iz f fd) (vG:FnAt P w K mg base 1 "is_whole" ["value"] (Vw K)) (Bt:rC mg):bV P w K mg base j4 2 f fd ["value"] (Aw K):=by
 refine F.ok Kd (fun vs H Q E h=> ?_) (fun cdv A outer s H vs Q E hr h=> ?_)
 ·obtain ⟨t,x,rfl,_⟩:=h
  rfl
 ·obtain ⟨t,x,rfl,ht,k⟩:=h
  have wK:=hr.units
  refine ⟨_,(aF (cJ (PW.pt (oh (gB (eO (aX (dh (K:=K) (cv:= .ty "tuple") (c:= .type "tuple") rfl rfl) (by rfl) Bt.bK bI (aj (pv 0) (aj (fJ (v:= .ty "tuple") (by rfl) Bt.zQ wQ rfl) aB))))) (mG (bG pJ (aX (aZ (K:=K) rfl) (by rfl) Bt.gk dY (aj (pv 0) aB)) aG (bA _))))) (aL (bF wu)) bN)
   (aL (bF (nH (aX (jf (K:=K) rfl rfl) (by rfl) Bt.Nj G7 (aj (gC rfl (N:=["number"]) (own:=["number"]) (caps:=[]) (bH.of (by kernel_rfl)) (V5 (K:=K) rfl (pv 0)) (fun _ _ _ _=>(bY (i:=0) (show List.Nodup (["number"]:List Str) by decide +kernel) rfl (Or.inl rfl))) (fun _ _ _ _=>fU) (fun _ _ _ _=>(b_ vG (hr.mono (by decide)) (by rfl) (aj (pv 0) aB)))) aB)) (qD (dU pJ (aY (bx (K:=K) rfl) (pv 0) aG (fun _ _=>rfl)) (aY (bx (K:=K) rfl) (pv 0) aG (fun _ _=>rfl)) (bA _))))))), ?_⟩
  refine ⟨_,rfl,_,_,true,rfl,.tup ht,jd K,true,rfl, ?_⟩;refine dz ?_;refine ⟨_,rfl,t,_,rfl,.inr (cQ.of ht),rfl,_,rfl, ?_⟩;refine wI (by rfl) ?_;refine ⟨_,rfl,t,rfl,⟨_,cQ.of ht⟩,fun D hD=> ?_⟩;refine PK (K:=K) (fun i=>some (.bl true)) hD ht (by show 4<=100000;decide) (fun i v H2 G F hi s2 kG kF=> ?_) (fun H2 s2 e2=> ?_)
  ·obtain ⟨z,rfl⟩:∃z,v=V.int z:=by
    have hm:=List.mem_of_getElem? hi;simp only [nV,List.mem_cons,List.not_mem_nil,or_false] at hm;rcases hm with rfl|rfl|rfl|rfl<;>exact ⟨_,rfl⟩
   exact ⟨_,rfl,z,rfl,kF _ H2 (Same.refl _) rfl⟩
  ·refine ⟨D,[true,true,true,true],rfl,bL.of e2,true,rfl, ?_⟩
   refine fM ?_;refine ⟨_,rfl,_,_,_,_,rfl,rfl,cQ.of (s2 _ _ ht),rfl,_,rfl,_,_,_,_,rfl,rfl,cQ.of (s2 _ _ ht),rfl,rfl, ?_⟩
   have e:(!decide (V.int x.1=V.int x.2.2.1))=(!decide (x.1=x.2.2.1)):=by
    by_cases q:x.1=x.2.2.1
    ·simp [q]
    ·simp [q]
   show Q (.bl (!decide (V.int x.1=V.int x.2.2.1))) H2;rw [e];exact k H2 s2
instance (cs:List Int) (x:Nt):Decidable (lK cs x):=by unfold lK;infer_instance
def lM (cs:List Int) (ns:List Nt):Prop:=∀x∈ns,lK cs x
def u_ (K:PySem.W.Frag):Sp:=fun vs H Q _=>∃(c t:Addr) (cs:List Int) (x:Nt),vs=[.ref c,.ref t]/\H c=some (.lst (cs.map V.int))/\H t=some (.tup (nV x))/\tu cs /\ ∀H',Same H H'->Q (.bl (decide (lK cs x))) H'
theorem Bw {f:Addr} {fd:FuncData} (F:jY K "is_between" "is_between" eE f fd) (fQ:FnAt P w K mg base 2 "is_below" ["value","count"] (tO K)) (Qn:FnAt P w K mg base 2 "is_note" ["value"] (Aw K)) (Bt:rC mg):bV P w K mg base j4 3 f fd ["counts","note"] (u_ K):=by
 refine F.ok Dh (fun vs H Q E h=> ?_) (fun cdv A outer s H vs Q E hr h=> ?_)
 ·obtain ⟨c,t,cs,x,rfl,_⟩:=h
  rfl
 ·obtain ⟨c,t,cs,x,rfl,hc,ht,Dq,k⟩:=h
  have wK:=hr.units
  refine ⟨_,(aF (cJ (PW.pt (oh (gB (eO (b_ Qn (hr.mono (by decide)) (by rfl) (aj (pv 1) aB)))) (oh (gB (eO (b_ fQ (hr.mono (by decide)) (by rfl) (aj (aY (bx (K:=K) rfl) (pv 1) aG (fun _ _=>rfl)) (aj (aX (aZ (K:=K) rfl) (by rfl) Bt.gk dY (aj (pv 0) aB)) aB))))) (mG (gB (eO (b_ fQ (hr.mono (by decide)) (by rfl) (aj (aY (bx (K:=K) rfl) (pv 1) aG (fun _ _=>rfl)) (aj (aX (aZ (K:=K) rfl) (by rfl) Bt.gk dY (aj (pv 0) aB)) aB))))))))) (aL (bF wu)) bN)
   (aL (bF (nH (b_ fQ (hr.mono (by decide)) (by rfl) (aj (aY (bx (K:=K) rfl) (pv 1) aG (fun _ _=>rfl)) (aj (aY (bB (K:=K) rfl) (pv 0) (aY (bx (K:=K) rfl) (pv 1) aG (fun _ _=>rfl)) (fun _ _=>rfl)) aB))) (qD (b_ fQ (hr.mono (by decide)) (by rfl) (aj (aY (bx (K:=K) rfl) (pv 1) aG (fun _ _=>rfl)) (aj (aY (bB (K:=K) rfl) (pv 0) (aY (bx (K:=K) rfl) (pv 1) aG (fun _ _=>rfl)) (fun _ _=>rfl)) aB)))))))), ?_⟩
  refine ⟨_,rfl,t,x,rfl,ht,fun H1 s1=>⟨_,rfl, ?_⟩⟩;have hc1:=s1 _ _ hc;have ht1:=s1 _ _ ht
  have no:¬lK cs x->Q (.bl false) H1:=fun z=>by
   have:=k H1 s1;rw [decide_eq_false z] at this;exact this
  by_cases hne:x.1=x.2.2.1
  ·rw [show (!decide (x.1=x.2.2.1))=false by simp [hne]]
   exact fM (no fun z=>z.2.2.2.2 hne)
  rw [show (!decide (x.1=x.2.2.1))=true by simp [hne]];refine dz ?_;refine ⟨_,rfl,_,_,_,_,rfl,rfl,cQ.of ht1,rfl,_,rfl,c,_,rfl,.inl (bL.of hc1),_,_,rfl,_,rfl, ?_⟩;rw [List.length_map]
  by_cases w1:BR x.1 cs.length
  rotate_left
  ·rw [decide_eq_false w1]
   exact fM (no fun z=>w1 z.1)
  rw [decide_eq_true w1];refine dz ?_;refine ⟨_,rfl,_,_,_,_,rfl,rfl,cQ.of ht1,rfl,_,rfl,c,_,rfl,.inl (bL.of hc1),_,_,rfl,_,rfl, ?_⟩;rw [List.length_map]
  by_cases w2:BR x.2.2.1 cs.length
  rotate_left
  ·rw [decide_eq_false w2]
   exact fM (no fun z=>w2 z.2.2.1)
  rw [decide_eq_true w2];refine dz ?_;have g1:=(Dq.gI x.1).1;have g2:=(Dq.gI x.2.2.1).1;have e1:gI cs x.1=((gI cs x.1).toNat:Int):=by omega
  have e2:gI cs x.2.2.1=((gI cs x.2.2.1).toNat:Int):=by omega
  refine ⟨_,rfl,_,_,_,_,rfl,rfl,cQ.of ht1,rfl,_,rfl,_,rfl,_,_,_,_,rfl,rfl,cQ.of ht1,rfl,_,_,_,_,rfl,rfl,bL.of hc1,lB w1.1 w1.2,x.2.1,(gI cs x.1).toNat,by rw [←e1];rfl,_,rfl, ?_⟩
  by_cases w3:BR x.2.1 (gI cs x.1).toNat
  rotate_left
  ·rw [decide_eq_false w3]
   refine dz ?_;exact no fun z=>w3 ⟨z.2.1.1,by have:=z.2.1.2;omega⟩
  rw [decide_eq_true w3];refine fM ?_;refine ⟨_,rfl,_,_,_,_,rfl,rfl,cQ.of ht1,rfl,_,rfl,_,rfl,_,_,_,_,rfl,rfl,cQ.of ht1,rfl,_,_,_,_,rfl,rfl,bL.of hc1,lB w2.1 w2.2,x.2.2.2,(gI cs x.2.2.1).toNat,by rw [←e2];rfl, ?_⟩
  have e:decide (BR x.2.2.2 (gI cs x.2.2.1).toNat)=decide (lK cs x):=by
   rw [Bool.eq_iff_iff,decide_eq_true_iff,decide_eq_true_iff];constructor
   ·intro z
    exact ⟨w1,⟨w3.1,by have:=w3.2;omega⟩,w2,⟨z.1,by have:=z.2;omega⟩,hne⟩
   ·intro z
    exact ⟨z.2.2.2.1.1,by have:=z.2.2.2.1.2;omega⟩
  rw [e];exact k H1 s1
def yj (CN:Addr) (K:PySem.W.Frag):Sp:=fun vs H Q E=>∃(t c a:Addr) (cs:List Int) (ns:List Nt),vs=[.ref t]/\RecAt H t c a cs ns/\tu cs/\ns.length<=200/\(lM cs ns -> ∀H',Same H H'->Q .non H')/\(¬lM cs ns -> ∀H',Same H H'->E (.ref CN) none H')
theorem zA {f:Addr} {fd:FuncData} (F:jY K "check_notes" "check_notes" dI f fd) (Ht:FnAt P w K mg base 3 "is_between" ["counts","note"] (u_ K)) (Bt:rC mg) {aM:Addr} (cZ:Xr K mg aM "NoNote"):bV P w K mg base (vH P w) 4 f fd ["record"] (yj aM K):=by
 refine F.Vb A_ (fun vs H Q E h=> ?_) (fun cdv A outer s H vs Q E hr h hR=> ?_)
 ·obtain ⟨t,c,a,cs,ns,rfl,_⟩:=h
  rfl
 ·obtain ⟨t,c,a,cs,ns,rfl,⟨ht,hc,hN⟩,ok,nl,k1,k2⟩:=h
  have wK:=hr.units;obtain ⟨vs,ha,dv⟩:=id hN;have vl:vs.length=ns.length:=by rw [dv.length,List.length_map]
  refine ⟨_,(aL (cJ (gB (eO (aX (jf (K:=K) rfl rfl) (by rfl) Bt.Nj G7 (aj (gC rfl (N:=["note","record"]) (own:=["note"]) (caps:=[0]) (bH.of (by kernel_rfl)) (fW (K:=K) rfl (aY (bx (K:=K) rfl) (pv 0) aG (fun _ _=>rfl))) (fun _ _ _ _=>(bY (i:=0) (show List.Nodup (["note","record"]:List Str) by decide +kernel) rfl (Or.inl rfl))) (fun _ _ _ _=>fU) (fun _ _ _ _=>(b_ Ht (hr.mono (by decide)) (by rfl) (aj (aY (bx (K:=K) rfl) (pv 1) aG (fun _ _=>rfl)) (aj (pv 0) aB))))) aB)))) (aL (jP PySem.F.excBase_ValueError cZ.ex cZ.bd (by rfl) rfl rfl hR (aj cT aB))) bN)), ?_⟩;refine ⟨_,rfl,_,_,_,_,rfl,rfl,cQ.of ht,rfl,a,rfl,⟨_,bL.of ha⟩,fun D hD=> ?_⟩;refine sJ (K:=K) (fun i=>(ns[i]?).map fun x=>V.bl (decide (lK cs x))) hD (bL.of ha) (by omega) (fun i v H2 G F hi s2 kG kF=> ?_) (fun H2 s2 e2=> ?_)
  ·obtain ⟨x,q,ex,rfl,hx⟩:=Gk dv hi
   exact ⟨_,rfl,_,_,_,_,rfl,rfl,cQ.of (s2 _ _ ht),rfl,_,rfl,c,q,cs,x,rfl,s2 _ _ hc,s2 _ _ hx,ok,fun H3 s3=>kF _ H3 s3 (by rw [ex];rfl)⟩
  rw [vl,GK] at e2;refine ⟨D,ns.map (fun x=>decide (lK cs x)),rfl,bL.of (by rw [e2,List.map_map];rfl),_,rfl, ?_⟩
  by_cases al:lM cs ns
  ·have ea:(ns.map (fun x=>decide (lK cs x))).all id=true:=by
    rw [List.all_map,List.all_eq_true];intro h hh;exact decide_eq_true (al h hh)
   rw [ea];refine dz ?_;exact k1 al H2 s2
  ·have ea:(ns.map (fun x=>decide (lK cs x))).all id=false:=by
    rw [List.all_map,←Bool.not_eq_true,List.all_eq_true];intro z;exact al fun h hh=>of_decide_eq_true (p:=lK cs h) (z h hh)
   rw [ea];refine fM ?_;exact ⟨(by show 1<=sizeLine;decide),k2 al H2 s2⟩
def Hv (cs ds:List Int):Prop:=ds.length=cs.length /\ ∀i:Int,0<=i->i<cs.length->0<=gI ds i/\gI ds i<=gI cs i
def Rg (K:PySem.W.Frag):Sp:=fun vs H Q _=>∃(d t:Addr) (ds:List Int) (h k:Int),vs=[.ref d,.ref t]/\H d=some (.lst (ds.map V.int))/\H t=some (.tup [.int h,.int k])/\0<=h/\h<ds.length/\Q (.bl (decide (k<gI ds h))) H
theorem ZW {f:Addr} {fd:FuncData} (F:jY K "has" "has" wg f fd):bV P w K mg base j4 1 f fd ["done","touch"] (Rg K):=by
 refine F.ok Zm (fun vs H Q E h=> ?_) (fun cdv A outer s H vs Q E hr h=> ?_)
 ·obtain ⟨d,t,ds,h,k,rfl,_⟩:=h
  rfl
 ·obtain ⟨d,t,ds,h,k,rfl,hd,ht,h0,h1,q⟩:=h
  refine ⟨_,(aL (bF (dU yW (aY (bx (K:=K) rfl) (pv 1) aG (fun _ _=>rfl)) (aY (bB (K:=K) rfl) (pv 0) (aY (bx (K:=K) rfl) (pv 1) aG (fun _ _=>rfl)) (fun _ _=>rfl)) (bA _)))), ?_⟩;exact ⟨_,rfl,_,_,_,_,rfl,rfl,cQ.of ht,rfl,_,rfl,_,rfl,_,_,_,_,rfl,rfl,cQ.of ht,rfl,_,_,_,_,rfl,rfl,bL.of hd,lB h0 h1,_,_,rfl,rfl,q⟩
def QM (hs:List bU) (k:Nat):Bool:=match hs[k]? with
 | some s=>decide (s.st = "waits")
 | none=>false
theorem TF {α:Type} (p:Nat->Bool) (f:Nat->α) (n:Nat):(List.range n).filterMap (fun i=>if p i then some (f i) else none)=((List.range n).filter p).map f:=by
 induction n with
 | zero=>rfl
 | succ n ih=>
   rw [eX,ih,List.range_succ,List.filter_append,List.map_append];congr 1;cases h:p n<;>simp [h]
def rpF (t f st pr:Addr):List (Str×V):=[("record",.ref t),("firsts",.ref f),("stage",.ref st),("progress",.ref pr)]
structure UG where
 (o dx t c a f pr:Addr) (W:JH)
structure pC (CR CW CH:Addr) (i ii:Nat) (τ:Tg) (H:Hp) (R:UG) (S:pO) (cs:List Int) (ns:List Nt) (gs:List Int):Prop where
 w:um CW CH i τ H R.W S
 o:H R.o=some (.ins CR R.dx (rpF R.t R.f R.W.o R.pr))
 to:τ R.o=[ii,7]
 pr:H R.pr=some (.lst (gs.map V.int))
 tp:τ R.pr=[ii,8]
 ne:ii≠i
 n0:ii≠0
 Zq:RecAt (rm τ H) R.t R.c R.a cs ns
 aax:nW (rm τ H) R.f ns
 ok:E_ cs ns
 lc:cs.length=S.hs.length
 dn:Hv cs gs
 gd:q_ S
 ml:S.m<=100
section
variable {CR CW CH:Addr} {i ii:Nat} {τ τ':Tg} {H H':Hp} {R:UG} {S:pO} {cs gs:List Int} {ns:List Nt}
theorem pC.rcd (r:pC CR CW CH i ii τ H R S cs ns gs):RecAt H R.t R.c R.a cs ns:=r.Zq.same (tH _ _)
theorem pC.fst (r:pC CR CW CH i ii τ H R S cs ns gs):nW H R.f ns:=r.aax.same (tH _ _)
theorem pC.mv (r:pC CR CW CH i ii τ H R S cs ns gs) (q:Mv i τ H τ' H') (q':Mv ii τ H τ' H') (u:pU τ' H'):pC CR CW CH i ii τ' H' R S cs ns gs:=by
 have e1:=q'.keep _ _ r.o (.inr (by rw [r.to];rfl));have e2:=q'.keep _ _ r.pr (.inr (by rw [r.tp];rfl));exact ⟨r.w.mv q u,e1.1,e1.2.trans r.to,e2.1,e2.2.trans r.tp,r.ne,r.n0,r.Zq.same (qx q),r.aax.same (qx q),r.ok,r.lc,r.dn,r.gd,r.ml⟩
theorem pC.same (r:pC CR CW CH i ii τ H R S cs ns gs) (k:Same H H'):pC CR CW CH i ii τ H' R S cs ns gs:=r.mv (Mv.of_same k) (Mv.of_same k) (r.w.un.same k)
end
def nJ (S:pO) (cs gs:List Int) (k:Nat):Bool:=decide (gI gs k=gI cs k) || !(QM S.hs k)
def qU (ns:List Nt) (gs:List Int) (k:Nat):List Nt:=((dF ns k (gI gs k)).filter fun q=> !decide (q.2<gI gs q.1)).map fun q=>(q.1,q.2,(k:Int),gI gs k)
def yc (CR CW CH:Addr) (K:PySem.W.Frag):Sp:=fun vs H Q _=>∃(i ii:Nat) (τ:Tg) (R:UG) (S:pO) (cs gs:List Int) (ns:List Nt),vs=[.ref R.o]/\pC CR CW CH i ii τ H R S cs ns gs /\ ∀l H',H l=none->H' l=some (.lst (gs.map V.int))->Same H H'->Q (.ref l) H'
theorem Ky {aC aq au:Addr} {f:Addr} {fd:FuncData} (F:jY K "counts" "Replay.counts" cP f fd) (aQ:eV K aC) (Bt:rC mg):bV P w K mg base j4 1 f fd ["self"] (yc aC aq au K):=by
 refine F.ok yu (fun vs H Q E h=> ?_) (fun cdv A outer s H vs Q E hr h=> ?_)
 ·obtain ⟨i,ii,τ,R,S,cs,gs,ns,rfl,_⟩:=h
  rfl
 ·obtain ⟨i,ii,τ,R,S,cs,gs,ns,rfl,r,k⟩:=h
  refine ⟨_,(aL (bF (cR (cC (K:=K) rfl) (by rfl) Bt.iU fV (aj (bC (K:=K) rfl (pv 0) rfl) aB)))), ?_⟩;exact ⟨_,rfl,R.o,aC,R.dx,_,_,rfl,r.o,aQ.cls,aQ.fP,rfl,R.pr,_,rfl,.inl (bL.of r.pr),fun l hl=>k l _ hl ak (aJ hl)⟩
def Fw (CR CW CH:Addr) (K:PySem.W.Frag):Sp:=fun vs H Q _=>∃(i ii:Nat) (τ:Tg) (R:UG) (S:pO) (cs gs:List Int) (ns:List Nt),vs=[.ref R.o]/\pC CR CW CH i ii τ H R S cs ns gs/\Q (.bl (decide (gs=cs))) H
theorem Sq {aC aq au:Addr} {f:Addr} {fd:FuncData} (F:jY K "done" "Replay.done" dR f fd) (aQ:eV K aC) (Bt:rC mg):bV P w K mg base j4 1 f fd ["self"] (Fw aC aq au K):=by
 refine F.ok Bg (fun vs H Q E h=> ?_) (fun cdv A outer s H vs Q E hr h=> ?_)
 ·obtain ⟨i,ii,τ,R,S,cs,gs,ns,rfl,_⟩:=h
  rfl
 ·obtain ⟨i,ii,τ,R,S,cs,gs,ns,rfl,r,k⟩:=h
  have wK:=hr.units;refine ⟨_,(aL (bF (dU (Gi (K:=K) rfl wK) (bC (K:=K) rfl (pv 0) rfl) (aY (bx (K:=K) rfl) (bC (K:=K) rfl (pv 0) rfl) aG (fun _ _=>rfl)) (bA _)))), ?_⟩;have rc:=r.rcd;refine ⟨_,rfl,R.o,aC,R.dx,_,_,rfl,r.o,aQ.cls,aQ.fP,rfl,_,rfl,R.o,aC,R.dx,_,_,rfl,r.o,aQ.cls,aQ.pK,rfl,_,_,_,_,rfl,rfl,cQ.of rc.1,rfl,_,_,jT r.pr,jT rc.2.1,shaped_ints _,shaped_ints _, ?_⟩;rw [if_neg Bool.false_ne_true,Jm PyData.int M6];exact k
def vP (CR CW CH:Addr) (K:PySem.W.Frag):Sp:=fun vs H Q _=>∃(i ii:Nat) (τ:Tg) (R:UG) (S:pO) (cs gs:List Int) (ns:List Nt) (k:Nat),vs=[.ref R.o,.int k]/\pC CR CW CH i ii τ H R S cs ns gs/\k<cs.length/\Q (.bl (nJ S cs gs k)) H
theorem Oo {aC aq au aH:Addr} {f:Addr} {fd:FuncData} (F:jY K "is_over" "Replay.is_over" cG f fd) (aQ:eV K aC) (aU:gK K aq) (JL:MethAt P w K mg base 4 aq "how" ["self","hand"] (fun vs H Q _=>Rf aq au aH K vs H Q fun _ _ _=>False)) (Bt:rC mg):bV P w K mg base j4 5 f fd ["self","hand"] (vP aC aq au K):=by
 refine F.ok vX (fun vs H Q E h=> ?_) (fun cdv A outer s H vs Q E hr h=> ?_)
 ·obtain ⟨i,ii,τ,R,S,cs,gs,ns,n,rfl,_⟩:=h
  rfl
 ·obtain ⟨i,ii,τ,R,S,cs,gs,ns,n,rfl,r,nl,k⟩:=h
  refine ⟨_,(aL (bF (acg (dU gj (aY (bB (K:=K) rfl) (bC (K:=K) rfl (pv 0) rfl) (pv 1) (fun _ _=>rfl)) (aY (bB (K:=K) rfl) (aY (bx (K:=K) rfl) (bC (K:=K) rfl (pv 0) rfl) aG (fun _ _=>rfl)) (pv 1) (fun _ _=>rfl)) (bA _)) (qD (dU pJ (dX JL aU.cls (hr.mono (by decide)) (bC (K:=K) rfl (pv 0) rfl) (aj (pv 1) aB)) cT (bA _)))))), ?_⟩;have rc:=r.rcd;have lg:=r.dn.1;refine ⟨_,rfl,R.o,aC,R.dx,_,_,rfl,r.o,aQ.cls,aQ.fP,rfl,_,rfl,_,_,_,_,rfl,rfl,bL.of r.pr,lB (by omega) (by omega),_,rfl,R.o,aC,R.dx,_,_,rfl,r.o,aQ.cls,aQ.pK,rfl,_,_,_,_,rfl,rfl,cQ.of rc.1,rfl,_,rfl,_,_,_,_,rfl,rfl,bL.of rc.2.1,lB (by omega) (by omega),rfl, ?_⟩;have nh:n<S.hs.length:=by rw [←r.lc];exact nl
  have es:S.hs[n]? = some S.hs[n]:=by simp [nh]
  by_cases e:gI gs n=gI cs n
  ·rw [decide_eq_true (by rw [e])]
   refine ⟨_,rfl,fM ?_⟩;have:nJ S cs gs n=true:=by unfold nJ;rw [decide_eq_true e];rfl
   rw [←this];exact k
  ·rw [decide_eq_false (fun z=>e (V.int.inj z))]
   refine ⟨_,rfl,dz ?_⟩;have inn:BR (n:Int) S.hs.length:=⟨by omega,by omega⟩;refine ⟨_,rfl,R.o,aC,R.dx,_,_,rfl,r.o,aQ.cls,aQ.Gn,rfl,R.W.o,R.W.dx,_,rfl,r.w.o,rfl,_,rfl,i,τ,R.W,S,_,rfl,r.w,fun k3 t3 e3 e3'=> ?_,fun z=>absurd inn z⟩
   obtain rfl:t3=S.hs[n]:=by
    have:k3=n:=by omega
    subst this;rw [es] at e3';exact (Option.some.inj e3').symm
   refine ⟨rfl, ?_⟩
   have:nJ S cs gs n = !decide (V.str S.hs[n].st=V.str (Str.ofString "waits")):=by
    unfold nJ QM;rw [decide_eq_false e,es]
    by_cases q:S.hs[n].st=Str.ofString "waits"
    ·simp only [q];rfl
    ·have:¬V.str S.hs[n].st=V.str (Str.ofString "waits"):=fun z=>q (V.str.inj z)
     show (false || !decide (S.hs[n].st=Str.ofString "waits"))=_;rw [decide_eq_false q,decide_eq_false this];rfl
   rw [this] at k;exact k
def FJ (CR CW CH:Addr) (K:PySem.W.Frag):Sp:=fun vs H Q _=>∃(i ii:Nat) (τ:Tg) (R:UG) (S:pO) (cs gs:List Int) (ns:List Nt) (k:Nat),vs=[.ref R.o,.int k]/\pC CR CW CH i ii τ H R S cs ns gs/\k<cs.length /\ ∀l H',H l=none->ur H' l (qU ns gs k)->Same H H'->Q (.ref l) H'
theorem KJ {aC aq au:Addr} {f:Addr} {fd:FuncData} (F:jY K "holding" "Replay.holding" cH f fd) (aQ:eV K aC) (aek:FnAt P w K mg base 1 "has" ["done","touch"] (Rg K)) (Bt:rC mg):bV P w K mg base j4 2 f fd ["self","hand"] (FJ aC aq au K):=by
 refine F.ok n_ (fun vs H Q E h=> ?_) (fun cdv A outer s H vs Q E hr h=> ?_)
 ·obtain ⟨i,ii,τ,R,S,cs,gs,ns,n,rfl,_⟩:=h
  rfl
 ·obtain ⟨i,ii,τ,R,S,cs,gs,ns,n,rfl,r,nl,k⟩:=h
  have hu:=Yk hr
  refine ⟨_,(aF (bM (i:=2) n_.nd rfl (Or.inr rfl) (jQ (aj (pv 1) (aj (aY (bB (K:=K) rfl) (bC (K:=K) rfl (pv 0) rfl) (pv 1) (fun _ _=>rfl)) aB))))
   (aL (bF (gC rfl (N:=["first","touch","self"]) (own:=["first"]) (caps:=[2,0]) (bH.of (by kernel_rfl)) (fW (K:=K) rfl (RP hu (bC (K:=K) rfl (pv 0) rfl) (pv 2) (fO aB) ⟨rfl,rfl,rfl,rfl⟩)) (fun _ _ _ _=>(bY (i:=0) (show List.Nodup (["first","touch","self"]:List Str) by decide +kernel) rfl (Or.inl rfl))) (fun _ _ _ _=>(zN (gB (eO (b_ aek (hr.mono (by decide)) (by rfl) (aj (bC (K:=K) rfl (pv 2) rfl) (aj (pv 0) aB))))))) (fun _ _ _ _=>(bR R0 (pv 0) (pv 1))))))), ?_⟩
  have lg:=r.dn.1;refine ⟨_,rfl,_,rfl,R.o,aC,R.dx,_,_,rfl,r.o,aQ.cls,aQ.fP,rfl,_,rfl,_,_,_,_,rfl,rfl,bL.of r.pr,lB (by omega) (by omega),(by show 2<=sizeLine;decide),fun t ht=> ?_⟩;have s1:=aJ (o:=HO.tup [V.int n,V.int (gI gs n)]) ht;have r1:=r.same s1;obtain ⟨kvs,hF,hval⟩:=r1.fst;refine ⟨_,rfl,R.o,aC,R.dx,_,_,rfl,r1.o,aQ.cls,aQ.Iu,rfl,R.f,rfl,.inr ⟨_,.inl hF⟩,_,rfl,(by show 0<=sizeLine;decide),fun el hel=> ?_⟩;have s2:=aJ (o:=HO.lst []) hel;have s12:=s1.trans s2;refine ⟨_,U8.t (k:=[Sum.inl (n:Int),Sum.inl (gI gs n)]) (s2 _ _ hF) (s2 _ _ ak), ?_⟩
  obtain ⟨l,el',PL⟩:∃l,(gF kvs [Sum.inl (n:Int),Sum.inl (gI gs n)]).getD (V.ref el) = .ref l/\sS (upd (upd H t (.tup [V.int n,V.int (gI gs n)])) el (.lst [])) l (dF ns n (gI gs n)):=by
   rcases hval n (gI gs n) with z|⟨l,e1,e2⟩
   ·exact ⟨el,by rw [z.1];rfl,by rw [z.2];exact ⟨[],ak,by simp [aR]⟩⟩
   ·exact ⟨l,by rw [e1];rfl,e2.same s2⟩
  rw [el'];obtain ⟨vs,hl,dv⟩:=id PL;have vl:vs.length=(dF ns n (gI gs n)).length:=by rw [dv.length,List.length_map]
  have fl:(dF ns n (gI gs n)).length<=ns.length:=by unfold dF;rw [List.length_map];exact List.length_filter_le ..
  have nsl:=r.ok.2.1;have ht2:(upd (upd H t (.tup [V.int n,V.int (gI gs n)])) el (.lst [])) t=some (.tup [V.int n,V.int (gI gs n)]):=s2 _ _ ak;have r2:=r1.same s2;generalize (upd (upd H t (.tup [V.int n,V.int (gI gs n)])) el (.lst []))=H2 at s12 hl dv PL ht2 r2 s2 ⊢;refine ⟨l,rfl,⟨_,bL.of hl⟩,fun D hD=> ?_⟩;refine P0 (K:=K) (fun i=>((dF ns n (gI gs n))[i]?).bind fun q=>if !decide (q.2<gI gs q.1) then some (nD (q.1,q.2,(n:Int),gI gs n)) else none) (fun i dd e=> ?_) hD (bL.of hl) (by omega) (fun i v H3 G F hi s3 kG kF=> ?_) (fun H3 ws s3 e3 d3=> ?_)
  ·cases ex:(dF ns n (gI gs n))[i]? with
   | none=>rw [ex] at e;cases e
   | some x=>
     rw [ex,Option.bind_some] at e;split at e
     ·cases e;rfl
     ·cases e
  ·obtain ⟨q,u,eq,rfl,hq⟩:=V2 dv hi
   obtain ⟨x,xm,rfl⟩:∃x∈ns,q=ft x:=by
    obtain ⟨x,hx,e⟩:=List.mem_map.mp (List.mem_of_getElem? eq);exact ⟨x,(List.mem_filter.mp hx).1,e.symm⟩
   obtain ⟨⟨h0,h1⟩,⟨k0,k1⟩,⟨o0,o1⟩,⟨m0,m1⟩,hne⟩:=r.ok.2.2 x xm;have r3:=r2.same s3;have hq3:=s3 _ _ hq;simp only [eq,Option.bind_some] at kG kF;refine ⟨_,rfl,R.o,aC,R.dx,_,_,rfl,r3.o,aQ.cls,aQ.fP,rfl,_,rfl,R.pr,u,gs,_,_,rfl,r3.pr,hq3,h0,by rw [lg];exact h1,_,rfl, ?_⟩
   by_cases w:(ft x).2<gI gs (ft x).1
   ·rw [decide_eq_true w]
    refine dz ?_;exact kG _ (Same.refl _) (by simp [w])
   ·rw [decide_eq_false w]
    refine fM ?_;refine ⟨_,rfl,_,rfl,u,t,_,_,rfl,rfl,hq3,s3 _ _ ht2,by show 2+2<=sizeLine;decide,fun p H4 hp s4=> ?_⟩;exact kF _ (nD ((ft x).1,(ft x).2,(n:Int),gI gs n)) _ s4 (by simp [w]) (GQ hp)
  ·rw [vl,GP (fun q:Nu=> !decide (q.2<gI gs q.1)) (fun q:Nu=>nD (q.1,q.2,(n:Int),gI gs n))] at d3
   refine k D H3 (s12.free hD) ⟨ws,e3, ?_⟩ (s12.trans s3);unfold qU;rw [List.map_map];exact d3
def Tw (S:pO) (cs:List Int) (ns:List Nt) (gs:List Int):List Nat:=(List.range cs.length).filter fun k=> !nJ S cs gs k&&(qU ns gs k).isEmpty
def Fv (CR CW CH:Addr) (K:PySem.W.Frag):Sp:=fun vs H Q _=>∃(i ii:Nat) (τ:Tg) (R:UG) (S:pO) (cs gs:List Int) (ns:List Nt),vs=[.ref R.o]/\pC CR CW CH i ii τ H R S cs ns gs /\ ∀l H',H l=none->H' l=some (.lst ((Tw S cs ns gs).map fun k:Nat=>V.int k))->Same H H'->Q (.ref l) H'
theorem Sg {aC aq au:Addr} {f:Addr} {fd:FuncData} (F:jY K "free" "Replay.free" dO f fd) (aQ:eV K aC) (lD:MethAt P w K mg base 5 aC "is_over" ["self","hand"] (vP aC aq au K)) (lE:MethAt P w K mg base 2 aC "holding" ["self","hand"] (FJ aC aq au K)) (Bt:rC mg):bV P w K mg base j4 6 f fd ["self"] (Fv aC aq au K):=by
 refine F.ok Bf (fun vs H Q E h=> ?_) (fun cdv A outer s H vs Q E hr h=> ?_)
 ·obtain ⟨i,ii,τ,R,S,cs,gs,ns,rfl,_⟩:=h
  rfl
 ·obtain ⟨i,ii,τ,R,S,cs,gs,ns,rfl,r,k⟩:=h
  refine ⟨_,(aL (bF (gC rfl (N:=["hand","self"]) (own:=["hand"]) (caps:=[0]) (bH.of (by kernel_rfl)) (jt (by rfl) Bt.mY (aj (aX (aZ (K:=K) rfl) (by rfl) Bt.gk dY (aj (bC (K:=K) rfl (pv 0) rfl) aB)) aB)) (fun _ _ _ _=>(bY (i:=0) (show List.Nodup (["hand","self"]:List Str) by decide +kernel) rfl (Or.inl rfl))) (fun _ _ _ _=>(zN (PW.pt (Ko (gB (eO (dX lD aQ.cls (hr.mono (by decide)) (pv 1) (aj (pv 0) aB)))) (Gb (gB (yw (K:=K) rfl (dX lE aQ.cls (hr.mono (by decide)) (pv 1) (aj (pv 0) aB))))))))) (fun _ _ _ _=>(pv 0))))), ?_⟩;have lg:=r.dn.1;have c8:=r.ok.1.1;refine ⟨_,rfl,R.o,aC,R.dx,_,_,rfl,r.o,aQ.cls,aQ.fP,rfl,R.pr,_,rfl,.inl (bL.of r.pr),_,rfl,by rw [List.length_map];omega,by rw [List.length_map];omega,fun D hD=> ?_⟩;rw [List.length_map,Int.toNat_natCast,lg];refine t_ (fun j=>if !nJ S cs gs j&&(qU ns gs j).isEmpty then some (.int (j:Nat)) else none) hD (by omega) (fun j H1 G F hj s1 kG kF=> ?_) (fun H1 s1 e1=> ?_)
  ·have r1:=r.same s1
   refine ⟨_,rfl,R.o,R.dx,_,rfl,r1.o,rfl,_,rfl,i,ii,τ,R,S,cs,gs,ns,j,by rw [Int.zero_add];rfl,r1,hj,_,rfl, ?_⟩;cases eo:nJ S cs gs j with
   | true=>
     refine dz ?_;exact kG H1 (Same.refl _) (by rw [eo];rfl)
   | false=>
     refine fM ?_;refine ⟨_,rfl,R.o,R.dx,_,rfl,r1.o,rfl,_,rfl,i,ii,τ,R,S,cs,gs,ns,j,by rw [Int.zero_add];rfl,r1,hj,fun l H2 fl N2 s2=> ?_⟩;obtain ⟨ws,hl,dw⟩:=N2;have wl:ws.length=(qU ns gs j).length:=by rw [dw.length,List.length_map]
     have eb:ws.isEmpty=(qU ns gs j).isEmpty:=by
      cases ws<;>cases h:qU ns gs j<;>rw [h] at wl<;>first |rfl|(simp at wl)
     refine ⟨!ws.isEmpty,.inl ⟨ws,bL.of hl,rfl⟩, ?_⟩;rw [eb];cases eh:(qU ns gs j).isEmpty with
     | true=>
       refine fM ?_;exact ⟨_,rfl,kF _ H2 s2 (by rw [eo,eh,Int.zero_add];rfl)⟩
     | false=>
       refine dz ?_;exact kG H2 s2 (by rw [eo,eh];rfl)
  ·rw [TF (fun j=> !nJ S cs gs j&&(qU ns gs j).isEmpty) (fun j:Nat=>V.int j)] at e1
   exact k D H1 hD e1 s1
def VH (cs gs:List Int) (k:Nat):List Nu:=(List.range (gI cs k - gI gs k).toNat).map fun j:Nat=>((k:Int),gI gs k+(j:Int))
def rZ (cs gs:List Int) (n:Nat):List Nu:=(List.range n).flatMap (VH cs gs)
def J_ (CR CW CH:Addr) (K:PySem.W.Frag):Sp:=fun vs H Q _=>∃(i ii:Nat) (τ:Tg) (R:UG) (S:pO) (cs gs:List Int) (ns:List Nt),vs=[.ref R.o]/\pC CR CW CH i ii τ H R S cs ns gs /\ ∀l H',H l=none->sS H' l (rZ cs gs cs.length)->Same H H'->Q (.ref l) H'
theorem vh (cs gs:List Int) (n:Nat):rZ cs gs (n+1)=rZ cs gs n++VH cs gs n:=by
 unfold rZ;rw [List.range_succ,List.flatMap_append];simp
theorem Wn {aC aq au:Addr} {f:Addr} {fd:FuncData} (F:jY K "left" "Replay.left" dM f fd) (aQ:eV K aC) (Bt:rC mg):bV P w K mg base j4 1 f fd ["self"] (J_ aC aq au K):=by
 refine F.ok jH (fun vs H Q E h=> ?_) (fun cdv A outer s H vs Q E hr h=> ?_)
 ·obtain ⟨i,ii,τ,R,S,cs,gs,ns,rfl,_⟩:=h
  rfl
 ·obtain ⟨i,ii,τ,R,S,cs,gs,ns,rfl,r,k⟩:=h
  refine ⟨_,(aF (bM (i:=1) jH.nd rfl (Or.inl rfl) (fO aB))
   (aF (yx PassesOwn.never rfl (Ry (K:=K) rfl (by rfl) Bt.JF (aj (aY (bx (K:=K) rfl) (bC (K:=K) rfl (pv 0) rfl) aG (fun _ _=>rfl)) aB)) (Gf (K:=K) (n:=2) rfl rfl (lG (bY (i:=2) jH.nd rfl (Or.inr rfl)) (lG (bY (i:=3) jH.nd rfl (Or.inl rfl)) Ge)))
   (aL (fH (Bq (K:=K) rfl PySem.F.plainAttrs_list PySem.F.slot_list_extend PySem.F.type_list_extend OJ (pv 1) (aj (gC rfl (N:=["k","hand"]) (own:=["k"]) (caps:=[2]) (bH.of (by kernel_rfl)) (Og (by rfl) Bt.mY (aj (aY (bB (K:=K) rfl) (bC (K:=K) rfl (pv 0) rfl) (pv 2) (fun _ _=>rfl)) (aj (pv 3) aB))) (fun _ _ _ _=>(bY (i:=0) (show List.Nodup (["k","hand"]:List Str) by decide +kernel) rfl (Or.inl rfl))) (fun _ _ _ _=>fU) (fun _ _ _ _=>(jQ (aj (pv 1) (aj (pv 0) aB))))) aB)))))
   (aL (bF (pv 1))))), ?_⟩
  have lg:=r.dn.1;have c8:=r.ok.1.1;refine ⟨(by show 0<=sizeLine;decide),fun l hl=> ?_⟩;have sl:=aJ (o:=HO.lst []) hl;have r1:=r.same sl;have rc:=r1.rcd;refine ⟨_,rfl,R.o,aC,R.dx,_,_,rfl,r1.o,aQ.cls,aQ.pK,rfl,_,_,_,_,rfl,rfl,cQ.of rc.1,rfl,R.c,_,rfl,bL.of rc.2.1, ?_⟩;refine Tz (K:=K) (xs:=cs.map V.int) (fun j σ Hc=>∃(x2 x3:Option V) (ps:List Nu),σ=[some (.ref R.o),some (.ref l),x2,x3]/\Same H Hc/\sS Hc l (rZ cs gs j)) ?_ ?_ ?_ ?_
  ·exact ⟨none,none,[],rfl,sl,[],ak,by simp [rZ,aR]⟩
  ·rintro j σ Hc _ ⟨x2,x3,ps,rfl,sc,_⟩
   exact bL.of ((r.same sc).rcd.2.1)
  ·rintro j x σ Hc p hj ⟨x2,x3,ps,rfl,sc,PL⟩ hp
   rw [List.getElem?_map] at hj
   obtain ⟨c,ec,rfl⟩:∃c,cs[j]? = some c/\x = .int c:=by
    cases e:cs[j]? with
    | none=>rw [e] at hj;cases hj
    | some c=>rw [e] at hj;exact ⟨c,rfl,(Option.some.inj hj).symm⟩
   have jl:=(List.getElem?_eq_some_iff.mp ec).1;have gc:gI cs j=c:=GF ec;subst gc;have gb:=r.dn.2 j (by omega) (by omega);have cb:=r.ok.1.gI j;have sp:=aJ (o:=HO.tup [V.int (j:Int),V.int (gI cs j)]) hp;have r2:=r.same (sc.trans sp);obtain ⟨ws,hlw,dw⟩:=PL.same sp;refine ⟨p,_,rfl,cQ.of ak,rfl,_,_,rfl,_,_,rfl,rfl, ?_⟩;dsimp only [gO];refine ⟨_,rfl,.inl ⟨rfl,_,bL.of hlw⟩,_,rfl,R.o,aC,R.dx,_,_,rfl,r2.o,aQ.cls,aQ.fP,rfl,_,rfl,_,_,_,_,rfl,rfl,bL.of r2.pr,lB (by omega) (by omega),_,rfl,_,_,rfl,⟨by omega,by omega,by omega,by omega⟩,fun D hD=> ?_⟩
   have ll:ws.length<=8*300:=by
    rw [dw.length,List.length_map]
    have:∀n,n<=cs.length->(rZ cs gs n).length<=n*300:=fun n=>by
     induction n with
     | zero=>intro _;simp [rZ]
     | succ n ih=>
       intro h;have:=ih (by omega);have cb':=r.ok.1.gI n;have gb':=r.dn.2 n (by omega) (by omega);rw [vh,List.length_append];unfold VH;rw [List.length_map,List.length_range];omega
    have:=this j (by omega);omega
   have sD:=aJ (o:=HO.lst []) hD;refine nQ (lo:=gI gs j) (n:=(gI cs j - gI gs j).toNat) (fun m σ Hd=>(∃v,σ=[v,some (.int j)])/\Same (upd Hc p (.tup [V.int j,V.int (gI cs j)])) Hd/\sS Hd D ((List.range m).map fun x:Nat=>((j:Int),gI gs j+(x:Int)))) ?_ ?_ ?_
   ·exact ⟨⟨none,rfl⟩,sD,[],ak,by simp [aR]⟩
   ·rintro m σ Hd hm ⟨⟨v,rfl⟩,sd,us,hus,du⟩
    dsimp only [gO,Fj];rw [if_pos rfl];refine ⟨_,rfl,_,rfl,(by show 2<=sizeLine;decide),fun q hq=> ?_⟩;have sq:=aJ (o:=HO.tup [V.int j,V.int (gI gs j+m)]) hq;have ul:us.length=m:=by rw [du.length];simp
    have kp:Kp D (upd Hd q (.tup [V.int j,V.int (gI gs j+m)])) (upd (upd Hd q (.tup [V.int j,V.int (gI gs j+m)])) D (.lst (us++[V.ref q]))):=Kp.set;have tp:=kp.tups (sq _ _ hus);refine ⟨us,sq _ _ hus,by rw [ul,sizeLine_eq];omega,⟨_,rfl⟩,(sd.trans sq).newly hD,us++[V.ref q],ak, ?_⟩;rw [List.range_succ,List.map_append,List.map_append];exact Es (aR.keep (fun a xs h=>tp _ _ (sq.tups _ _ h)) _ (cY _ sG _) du) (Ng (x:=((j:Int),gI gs j+(m:Int))) (tp _ _ ak))
   ·rintro σ Hd ⟨⟨v,rfl⟩,sd,us,hus,du⟩
    have ul:us.length<=300:=by rw [du.length];simp;omega
    refine ⟨l,D,ws,us,rfl,rfl,sd _ _ hlw,hus,by rw [sizeLine_eq];omega, ?_⟩;have Yo:=sd _ _ hlw;have kp:Kp l Hd (upd Hd l (.lst (ws++us))):=Kp.set;have tp:=kp.tups Yo;refine ⟨_,_,[],rfl,fun x o e=>kp _ _ (sd _ _ (sp _ _ (sc _ _ e))) (aA e hl),ws++us,ak, ?_⟩;rw [vh,List.map_append];exact aR.append (aR.keep (fun a xs h=>tp _ _ (sd.tups _ _ h)) _ (cY _ sG _) dw) (aR.keep tp _ (cY _ sG _) du)
  ·rintro σ Hc ⟨x2,x3,ps,rfl,sc,PL⟩
   rw [List.length_map] at PL;exact ⟨_,rfl,k l Hc hl PL sc⟩
def J8 (CR CW CH:Addr) (K:PySem.W.Frag):Sp:=fun vs H Q _=>∃(i ii:Nat) (τ:Tg) (R:UG) (S:pO) (cs gs:List Int) (ns:List Nt),vs=[.ref R.o]/\pC CR CW CH i ii τ H R S cs ns gs /\ ∀H',Same H H'->Q (.int (cs.sum - gs.sum)) H'
theorem O9 {cs gs:List Int} (d:Hv cs gs):((rZ cs gs cs.length).length:Int)=cs.sum - gs.sum:=by
 have take:∀(l:List Int) (n:Nat),n<l.length->(l.take (n+1)).sum=(l.take n).sum+gI l n:=fun l n h=>by
  rw [GF (List.getElem?_eq_getElem h),List.take_add_one,List.getElem?_eq_getElem h,List.sum_append];show _+([l[n]]:List Int).sum=_;rw [List.sum_cons,List.sum_nil,Int.add_zero]
 have:∀n,n<=cs.length->((rZ cs gs n).length:Int)=(cs.take n).sum - (gs.take n).sum:=fun n=>by
  induction n with
  | zero=>intro _;simp [rZ]
  | succ n ih=>
    intro h;have e:=ih (by omega);have gb:=d.2 n (by omega) (by omega);rw [vh,List.length_append,take cs n (by omega),take gs n (by rw [d.1];omega)];unfold VH;rw [List.length_map,List.length_range];omega
 have e:=this cs.length (Nat.le_refl _);rw [List.take_length] at e;rw [e,←d.1,List.take_length]
theorem Wk {aC aq au:Addr} {f:Addr} {fd:FuncData} (F:jY K "__len__" "Replay.__len__" cI f fd) (aQ:eV K aC) (Dz:MethAt P w K mg base 1 aC "left" ["self"] (J_ aC aq au K)) (Bt:rC mg):bV P w K mg base j4 2 f fd ["self"] (J8 aC aq au K):=by
 refine F.ok vY (fun vs H Q E h=> ?_) (fun cdv A outer s H vs Q E hr h=> ?_)
 ·obtain ⟨i,ii,τ,R,S,cs,gs,ns,rfl,_⟩:=h
  rfl
 ·obtain ⟨i,ii,τ,R,S,cs,gs,ns,rfl,r,k⟩:=h
  refine ⟨_,(aL (bF (aX (aZ (K:=K) rfl) (by rfl) Bt.gk dY (aj (fX Dz aQ.cls (hr.mono (by decide)) (pv 0)) aB)))), ?_⟩;refine ⟨_,rfl,R.o,R.dx,_,rfl,r.o,rfl,i,ii,τ,R,S,cs,gs,ns,rfl,r,fun l H1 fl PL s1=> ?_⟩;obtain ⟨ws,hl,dw⟩:=PL;refine ⟨l,_,rfl,.inl (bL.of hl), ?_⟩;rw [dw.length,List.length_map,O9 r.dn];exact k H1 s1
def St2 (i ii:Nat) (τ:Tg) (H H':Hp):Prop:=∃H1,rF i τ H H1/\rF ii τ H1 H'
def qQ (gs:List Int) (k:Nat):List Int:=gs.set k (gI gs k+1)
def Ft (CR CW CH CN CO:Addr) (K:PySem.W.Frag):Sp:=fun vs H Q E=>∃(i ii:Nat) (τ:Tg) (R:UG) (S:pO) (cs gs:List Int) (ns:List Nt) (h:Int),vs=[.ref R.o,.int h]/\pC CR CW CH i ii τ H R S cs ns gs/\S.ts.length<=9000 /\
 (∀k:Nat,h=k->nJ S cs gs k=false->qU ns gs k=[]) /\
 (∀(k:Nat) (s:bU) (r:Rw) (t:Addr) (H':Hp),h=k->k<cs.length->nJ S cs gs k=false->S.hs[k]? = some s->s.st = "waits" -> s.rws[s.pos]? = some r->touch r=true->H t=none->H' t=some (.tup (J2 S.ns s.bs r))->pC CR CW CH i ii τ H' R (nu S k) cs ns (qQ gs k)->St2 i ii τ H H'->Q (.ref t) H') /\
 (¬BR h cs.length->E (.ref CN) none H)/\(∀k:Nat,h=k->k<cs.length->nJ S cs gs k=true->E (.ref CO) none H)
theorem NT (S:pO) (k:Nat):(nu S k).hs.length=S.hs.length:=by
 unfold nu;split
 ·rfl
 ·split
  ·rfl
  ·simp
theorem Vi (S:pO) (k:Nat):(nu S k).m=S.m:=by
 unfold nu;split
 ·rfl
 ·split<;>rfl
theorem R_ {aC aq au:Addr} {f:Addr} {fd:FuncData} (F:jY K "turn" "Replay.turn" dJ f fd) {aM aH bh aO bD dg cg:Addr} (cZ:Xr K mg aM "NoNote") (bT:Xr K mg aH "NoHand") (lC:Xr K mg bh "Over") (iu:Xr K mg aO "NoNumber") (dj:Xo K mg aM bD "NoteError" true) (vD:Xo K mg aM dg "Held" false) (qP:Xo K mg aM cg "NoCut" false) (gH:bZ K aM aH false) (iY:bZ K aM bh false) (oG:bZ K aM aO false) (gJ:bZ K aH aM false) (iZ:bZ K aH bh false) (oH:bZ K aH aO false) (cA:bZ K aH bD true) (i_:bZ K aH dg false) (iw:bZ K aH cg false) (uo:bZ K bh aM false) (uq:bZ K bh aH false) (qW:bZ K bh aO false) (pP:bZ K bh bD true) (zx:bZ K bh dg false) (xq:bZ K bh cg false) (oE:bZ K aO aM false) (oF:bZ K aO aH false) (qX:bZ K aO bh false) (lJ:bZ K aO bD true) (qY:bZ K aO dg false) (pQ:bZ K aO cg false) (aQ:eV K aC) (aU:gK K aq) (fQ:FnAt P w K mg base 2 "is_below" ["value","count"] (tO K)) (lD:MethAt P w K mg base 5 aC "is_over" ["self","hand"] (vP aC aq au K)) (lE:MethAt P w K mg base 2 aC "holding" ["self","hand"] (FJ aC aq au K)) (Hr:jU P w K mg base 7 aq "turn" ["self","hand"] (J5 aq au aH bh K)) (Bt:rC mg):bV P w K mg base (vH P w) 8 f fd ["self","hand"] (Ft aC aq au aH bh K):=by
 refine F.Vb nA (fun vs H Q E h=> ?_) (fun cdv A outer s H vs Q E hr h hR=> ?_)
 ·obtain ⟨i,ii,τ,R,S,cs,gs,ns,h,rfl,_⟩:=h
  rfl
 ·obtain ⟨i,ii,τ,R,S,cs,gs,ns,h,rfl,r,tl,nh,k1,k2,k3⟩:=h
  refine ⟨_,(aF (cJ (gB (eO (b_ fQ (hr.mono (by decide)) (by rfl) (aj (pv 1) (aj (aX (aZ (K:=K) rfl) (by rfl) Bt.gk dY (aj (bC (K:=K) rfl (pv 0) rfl) aB)) aB))))) (aL (jP PySem.F.excBase_ValueError bT.ex bT.bd (by rfl) rfl rfl hR (aj cT aB))) bN)
   (aF (cJ (eO (dX lD aQ.cls (hr.mono (by decide)) (pv 0) (aj (pv 1) aB))) (aL (jP PySem.F.excBase_ValueError lC.ex lC.bd (by rfl) rfl rfl hR (aj cT aB))) bN)
   (aF (bM (i:=2) nA.nd rfl (Or.inl rfl) (dX lE aQ.cls (hr.mono (by decide)) (pv 0) (aj (pv 1) aB)))
   (aF (cJ (yw (K:=K) rfl (pv 2)) (aL Rv) bN)
   (aF (bM (i:=3) nA.nd rfl (Or.inl rfl) (wk Hr aU.cls rfl hR (hr.mono (by decide)) (bC (K:=K) rfl (pv 0) rfl) (aj (pv 1) aB)))
   (aF (V1 (bC (K:=K) rfl (pv 0) rfl) (pv 1) (Kr (K:=K) rfl) aG Gw set_list)
   (aL (bF (pv 3))))))))), ?_⟩
  have lg:=r.dn.1;refine ⟨_,rfl,_,rfl,R.o,aC,R.dx,_,_,rfl,r.o,aQ.cls,aQ.fP,rfl,R.pr,_,rfl,.inl (bL.of r.pr),h,_,rfl,_,rfl, ?_⟩;rw [List.length_map,lg]
  by_cases hh:BR h cs.length
  ·rw [decide_eq_true hh]
   refine dz ?_;obtain ⟨n,rfl⟩:=Int.eq_ofNat_of_zero_le hh.1;have nl:n<cs.length:=by have:=hh.2;omega
   refine ⟨_,rfl,R.o,R.dx,_,rfl,r.o,rfl,_,rfl,i,ii,τ,R,S,cs,gs,ns,n,rfl,r,nl,_,rfl, ?_⟩;cases eo:nJ S cs gs n with
   | true=>
     refine fM ?_;exact ⟨(by show 1<=sizeLine;decide),k3 n rfl nl eo⟩
   | false=>
     refine dz ?_;refine ⟨_,rfl,R.o,R.dx,_,rfl,r.o,rfl,_,rfl,i,ii,τ,R,S,cs,gs,ns,n,rfl,r,nl,fun l H1 fl N1 s1=> ?_⟩;obtain ⟨ws,hl,dw⟩:=N1;have wl:ws.length=(qU ns gs n).length:=by rw [dw.length,List.length_map]
     rw [nh n rfl eo] at wl;have we:ws=[]:=List.eq_nil_of_length_eq_zero wl;refine ⟨_,rfl, !ws.isEmpty,.inl ⟨ws,bL.of hl,rfl⟩, ?_⟩;rw [we];refine dz ?_;have r1:=r.same s1;have nS:n<S.hs.length:=by rw [←r.lc];exact nl
     have es:S.hs[n]? = some S.hs[n]:=by simp [nS]
     have wt:S.hs[n].st = "waits" :=by
      unfold nJ QM at eo;rw [es,Bool.or_eq_false_iff] at eo;have:=eo.2;simpa using this
     have inn:BR (n:Int) S.hs.length:=⟨by omega,by omega⟩
     have one:∀(k':Nat) (t:bU),(n:Int)=k'->S.hs[k']? = some t->t=S.hs[n]/\k'=n:=fun k' t e1 e2=>by
      have:k'=n:=by omega
      subst this;rw [es] at e2;exact ⟨(Option.some.inj e2).symm,rfl⟩
     refine ⟨_,rfl,R.o,aC,R.dx,_,_,rfl,r1.o,aQ.cls,aQ.Gn,rfl,R.W.o,R.W.dx,_,rfl,r1.w.o,rfl,_,rfl,i,τ,R.W,S,_,rfl,r1.w,by omega,fun k' t' r' tt H2 e1 e2 wt' er' tr' tf tk w2 st2=> ?_,fun z=>absurd inn z,fun k' t' e1 e2 z=>absurd (by rw [(one k' t' e1 e2).1];exact wt) z⟩;obtain ⟨e3,e4⟩:=one k' t' e1 e2;subst e4;have gb:=r.dn.2 k' (by omega) (by omega);have e5:=r1.n0;have hpr:=st2.keep _ _ r1.pr (by rw [r1.tp];intro z;exact r1.ne (Option.some.inj z));have ho2:=st2.keep _ _ r1.o (by rw [r1.to];intro z;exact r1.ne (Option.some.inj z));refine ⟨_,rfl,R.o,aC,R.dx,_,_,rfl,ho2,aQ.cls,aQ.fP,rfl,_,rfl,R.pr,_,_,_,rfl,rfl,bL.of hpr,by omega,(by rw [Int.toNat_natCast,List.getElem?_map,List.getElem?_eq_getElem (by omega)];rfl),_,_,rfl,rfl,R.pr,_,_,_,rfl,rfl,hpr,Wz (by omega) (by rw [List.length_map];omega), ?_⟩;have gl:k'<gs.length:=by omega
     have gg:gI gs k'=gs[k']:=GF (List.getElem?_eq_getElem gl)
     have em:(gs.map V.int).set ((k':Int)).toNat (.int (gs[k']+1))=(qQ gs k').map V.int:=by
      unfold qQ;rw [gg,List.map_set,Int.toNat_natCast]
     rw [em];have st3:rF ii τ H2 (upd H2 R.pr (.lst ((qQ gs k').map V.int))):=rF.set (by rw [r1.tp];rfl) hpr (by intro xs z;cases z);have st1:rF i τ H H2:=(rF.of_same s1).trans st2
     have ne1:gI gs k'≠gI cs k':=by
      unfold nJ at eo;rw [Bool.or_eq_false_iff] at eo;exact of_decide_eq_false eo.1
     have ft:H tt=none:=s1.free tf
     have dn3:Hv cs (qQ gs k'):=by
      refine ⟨by unfold qQ;rw [List.length_set];exact lg,fun x x0 x1=> ?_⟩;have:=r.dn.2 x x0 x1;have e:=aaw (cs:=gs) (h:=(k':Int)) (k:=x) (v:=gI gs k'+1) (by omega) (by omega) x0;rw [Int.toNat_natCast] at e;unfold qQ;rw [e];split
      ·rename_i z
       subst z;omega
      ·exact this
     refine ⟨_,rfl,k1 k' t' r' tt _ rfl nl eo e2 wt' er' tr' ft ?_ ?_ ⟨H2,st1,st3⟩⟩
     ·exact st3.tup _ _ tk
     ·have ns':Same (rm τ H) (rm τ (upd H2 R.pr (.lst ((qQ gs k').map V.int)))):=(jG st1 r.w.i0).trans (jG st3 r.n0)
      refine ⟨w2.mv (Mv.o_ st3 r.ne r.n0) (st3.un w2.un), ?_,r.to,ak,r.tp,r.ne,r.n0,r.Zq.same ns',r.aax.same ns',r.ok,by rw [NT];exact r.lc,dn3,r.gd.turn k',by rw [Vi];exact r.ml⟩;rw [aD (d_ ho2 hpr (by intro z;cases z))];exact ho2
  ·rw [decide_eq_false hh]
   refine fM ?_;exact ⟨(by show 1<=sizeLine;decide),k2 hh⟩
def vO (CR CW CH CN CT:Addr) (K:PySem.W.Frag):Sp:=fun vs H Q E=>∃(i i' ii:Nat) (τ:Tg) (o dx t c a:Addr) (W:JH) (S:pO) (cs:List Int) (ns:List Nt),vs=[.ref o,.ref W.o,.ref t]/\H o=some (.ins CR dx [])/\τ o=[]/\um CW CH i τ H W S/\q_ S/\S.m<=100/\RecAt H t c a cs ns/\tu cs/\ns.length<=60/\(lM cs ns->E_ cs ns)/\i'≠0/\ii≠0/\ii≠i'/\ii≠i /\
 (lM cs ns->cs.length=S.hs.length -> ∀(τ':Tg) (R:UG) (ns':List Nt) (H':Hp),R.o=o->ns'.Perm ns->Xv ns'->pC CR CW CH i' ii τ' H' R S cs ns' (List.replicate cs.length 0)->(∀x u,H x=some u->x≠o->τ' x=τ x)->Kp o H H'->Q .non H') /\
 (lM cs ns->cs.length≠S.hs.length -> ∀H',Same H H'->E (.ref CN) none H')/\(¬lM cs ns -> ∀H',Same H H'->E (.ref CT) none H')
theorem Sd {aC aq au:Addr} {f:Addr} {fd:FuncData} (F:jY K "__init__" "Replay.__init__" dN f fd) {aH aM:Addr} (bT:Xr K mg aH "NoHand") (aQ:eV K aC) (aU:gK K aq) (DK:xr P w K mg base 4 "check_notes" ["record"] (yj aM K)) (nR:MethAt P w K mg base 1 aq "counts" ["self"] (vR aq au K)) (JN:FnAt P w K mg base 1 "firsts_of" ["record"] (Ax K)) (Hq:MethAt P w K mg base 9 aq "twin" ["self"] (J3 aq au K)) (Bt:rC mg):bV P w K mg base (vH P w) 10 f fd ["self","works","record"] (vO aC aq au aH aM K):=by
 refine F.Vb Bd (fun vs H Q E h=> ?_) (fun cdv A outer s H vs Q E hr h hR=> ?_)
 ·obtain ⟨i,i',ii,τ,o,dx,t,c,a,W,S,cs,ns,rfl,_⟩:=h
  rfl
 ·obtain ⟨i,i',ii,τ,o,dx,t,c,a,W,S,cs,ns,rfl,ho,to,w,gd,ml,R,Dq,nl,Mi,i0,K9,iin,iio,k1,k2,k3⟩:=h
  refine ⟨_,(aF (fH (RK DK rfl hR (hr.mono (by decide)) (by rfl) (aj (pv 2) aB)))
   (aF (cJ (bG pJ (aX (aZ (K:=K) rfl) (by rfl) Bt.gk dY (aj (aY (bx (K:=K) rfl) (pv 2) aG (fun _ _=>rfl)) aB)) (aX (aZ (K:=K) rfl) (by rfl) Bt.gk dY (aj (fX nR aU.cls (hr.mono (by decide)) (pv 1)) aB)) (bA _)) (aL (jP PySem.F.excBase_ValueError bT.ex bT.bd (by rfl) rfl rfl hR (aj cT aB))) bN)
   (aF (dB (K:=K) rfl (pv 0) (jQ (aj (cR (cC (K:=K) rfl) (by rfl) Bt.iU fV (aj (aY (bx (K:=K) rfl) (pv 2) aG (fun _ _=>rfl)) aB)) (aj (aX (JB (K:=K) rfl) (by rfl) Bt.Uy Qe (aj (aY (bx (K:=K) rfl) (pv 2) aG (fun _ _=>rfl)) aB)) aB))) rfl)
   (aF (dB (K:=K) rfl (pv 0) (b_ JN (hr.mono (by decide)) (by rfl) (aj (bC (K:=K) rfl (pv 0) rfl) aB)) rfl)
   (aF (dB (K:=K) rfl (pv 0) (fX Hq aU.cls (hr.mono (by decide)) (pv 1)) rfl)
   (aL (dB (K:=K) rfl (pv 0) (gC rfl (N:=["count"]) (own:=["count"]) (caps:=[]) (bH.of (by kernel_rfl)) (fW (K:=K) rfl (aY (bx (K:=K) rfl) (bC (K:=K) rfl (pv 0) rfl) aG (fun _ _=>rfl))) (fun _ _ _ _=>(bY (i:=0) (show List.Nodup (["count"]:List Str) by decide +kernel) rfl (Or.inl rfl))) (fun _ _ _ _=>fU) (fun _ _ _ _=>aG)) rfl))))))), ?_⟩
  refine ⟨_,rfl,t,c,a,cs,ns,rfl,R,Dq,by omega,fun al H1 s1=> ?_,k3⟩;have ok:=Mi al;have k1:=k1 al;have k2:=k2 al;have R1:=R.same s1;have w1:=w.same s1;refine ⟨_,rfl,_,_,_,_,rfl,rfl,cQ.of R1.1,rfl,c,_,rfl,.inl (bL.of R1.2.1),_,rfl,W.o,W.dx,_,rfl,w1.o,rfl,i,τ,W,S,rfl,w1,fun l H2 fl el s2=>⟨l,_,rfl,.inl (bL.of el),rfl,_,rfl, ?_⟩⟩;have s12:=s1.trans s2;have cl:(P_ S).length=S.hs.length:=by unfold P_;simp
  rw [List.length_map,List.length_map,cl]
  by_cases hl:cs.length=S.hs.length
  ·refine cU (fun q=>absurd q (by rw [hl,decide_eq_true rfl];decide)) (fun _=> ?_)
   have ho2:=s12 _ _ ho;have w2':=w.same s12;have R2:=R.same s12;have B2:Bs H τ o (aV τ o [ii,7]) H2:=⟨fun x e=>by rw [aW (aA ho2 e).symm];exact w2'.un x e,Kp.of_same s12,fun x u e n=>aW n⟩
   have w2:um aq au i (aV τ o [ii,7]) H2 W S:=w2'.mv ⟨fun x u e t=>⟨e,aW (fun z=>by
    rw [z,to] at t;rcases t with t|t<;>cases t)⟩,fun x xs e=>e⟩ B2.un
   have to2:aV τ o [ii,7] o=[ii,7]:=bJ;generalize aV τ o [ii,7]=τ2 at B2 w2 to2;clear w2' R1 w1;refine ⟨_,rfl,_,_,_,_,rfl,rfl,cQ.of R2.1,rfl,c,_,rfl,.inl (bL.of R2.2.1),fun c3 hc3=> ?_⟩;have s3:=aJ (o:=HO.lst (cs.map V.int)) hc3;have ec3:(upd H2 c3 (.lst (cs.map V.int))) c3=some (.lst (cs.map V.int)):=ak;have R3:=R2.same s3;have B3:=B2.claim (t:=[0]) s3 hc3 ⟨_,ec3⟩;have w3:=w2.mv (Mv.claim (p:=c3) (t:=[0]) s3 hc3) B3.un;have ho3:=s3 _ _ ho2;have to3:aV τ2 c3 [0] o=[ii,7]:=by rw [aW (aA ho2 hc3)];exact to2
   have tc3:aV τ2 c3 [0] c3=[0]:=bJ;generalize (upd H2 c3 (.lst (cs.map V.int)))=H3 at s3 ec3 R3 B3 w3 ho3 ⊢;generalize aV τ2 c3 [0]=τ3 at B3 w3 to3 tc3;refine ⟨_,rfl,_,_,_,_,rfl,rfl,cQ.of R3.1,rfl, ?_⟩;dsimp only [Vs];refine Rh (K:=K) R3.2.2 (by omega) fun a4 ns' H4 fa4 N4 pm srt s4=> ?_
   have hp4:∃u,H4 a4=some u:=by
    obtain ⟨vs,e,_⟩:=N4;exact ⟨_,e⟩
   have B4:=B3.claim (t:=[0]) s4 fa4 hp4;have w4:=w3.mv (Mv.claim (p:=a4) (t:=[0]) s4 fa4) B4.un;have ho4:=s4 _ _ ho3;have ec4:=s4 _ _ ec3;have to4:aV τ3 a4 [0] o=[ii,7]:=by rw [aW (aA ho3 fa4)];exact to3
   have tc4:aV τ3 a4 [0] c3=[0]:=by rw [aW (aA ec3 fa4)];exact tc3
   have ta4:aV τ3 a4 [0] a4=[0]:=bJ;generalize aV τ3 a4 [0]=τ4 at B4 w4 to4 tc4 ta4;refine ⟨(by show 2<=sizeLine;decide),fun t5 ht5=> ?_⟩;have s5:=aJ (o:=HO.tup [V.ref c3,V.ref a4]) ht5;have R5:RecAt (upd H4 t5 (.tup [V.ref c3,V.ref a4])) t5 c3 a4 cs ns':=⟨ak,s5 _ _ ec4,N4.same s5⟩;have B5:=B4.same s5;have w5:=w4.same s5;have Vf:=s5 _ _ ho4;generalize (upd H4 t5 (.tup [V.ref c3,V.ref a4]))=H5 at s5 R5 B5 w5 Vf ⊢;have ok':E_ cs ns':=⟨ok.1,by rw [pm.length_eq];exact ok.2.1,fun x hx=>ok.2.2 x (pm.mem_iff.mp hx)⟩;refine ⟨_,rfl,o,aC,dx,_,rfl,Vf,aQ.cls,aQ.pK,(by decide), ?_⟩
   have afT:∀(τ:Tg) (H:Hp) (v:HO),pU τ H->pU τ (upd H o v):=fun τ H v u=>u.dom fun y e=>by
    by_cases z:y=o
    ·rw [z,ak] at e;cases e
    ·rw [aD z] at e;exact e
   have ho6:(upd H5 o (.ins aC dx (cL "record" (.ref t5) []))) o=some (.ins aC dx [("record",.ref t5)]):=ak;have st6:rF ii τ4 H5 (upd H5 o (.ins aC dx (cL "record" (.ref t5) []))):=rF.set (by rw [to4];rfl) Vf (by intro xs z;cases z);have B6:Bs H τ o τ4 (upd H5 o (.ins aC dx (cL "record" (.ref t5) []))):=B5.set (.inl rfl);have w6:=w5.mv (Mv.o_ st6 iio K9) B6.un
   have r5:RecAt (rm τ4 H5) t5 c3 a4 cs ns':=by
    obtain ⟨vs,e1,e2⟩:=R5.2.2;exact ⟨rN R5.1,vL tc4 R5.2.1,vs,vL ta4 e1,aR.keep (fun a xs e=>rN e) _ (cY _ pA _) e2⟩
   have r6:=r5.same (jG st6 K9);generalize (upd H5 o (.ins aC dx (cL "record" (.ref t5) [])))=H6 at ho6 st6 B6 w6 r6 ⊢;refine ⟨_,rfl,o,aC,dx,_,_,rfl,ho6,aQ.cls,aQ.pK,rfl,t5,c3,a4,cs,ns',rfl,r6.same (tH _ _),ok',fun f H7 hf F7 s7=> ?_⟩;have un7:=YT s7 B6.un;have tg7:∀x u,H6 x=some u->Qp τ4 H6 H7 x=τ4 x:=fun x u e=>Vo e;have B7:Bs H τ o (Qp τ4 H6 H7) H7:=⟨un7,B6.kp.trans (Kp.of_same s7),fun x u e n=>(tg7 x u (B6.kp _ _ e n)).trans (B6.tg x u e n)⟩;have w7:=w6.mv (Mv.tags s7 tg7) un7;have r7:=r6.same (qx (i:=0) (Mv.tags s7 tg7));have f7:nW (rm (Qp τ4 H6 H7) H7) f ns':=F7.same Z1;have ho7:=s7 _ _ ho6;have to7:Qp τ4 H6 H7 o=[ii,7]:=(tg7 _ _ ho6).trans to4;generalize Qp τ4 H6 H7=τ7 at un7 tg7 B7 w7 r7 f7 to7;refine ⟨_,rfl,o,aC,dx,_,rfl,ho7,aQ.cls,aQ.Iu,(by show 1<1000;decide), ?_⟩;have W3:(upd H7 o (.ins aC dx (cL "firsts" (.ref f) [("record",.ref t5)]))) o=some (.ins aC dx [("record",.ref t5),("firsts",.ref f)]):=ak;have st8:rF ii τ7 H7 (upd H7 o (.ins aC dx (cL "firsts" (.ref f) [("record",.ref t5)]))):=rF.set (by rw [to7];rfl) ho7 (by intro xs z;cases z);have B8:Bs H τ o τ7 (upd H7 o (.ins aC dx (cL "firsts" (.ref f) [("record",.ref t5)]))):=B7.set (.inl rfl);have w8:=w7.mv (Mv.o_ st8 iio K9) B8.un;have r8:=r7.same (jG st8 K9);have f8:=f7.same (jG st8 K9);generalize (upd H7 o (.ins aC dx (cL "firsts" (.ref f) [("record",.ref t5)])))=H8 at W3 st8 B8 w8 r8 f8 ⊢;refine ⟨_,rfl,W.o,W.dx,_,rfl,w8.o,rfl,i,i',τ7,W,S,rfl,w8,gd,ml,i0,fun τ9 W' H9 w9 tg9 s9=> ?_⟩;have B9:Bs H τ o τ9 H9:=⟨w9.un,B8.kp.trans (Kp.of_same s9),fun x u e n=>(tg9 x u (B8.kp _ _ e n)).trans (B8.tg x u e n)⟩;have r9:=r8.same (qx (i:=0) (Mv.tags s9 tg9));have f9:=f8.same (qx (i:=0) (Mv.tags s9 tg9));have ho9:=s9 _ _ W3;have to9:τ9 o=[ii,7]:=(tg9 _ _ W3).trans to7;refine ⟨_,rfl,o,aC,dx,_,rfl,ho9,aQ.cls,aQ.Gn,(by show 2<1000;decide), ?_⟩;have hoa:(upd H9 o (.ins aC dx (cL "stage" (.ref W'.o) [("record",.ref t5),("firsts",.ref f)]))) o=some (.ins aC dx [("record",.ref t5),("firsts",.ref f),("stage",.ref W'.o)]):=ak;have sta:rF ii τ9 H9 (upd H9 o (.ins aC dx (cL "stage" (.ref W'.o) [("record",.ref t5),("firsts",.ref f)]))):=rF.set (by rw [to9];rfl) ho9 (by intro xs z;cases z);have Ba:Bs H τ o τ9 (upd H9 o (.ins aC dx (cL "stage" (.ref W'.o) [("record",.ref t5),("firsts",.ref f)]))):=B9.set (.inl rfl);have wa:=w9.mv (Mv.o_ sta iin K9) Ba.un;have ra:=r9.same (jG sta K9);have fa:=f9.same (jG sta K9);generalize (upd H9 o (.ins aC dx (cL "stage" (.ref W'.o) [("record",.ref t5),("firsts",.ref f)])))=Ha at hoa sta Ba wa ra fa ⊢;have raH:=ra.same (tH _ _);refine ⟨_,rfl,o,aC,dx,_,_,rfl,hoa,aQ.cls,aQ.pK,rfl,_,_,_,_,rfl,rfl,cQ.of raH.1,rfl,c3,rfl,⟨_,bL.of raH.2.1⟩,fun D hD=> ?_⟩;refine sJ (K:=K) (fun _=>some (.int 0)) hD (bL.of raH.2.1) (by rw [List.length_map];have:=ok.1.1;omega) (fun j v H3 G F hi s3 kG kF=>kF _ H3 (Same.refl _) rfl) (fun Hb sb eb=> ?_);rw [GJ,List.length_map] at eb;have Bb:=Ba.claim (t:=[ii,8]) sb hD ⟨_,eb⟩;have qb:∀m,Mv m τ9 Ha (aV τ9 D [ii,8]) Hb:=fun m=>Mv.claim sb hD;have wb:=wa.mv (qb i') Bb.un;have rb:=ra.same (qx (qb 0));have fb:=fa.same (qx (qb 0));have hob:=sb _ _ hoa;have tob:aV τ9 D [ii,8] o=[ii,7]:=by rw [aW (aA hoa hD)];exact to9
   have tDb:aV τ9 D [ii,8] D=[ii,8]:=bJ;generalize aV τ9 D [ii,8]=τb at Bb qb wb rb fb tob tDb;refine ⟨_,rfl,o,aC,dx,_,rfl,hob,aQ.cls,aQ.fP,(by show 3<1000;decide), ?_⟩;have stc:rF ii τb Hb (upd Hb o (.ins aC dx (cL "progress" (.ref D) [("record",.ref t5),("firsts",.ref f),("stage",.ref W'.o)]))):=rF.set (by rw [tob];rfl) hob (by intro xs z;cases z);have Bc:Bs H τ o τb (upd Hb o (.ins aC dx (cL "progress" (.ref D) [("record",.ref t5),("firsts",.ref f),("stage",.ref W'.o)]))):=Bb.set (.inl rfl);refine k1 hl τb ⟨o,dx,t5,c3,a4,f,D,W'⟩ ns' _ rfl pm srt ⟨wb.mv (Mv.o_ stc iin K9) Bc.un,ak,tob, ?_,tDb,iin,K9,rb.same (jG stc K9),fb.same (jG stc K9),ok',hl, ?_,gd,ml⟩ Bc.tg Bc.kp
   ·rw [aD (aA hoa hD).symm]
    exact eb
   ·refine ⟨by simp,fun x x0 x1=> ?_⟩
    have e:gI (List.replicate cs.length 0) x=0:=by
     unfold gI;rw [List.getElem?_replicate];split<;>rfl
    rw [e];exact ⟨Int.le_refl _,(ok.1.gI x).1⟩
  ·refine cU (fun _=> ?_) (fun q=>absurd ?_ q)
   ·exact ⟨(by show 1<=sizeLine;decide),k2 hl H2 s12⟩
   ·have:¬V.int (cs.length:Int)=V.int (S.hs.length:Int):=fun z=>hl (by have:=V.int.inj z;omega)
    rw [decide_eq_false this];rfl
theorem RT.set {τ:Tg} {H:Hp} {r x:Addr} {o u:HO} (h:RT τ H r) (e:H x=some o) (t:τ x≠[]):RT τ (upd H x u) r:=by
 obtain ⟨n,f⟩:=h.off x o e t;refine ⟨h.R.set n f,fun y v ey ty=> ?_,fun y ey=> ?_⟩
 ·by_cases z:y=x
  ·subst z
   exact ⟨n,f.set n⟩
  ·rw [aD z] at ey
   obtain ⟨n',f'⟩:=h.off y v ey ty;exact ⟨n',f'.set n⟩
 ·by_cases z:y=x
  ·rw [z,ak] at ey;cases ey
  ·rw [aD z] at ey;exact h.un y ey
def ZC (S:pO) (o:List Nat):pO:=o.foldl nu S
def V3 (n:Nat) (o:List Nat):List Int:=o.foldl qQ (List.replicate n 0)
theorem Ih (S:pO) (o:List Nat) (k:Nat):ZC S (o++[k])=nu (ZC S o) k:=by unfold ZC;rw [List.foldl_append];rfl
theorem Ii (n:Nat) (o:List Nat) (k:Nat):V3 n (o++[k])=qQ (V3 n o) k:=by unfold V3;rw [List.foldl_append];rfl
def jr (S:pO) (cs:List Int) (ns:List Nt) (o:List Nat):List Nat:=Tw (ZC S o) cs ns (V3 cs.length o)
structure Qw (i ii jj:Nat) (τ:Tg) (H:Hp) (τ':Tg) (H':Hp):Prop where
 keep:∀x o,H x=some o->(τ x).head?≠some i->(τ x).head?≠some ii->(τ x).head?≠some jj->H' x=some o/\τ' x=τ x
 tup:∀x xs,H x=some (.tup xs)->H' x=some (.tup xs)
section
variable {i ii jj:Nat} {τ τ':Tg} {H H':Hp}
theorem Qw.claim {p:Addr} {t:List Nat} (k:Same H H') (hp:H p=none):Qw i ii jj τ H (aV τ p t) H':=⟨fun x o e _ _ _=>⟨k _ _ e,aW (aA e hp)⟩,fun x xs e=>k _ _ e⟩
theorem Qw.st2 (k:St2 i ii τ H H'):Qw i ii jj τ H τ H':=by
 obtain ⟨H1,a,b⟩:=k;exact ⟨fun x o e n m _=>⟨b.keep _ _ (a.keep _ _ e n) m,rfl⟩,fun x xs e=>b.tup _ _ (a.tup _ _ e)⟩
theorem Qw.stp (k:rF jj τ H H'):Qw i ii jj τ H τ H':=⟨fun x o e _ _ m=>⟨k.keep _ _ e m,rfl⟩,fun x xs e=>k.tup _ _ e⟩
end
theorem HX:∀{ls:List Int} {i:Nat} {x:Int},ls[i]? = some x -> ∀y,(ls.set i y).sum=ls.sum - x+y
 | [],i,x,h,y=>by simp at h
 | z::ls,0,x,h,y=>by
   cases h;rw [List.set_cons_zero,List.sum_cons,List.sum_cons];omega
 | z::ls,i+1,x,h,y=>by
   rw [List.set_cons_succ,List.sum_cons,List.sum_cons,HX (by simpa using h) y];omega
theorem N8 {gs:List Int} {k:Nat} (h:k<gs.length):(qQ gs k).sum=gs.sum+1:=by
 unfold qQ
 have e:gs[k]? = some (gI gs k):=by
  obtain ⟨z,hz⟩:∃z,gs[k]? = some z:=⟨_,List.getElem?_eq_getElem h⟩;rw [hz,GF hz]
 rw [HX e];omega
theorem Cg {cs gs:List Int} (d:Hv cs gs):gs.sum<=cs.sum:=by
 obtain ⟨l,b⟩:=d
 have:∀(cs gs:List Int),gs.length=cs.length->(∀i:Nat,i<cs.length->gI gs i<=gI cs i)->gs.sum<=cs.sum:=fun cs=>by
  induction cs with
  | nil=>intro gs h _;cases gs with
    | nil=>exact Int.le_refl _
    | cons _ _=>cases h
  | cons c cs ih=>
    intro gs h b;cases gs with
    | nil=>cases h
    | cons g gs=>
      rw [List.sum_cons,List.sum_cons];have h0:g<=c:=b 0 (by simp);have:=ih gs (Nat.succ.inj h) fun i hi=>b (i+1) (by simp;omega);omega
 exact this cs gs l fun i hi=>(b i (by omega) (by omega)).2
theorem Ma {cs:List Int} (ok:tu cs):cs.sum<=2400:=by
 have:∀(l:List Int),(∀c∈l,0<=c/\c<=300)->l.sum<=300*l.length:=fun l=>by
  induction l with
  | nil=>intro _;exact Int.le_refl _
  | cons c l ih=>
    intro h;have:=ih fun d hd=>h d (by simp [hd]);have:=(h c (by simp)).2;rw [List.sum_cons,List.length_cons];omega
 have:=this cs ok.2;have:=ok.1;omega
theorem YM (S:pO) (k:Nat):(nu S k).ts.length<=S.ts.length+1:=by
 unfold nu;split
 ·omega
 ·split
  ·omega
  ·show (_++_:List Int).length<=_
   rw [List.length_append];exact Nat.le_refl _
def Ar (P:Program) (w:World) (mg:Str->Option Value) (base:Heap) (kk:Nat) (CW CH CN CT:Addr) (K:PySem.W.Frag):Sp:=fun vs H Q E=>∃(i i' ii jj:Nat) (τ:Tg) (t c a f:Addr) (W:JH) (S:pO) (cs:List Int) (ns:List Nt) (Wi:List Nat->Tg->Hp->Prop),
 vs=[.ref W.o,.ref t,.ref f]/\um CW CH i τ H W S/\q_ S/\S.m<=100/\S.ts.length<=6000/\RecAt H t c a cs ns/\tu cs/\ns.length<=60/\(lM cs ns->E_ cs ns)/\i'≠0/\ii≠0/\ii≠i'/\ii≠i/\jj≠i'/\jj≠ii/\jj≠0 /\
 (¬lM cs ns -> ∀H',Same H H'->E (.ref CT) none H') /\
 (lM cs ns->cs.length≠S.hs.length -> ∀H',Same H H'->E (.ref CN) none H') /\
 (lM cs ns->cs.length=S.hs.length -> ∀ns',ns'.Perm ns->Xv ns' ->
   (∀τ1 H1,Same H H1->(∀x u,H x=some u->τ1 x=τ x)->pU τ1 H1->Wi [] τ1 H1) /\
   (∀o τ1 H1 τ2 H2,Wi o τ1 H1->Qw i' ii jj τ1 H1 τ2 H2->pU τ2 H2->Wi o τ2 H2) /\
   (∀o τ1 H1 l,o.length<=2400->Wi o τ1 H1->pU τ1 H1->jr S cs ns' o≠[]->H1 l=none->yS P w K mg base kk f [.ref l] (upd H1 l (.lst ((jr S cs ns' o).map fun k:Nat=>V.int k))) fun v H2=>∃(h:Int) (τ2:Tg),v = .int h/\Mv i' τ1 H1 τ2 H2/\Mv ii τ1 H1 τ2 H2/\Mv jj τ1 H1 τ2 H2/\pU τ2 H2 /\
     (∀k:Nat,h=k->k∈jr S cs ns' o->Wi (o++[k]) τ2 H2)/\((∀k:Nat,h=k->k∉jr S cs ns' o) -> ∀H3,Same H2 H3->E (.ref CN) none H3)) /\
   (∀o τ1 H1 l,Wi o τ1 H1->pU τ1 H1->jr S cs ns' o=[]->H1 l=some (.lst (o.map fun k:Nat=>V.int k))->H l=none->Q (.ref l) H1))
theorem Ol {aC aq au aH aM bh:Addr} {f:Addr} {fd:FuncData} (F:jY K "played" "played" jJ f fd) (bT:Xr K mg aH "NoHand") (aQ:eV K aC) (sV:oJ P w K mg base 10 aC "Replay" ["self","works","record"] [] (vO aC aq au aH aM K)) (uw:MethAt P w K mg base 6 aC "free" ["self"] (Fv aC aq au K)) (Dy:jU P w K mg base 8 aC "turn" ["self","hand"] (Ft aC aq au aH bh K)) (Bt:rC mg):bV P w K mg base (vH P w) 12 f fd ["works","record","choose"] (Ar P w mg base 2 aq au aH aM K):=by
 refine F.Vb m5 (fun vs H Q E h=> ?_) (fun cdv A outer s H vs Q E hr h hR=> ?_)
 ·obtain ⟨i,i',ii,jj,τ,t,c,a,f,W,S,cs,ns,Wi,rfl,_⟩:=h
  rfl
 ·obtain ⟨i,i',ii,jj,τ,t,c,a,f,W,S,cs,ns,Wi,rfl,w0,gd,ml,tl,R,Dq,nl,Mi,i0,K9,iin,iio,ji,jii,j0,kT,kN,kL⟩:=h
  refine ⟨_,(aF (bM (i:=3) m5.nd rfl (Or.inl rfl) (Ij sV rfl hR (hr.mono (by decide)) (by rfl) (aj (pv 0) (aj (pv 1) aB))))
   (aF (bM (i:=4) m5.nd rfl (Or.inl rfl) (fO aB))
   (aF (bM (i:=5) m5.nd rfl (Or.inl rfl) (fX uw aQ.cls (hr.mono (by decide)) (pv 3)))
   (aF (Ig PassesOwn.leaving (yw (K:=K) rfl (pv 5)) (aF (bM (i:=6) m5.nd rfl (Or.inl rfl) (RV (k:=2) (pv 2) (hr.mono (by decide)) (aj (cR (cC (K:=K) rfl) (by rfl) Bt.iU fV (aj (pv 5) aB)) aB)))
   (aF (cJ (bG (Dj (K:=K) rfl) (pv 6) (pv 5) (by with_unfolding_all rfl)) (aL (jP PySem.F.excBase_ValueError bT.ex bT.bd (by rfl) rfl rfl hR (aj cT aB))) bN)
   (aF (fH (wk Dy aQ.cls rfl hR (hr.mono (by decide)) (pv 3) (aj (pv 6) aB)))
   (aF (fH (kY (K:=K) rfl (pv 4) (aj (pv 6) aB)))
   (aL (bM (i:=5) m5.nd rfl (Or.inl rfl) (fX uw aQ.cls (hr.mono (by decide)) (pv 3)))))))))
   (aL (bF (pv 4))))))), ?_⟩
  refine ⟨_,rfl,_,rfl,fun o dx ho hdx Qq=> ?_⟩;have ho':(upd H dx (.own o)) o=none:=by rw [aD Qq.symm];exact ho
  have sm:Same H (upd (upd H dx (.own o)) o (.ins aC dx [])):=(aJ hdx).trans (aJ ho');refine ⟨i,i',ii,τ,o,dx,t,c,a,W,S,cs,ns,rfl,ak,w0.un _ ho,w0.same sm,gd,ml,R.same sm,Dq,nl,Mi,i0,K9,iin,iio,fun al hl τ1 Rr ns' H1 eR pm srt rp YW kp1=>⟨rfl, ?_⟩,fun al hl H1 s1=>kN al hl H1 (sm.trans s1),fun Wu H1 s1=>kT Wu H1 (sm.trans s1)⟩;obtain ⟨kI,kO,kS,kE⟩:=kL al hl ns' pm srt;clear kL kN kT;have s01:Same H H1:=fun x u e=>kp1 _ _ (sm _ _ e) (aA e ho);have t01:∀x u,H x=some u->τ1 x=τ x:=fun x u e=>YW x u (sm _ _ e) (aA e ho);have un1:=rp.w.un;have w1:=kI τ1 H1 s01 t01 un1;have oR:V.ref o=V.ref Rr.o:=by rw [eR]
  rw [oR];clear YW kp1 sm ho' kI;refine ⟨(by show 0<=sizeLine;decide),fun lo hlo=> ?_⟩;have slo:=aJ (o:=HO.lst []) hlo;have akT:H lo=none:=s01.free hlo;have Xa:(upd H1 lo (.lst [])) lo=some (.lst []):=ak;have un2:pU (aV τ1 lo [jj,9]) (upd H1 lo (.lst [])):=un1.claim slo ⟨_,Xa⟩;have rp2:=rp.mv (Mv.claim (i:=i') (p:=lo) (t:=[jj,9]) slo hlo) (Mv.claim slo hlo) un2;have w2:=kO [] _ _ _ _ w1 (Qw.claim (p:=lo) (t:=[jj,9]) slo hlo) un2;have tlo:aV τ1 lo [jj,9] lo=[jj,9]:=bJ;generalize (upd H1 lo (.lst []))=H2 at slo Xa un2 rp2 w2 ⊢;generalize aV τ1 lo [jj,9]=τ2 at un2 rp2 w2 tlo;clear un1 rp w1 s01 t01 hlo slo;refine ⟨_,rfl,Rr.o,Rr.dx,_,rfl,rp2.o,rfl,i',ii,τ2,Rr,S,cs,_,ns',rfl,rp2,fun l H3 hl3 el s3=> ?_⟩;have un3:pU (aV τ2 l [jj,10]) H3:=un2.claim s3 ⟨_,el⟩;have rp3:=rp2.mv (Mv.claim (i:=i') (p:=l) (t:=[jj,10]) s3 hl3) (Mv.claim s3 hl3) un3;have w3:=kO [] _ _ _ _ w2 (Qw.claim (p:=l) (t:=[jj,10]) s3 hl3) un3;have tl3:aV τ2 l [jj,10] l=[jj,10]:=bJ;have abH:aV τ2 l [jj,10] lo=[jj,9]:=by rw [aW (aA Xa hl3)];exact tlo
  have ak6:=s3 _ _ Xa;generalize aV τ2 l [jj,10]=τ3 at un3 rp3 w3 tl3 abH;have c24:=Ma Dq;dsimp only [gO];refine mL (fun σ Hf=>∃(od:List Nat) (τ:Tg) (x6:Option V) (lf:Addr),σ=[some (.ref W.o),some (.ref t),some (.ref f),some (.ref Rr.o),some (.ref lo),some (.ref lf),x6]/\Wi od τ Hf/\pU τ Hf/\jr S cs ns' od=[]/\Hf lo=some (.lst (od.map fun k:Nat=>V.int k))) (fun D' hD' rt'=> ?_) ?_
  ·refine ⟨fun m σ Hc=>∃(od:List Nat) (τ:Tg) (x6:Option V) (lf:Addr),σ=[some (.ref W.o),some (.ref t),some (.ref f),some (.ref Rr.o),some (.ref lo),some (.ref lf),x6]/\pC aC aq au i' ii τ Hc Rr (ZC S od) cs ns' (V3 cs.length od)/\Wi od τ Hc/\pU τ Hc/\Hc lo=some (.lst (od.map fun k:Nat=>V.int k))/\τ lo=[jj,9]/\Hc lf=some (.lst ((jr S cs ns' od).map fun k:Nat=>V.int k))/\τ lf=[jj,10]/\((V3 cs.length od).sum=od.length)/\m=(cs.sum - (V3 cs.length od).sum).toNat/\(ZC S od).ts.length<=S.ts.length+od.length,⟨_,[],τ3,_,l,rfl,rp3,w3,un3,ak6,abH,el,tl3, ?_,rfl,Nat.le_refl _⟩, ?_⟩
   ·show (List.replicate cs.length (0:Int)).sum=0
    simp
   rintro m σ Hc ⟨od,τ,x6,lf,rfl,rp,wi,un,Xa,tlo,elf,tlf,sg,rfl,Vj⟩;have dn:=Cg rp.dn;refine ⟨_,rfl, !(jr S cs ns' od).isEmpty,.inl ⟨_,bL.of elf,by cases jr S cs ns' od<;>rfl⟩, ?_⟩;cases fe:(jr S cs ns' od).isEmpty with
   | true=>
     refine dz ?_;exact hD' _ _ ⟨od,τ,x6,lf,rfl,wi,un,List.isEmpty_iff.mp fe,Xa⟩
   | false=>
     refine fM ?_;have fne:jr S cs ns' od≠[]:=fun z=>by rw [z] at fe;cases fe
     refine ⟨_,fun σ' H' h=>h, ?_⟩;refine ⟨f,rfl,_,rfl,lf,_,rfl,.inl (bL.of elf),fun ln hln=> ?_⟩;have co:=kS od τ Hc ln (by omega) wi un fne hln;refine co.imp fun v Hd ⟨hv,τd,ev,m1,m2,m3,und,Pb,aj5⟩=> ?_;subst ev;have rpd:=rp.mv m1 m2 und;obtain ⟨ak5,Vm⟩:=m3.keep _ _ Xa (.inr (by rw [tlo];rfl));obtain ⟨ak7,af8⟩:=m3.keep _ _ elf (.inr (by rw [tlf];rfl));rw [tlo] at Vm;rw [tlf] at af8;refine ⟨_,rfl,_,rfl,lf,_,rfl,.inl (bL.of ak7),rfl, ?_,_,rfl, ?_⟩
     ·rw [List.all_map];exact List.all_eq_true.mpr fun _ _=>rfl
     by_cases hin:∃k:Nat,hv=k/\k∈jr S cs ns' od
     rotate_left
     ·refine cU (fun _=> ?_) (fun z=>absurd ?_ z)
      ·refine ⟨(by show 1<=sizeLine;decide),aj5 (fun k e m=>hin ⟨k,e,m⟩) _ (Same.refl _)⟩
      ·rw [if_pos rfl,Bool.not_eq_true']
       unfold inV;rw [List.any_map,List.any_eq_false];intro k hk z;refine hin ⟨k, ?_,hk⟩;have:(Qs (V.int (k:Nat)) (V.int hv))=true:=z;have:=of_decide_eq_true (p:=(k:Int)=hv) (by simpa [Qs] using this);exact this.symm
     obtain ⟨k,rfl,hk⟩:=hin;refine cU (fun z=>absurd z ?_) (fun _=> ?_)
     ·rw [if_pos rfl,Bool.not_eq_true,Bool.not_eq_false']
      unfold inV;rw [List.any_map,List.any_eq_true];exact ⟨k,hk,by simp [Function.comp,Qs]⟩
     have hkf:=hk;unfold jr Tw at hkf;rw [List.mem_filter,List.mem_range,Bool.and_eq_true,Bool.not_eq_true'] at hkf;obtain ⟨kl,ov,he⟩:=hkf;have he:qU ns' (V3 cs.length od) k=[]:=List.isEmpty_iff.mp he;have inn:BR (k:Int) cs.length:=⟨by omega,by omega⟩;refine ⟨_,rfl,Rr.o,Rr.dx,_,rfl,rpd.o,rfl,_,rfl,i',ii,τd,Rr,_,cs,_,ns',k,rfl,rpd,by omega,fun k2 e2 _=> ?_,fun k2 s r t2 He e2 _ _ _ _ _ _ _ _ rpe st=> ?_,fun z=>absurd inn z,fun k2 e2 _ z=> ?_⟩
     ·obtain rfl:k2=k:=by omega
      exact he
     rotate_left
     ·obtain rfl:k2=k:=by omega
      rw [ov] at z;cases z
     obtain rfl:k2=k:=by omega
     have une:pU τd He:=by
      obtain ⟨H1,s1,s2⟩:=st;exact s2.un (s1.un und)
     have mvj:Mv jj τd Hd τd He:=by
      obtain ⟨H1,s1,s2⟩:=st;exact (Mv.o_ s1 (fun z=>ji z.symm) i0).trans (Mv.o_ s2 (fun z=>jii z.symm) K9)
     have aaA:=(mvj.keep _ _ ak5 (.inr (by rw [Vm];rfl))).1;have wie:=kO _ _ _ _ _ (Pb k2 rfl hk) (Qw.st2 st) une;rw [←Ih,←Ii] at rpe;have lg:=rp.dn.1
     have sg':(V3 cs.length (od++[k2])).sum=(od++[k2]).length:=by
      rw [Ii,N8 (by omega),sg,List.length_append,List.length_singleton];omega
     have dn':=Cg rpe.dn;rw [sg',List.length_append,List.length_singleton] at dn';refine ⟨_,rfl,.inl ⟨rfl,_,bL.of aaA⟩,_,rfl,lo,_,_,rfl,rfl,aaA,by rw [List.length_map,sizeLine_eq];omega, ?_⟩;have stj:rF jj τd He (upd He lo (.lst ((od.map fun k:Nat=>V.int k)++[V.int (k2:Nat)]))):=rF.set (by rw [Vm];rfl) aaA (by intro xs z;cases z);have aaB:(upd He lo (.lst ((od.map fun k:Nat=>V.int k)++[V.int (k2:Nat)]))) lo=some (.lst ((od++[k2]).map fun k:Nat=>V.int k)):=by rw [ak,List.map_append];rfl
     generalize (upd He lo (.lst ((od.map fun k:Nat=>V.int k)++[V.int (k2:Nat)])))=Hf at stj aaB ⊢;have unf:=stj.un une;have rpf:=rpe.mv (Mv.o_ stj ji j0) (Mv.o_ stj jii j0) unf;have wif:=kO _ _ _ _ _ wie (Qw.stp stj) unf;refine ⟨_,rfl,Rr.o,Rr.dx,_,rfl,rpf.o,rfl,i',ii,τd,Rr,_,cs,_,ns',rfl,rpf,fun l2 Hg hl2 el2 sg2=> ?_⟩;have ung:pU (aV τd l2 [jj,10]) Hg:=unf.claim sg2 ⟨_,el2⟩;refine ⟨_, ?_,od++[k2],aV τd l2 [jj,10],_,l2,rfl,rpf.mv (Mv.claim sg2 hl2) (Mv.claim sg2 hl2) ung,kO _ _ _ _ _ wif (Qw.claim sg2 hl2) ung,ung,sg2 _ _ aaB, ?_,el2,bJ,sg',rfl, ?_⟩
     ·rw [sg',sg,List.length_append,List.length_singleton]
      omega
     ·rw [aW (aA aaB hl2)];exact Vm
     ·rw [Ih,List.length_append,List.length_singleton]
      have:=YM (ZC S od) k2;omega
  ·rintro σ Hf ⟨od,τ,x6,lf,rfl,wi,un,fz,Xa⟩
   exact ⟨_,rfl,kE od τ Hf lo wi un fz Xa akT⟩
structure Dr (τ:Tg) (r:Addr) (H H':Hp):Prop where
 k:∀x o,H x=some o->τ x≠[]->H' x=some o
 t:∀x xs,H x=some (.tup xs)->H' x=some (.tup xs)
 p:Kp r H H'
theorem Dr.of_same {τ:Tg} {r:Addr} {H H':Hp} (s:Same H H'):Dr τ r H H':=⟨fun x o e _=>s _ _ e,s.tups,Kp.of_same s⟩
theorem Dr.trans {τ:Tg} {r:Addr} {H H1 H2:Hp} (a:Dr τ r H H1) (b:Dr τ r H1 H2):Dr τ r H H2:=⟨fun x o e n=>b.k _ _ (a.k _ _ e n) n,fun x xs e=>b.t _ _ (a.t _ _ e),a.p.trans b.p⟩
theorem Dr.draw {τ:Tg} {r:Addr} {H H':Hp} (T:RT τ H r) (k:KR r H H'):Dr τ r H H':=⟨fun x o e n=>T.keep k e n,fun x xs e=>k.tups T.R _ _ e,k.1⟩
theorem Dr.mv {τ:Tg} {r:Addr} {H H':Hp} {i:Nat} (d:Dr τ r H H'):Mv i τ H τ H':=⟨fun x o e t=>⟨d.k x o e (by
 rcases t with t|t
 ·rw [t];simp
 ·intro z;rw [z] at t;cases t),rfl⟩,d.t⟩
theorem Eo {α β:Type} (f:α->β):∀(l:List α) (z:Nat),(l.map f).eraseIdx z=(l.eraseIdx z).map f
 | [],_=>rfl
 | _::_,0=>rfl
 | a::l,z+1=>by
   show f a::(l.map f).eraseIdx z=f a::(l.eraseIdx z).map f;rw [Eo f l z]
theorem Z7 {l:List Nat} {z y f g:Nat} (h:l.Nodup) (e1:l[z]? = some f) (e2:(l.eraseIdx z)[y]? = some g):f≠g:=by
 intro e;subst e;have zl:=(List.getElem?_eq_some_iff.mp e1).1;rw [List.getElem?_eraseIdx] at e2;split at e2
 ·have:=(List.getElem?_inj zl h).mp (e1.trans e2.symm)
  omega
 ·have:=(List.getElem?_inj zl h).mp (e1.trans e2.symm)
  omega
theorem RT.drop {τ:Tg} {H:Hp} {r D:Addr} {t:List Nat} (h:RT (aV τ D t) H r) (e:τ D=[]):RT τ H r:=by
 refine ⟨h.R,fun x o ex tx=> ?_,fun x ex=> ?_⟩
 ·have n:x≠D:=fun z=>tx (by rw [z];exact e)
  exact h.off x o ex (by rw [aW n];exact tx)
 ·by_cases n:x=D
  ·rw [n];exact e
  ·have:=h.un x ex
   rw [aW n] at this;exact this
def Av (K:PySem.W.Frag):Sp:=fun vs H Q _=>∃(r c:Addr) (τ:Tg) (cs:List Int),vs=[.ref r,.ref c]/\RT τ H r/\H c=some (.lst (cs.map V.int))/\τ c=[0]/\tu cs /\
 (∀H',RT τ H' r->Dr τ r H H'->Q .non H') /\
 (∀(x:Nt) (p:Addr) (H':Hp),lK cs x->H' p=some (.tup (nV x))->RT τ H' r->Dr τ r H H'->Q (.ref p) H')
theorem Om {f:Addr} {fd:FuncData} (F:jY K "_law_note" "_law_note" mR f fd) (dW:FnAt P w K mg base 1 "_law_draw" ["reel","many"] (tM K)) (Bt:rC mg):bV P w K mg base j4 2 f fd ["reel","counts"] (Av K):=by
 refine F.ok vZ (fun vs H Q E h=> ?_) (fun cdv A outer s H vs Q E hr h=> ?_)
 ·obtain ⟨r,c,τ,cs,rfl,_⟩:=h
  rfl
 ·obtain ⟨r,c,τ,cs,rfl,T,hc,tc,ok,k1,k2⟩:=h
  refine ⟨_,(aF (wj (i:=2) rfl vZ.nd rfl (Or.inl rfl) (N:=["k","counts"]) (own:=["k"]) (caps:=[1]) (bH.of (by kernel_rfl)) (jt (by rfl) Bt.mY (aj (aX (aZ (K:=K) rfl) (by rfl) Bt.gk dY (aj (pv 1) aB)) aB)) (fun _ _ _ _=>(bY (i:=0) (show List.Nodup (["k","counts"]:List Str) by decide +kernel) rfl (Or.inl rfl))) (fun _ _ _ _=>(zN (bG ach (aY (bB (K:=K) rfl) (pv 1) (pv 0) (fun _ _=>rfl)) aG (bA _)))) (fun _ _ _ _=>(pv 0)))
   (aF (cJ (bG yW (aX (aZ (K:=K) rfl) (by rfl) Bt.gk dY (aj (pv 2) aB)) aG (bA _)) (aL (bF jq)) bN)
   (aF (bM (i:=3) vZ.nd rfl (Or.inl rfl) (Bq (K:=K) rfl PySem.F.plainAttrs_list PySem.F.slot_list_pop PySem.F.type_list_pop SQ (pv 2) (aj (b_ dW (hr.mono (by decide)) (by rfl) (aj (pv 0) (aj (aX (aZ (K:=K) rfl) (by rfl) Bt.gk dY (aj (pv 2) aB)) aB))) aB)))
   (aF (bM (i:=4) vZ.nd rfl (Or.inl rfl) (aY (bB (K:=K) rfl) (pv 2) (b_ dW (hr.mono (by decide)) (by rfl) (aj (pv 0) (aj (aX (aZ (K:=K) rfl) (by rfl) Bt.gk dY (aj (pv 2) aB)) aB))) (fun _ _=>rfl)))
   (aL (bF (jQ (aj (pv 3) (aj (b_ dW (hr.mono (by decide)) (by rfl) (aj (pv 0) (aj (aY (bB (K:=K) rfl) (pv 1) (pv 3) (fun _ _=>rfl)) aB))) (aj (pv 4) (aj (b_ dW (hr.mono (by decide)) (by rfl) (aj (pv 0) (aj (aY (bB (K:=K) rfl) (pv 1) (pv 4) (fun _ _=>rfl)) aB))) aB))))))))))), ?_⟩
  have c8:=ok.1;refine ⟨_,rfl,c,_,rfl,.inl (bL.of hc),_,rfl,by rw [List.length_map];omega,by rw [List.length_map];omega,fun D hD=> ?_⟩;rw [List.length_map,Int.toNat_natCast];refine t_ (fun j:Nat=>if decide (gI cs j>0) then some (.int (j:Nat)) else none) hD (by omega) (fun j H1 G F hj s1 kG kF=> ?_) (fun H1 s1 e1=> ?_)
  ·refine ⟨_,rfl,_,rfl,_,_,_,_,rfl,rfl,bL.of (s1 _ _ hc),by rw [Int.zero_add];exact lB (by omega) (by omega),_,_,rfl,rfl,_,rfl, ?_⟩
   refine cU (fun q1=> ?_) (fun q1=> ?_)
   ·exact ⟨_,rfl,kF _ H1 (Same.refl _) (by rw [Int.zero_add];exact if_pos q1)⟩
   ·exact kG H1 (Same.refl _) (if_neg q1)
  rw [TF (fun j:Nat=>decide (gI cs j>0)) (fun j:Nat=>V.int j)] at e1;have ndA:((List.range cs.length).filter fun j:Nat=>decide (gI cs j>0)).Nodup:=List.Pairwise.filter _ List.nodup_range
  have mA:∀x∈(List.range cs.length).filter fun j:Nat=>decide (gI cs j>0),x<cs.length/\0<gI cs x:=fun x hx=>by
   obtain ⟨h1,h2⟩:=List.mem_filter.mp hx;exact ⟨List.mem_range.mp h1,of_decide_eq_true h2⟩
  have lA:((List.range cs.length).filter fun j:Nat=>decide (gI cs j>0)).length<=cs.length:=by
   have:=List.length_filter_le (fun j:Nat=>decide (gI cs j>0)) (List.range cs.length);rw [List.length_range] at this;exact this
  generalize ((List.range cs.length).filter fun j:Nat=>decide (gI cs j>0))=A at e1 ndA mA lA;have tD0:τ D=[]:=T.un D hD;have T1:=T.claim (t:=[0]) s1 hD ⟨_,e1⟩;have tD:aV τ D [0] D=[0]:=bJ;refine ⟨_,rfl,D,_,rfl,.inl (bL.of e1),_,_,rfl,rfl,_,rfl, ?_⟩;rw [List.length_map];refine cU (fun q=> ?_) (fun q=> ?_)
  ·exact k1 H1 (T1.drop tD0) (Dr.of_same s1)
  have q:¬((A.length:Nat):Int)<2:=fun z=>q (decide_eq_true z);dsimp only;refine ⟨_,rfl,.inl ⟨rfl,_,bL.of e1⟩,_,rfl,_,rfl,D,_,rfl,.inl (bL.of e1), ?_⟩;rw [List.length_map];refine ⟨r,_,rfl,T1.R,by omega,by omega,fun z H2 z0 z1 R2 k2'=> ?_⟩;obtain ⟨z,rfl⟩:=Int.eq_ofNat_of_zero_le z0;have T2:=T1.draw k2' R2;have e2:=T1.keep k2' e1 (by rw [tD];simp);have d2:Dr (aV τ D [0]) r H1 H2:= .draw T1 k2';have zl:z<A.length:=by omega
  obtain ⟨f,ef⟩:∃f,A[z]? = some f:=⟨_,List.getElem?_eq_getElem zl⟩;refine ⟨D,_,z,z,.int f,rfl,rfl,e2,by omega,by omega,by rw [List.length_map,PySem.StrLaws.seqIndex_nonneg (by omega) (by omega),Int.toNat_natCast],by rw [List.getElem?_map,ef];rfl, ?_⟩;have T3:RT (aV τ D [0]) (upd H2 D (.lst ((A.map fun k:Nat=>V.int k).eraseIdx z))) r:=T2.set e2 (by rw [tD];simp);have e3:(upd H2 D (.lst ((A.map fun k:Nat=>V.int k).eraseIdx z))) D=some (.lst ((A.eraseIdx z).map fun k:Nat=>V.int k)):=by rw [ak,Eo]
  have d3:Dr τ r H (upd H2 D (.lst ((A.map fun k:Nat=>V.int k).eraseIdx z))):=by
   refine ⟨fun x o e t=> ?_,fun x xs e=> ?_,fun x o e n=> ?_⟩
   ·rw [aD (aA e hD)];exact d2.p _ _ (s1 _ _ e) (T.off x o e t).1
   ·rw [aD (aA e hD)];exact d2.t _ _ (s1 _ _ e)
   ·rw [aD (aA e hD)];exact d2.p _ _ (s1 _ _ e) n
  generalize (upd H2 D (.lst ((A.map fun k:Nat=>V.int k).eraseIdx z)))=H3 at T3 e3 d3 ⊢;have el:(A.eraseIdx z).length=A.length - 1:=List.length_eraseIdx_of_lt zl;refine ⟨_,rfl,_,rfl,_,rfl,D,_,rfl,.inl (bL.of e3), ?_⟩;rw [List.length_map];refine ⟨r,_,rfl,T3.R,by omega,by omega,fun y H4 y0 y1 R4 k4=> ?_⟩;obtain ⟨y,rfl⟩:=Int.eq_ofNat_of_zero_le y0;have T4:=T3.draw k4 R4;have e4:=T3.keep k4 e3 (by rw [tD];simp);have d4:Dr τ r H3 H4:= .draw (T3.drop tD0) k4;have yl:y<(A.eraseIdx z).length:=by omega
  obtain ⟨g,eg⟩:∃g,(A.eraseIdx z)[y]? = some g:=⟨_,List.getElem?_eq_getElem yl⟩;have nfg:=Z7 ndA ef eg;have mf:=mA f (List.mem_of_getElem? ef);have mg':=mA g (List.mem_of_mem_eraseIdx (List.mem_of_getElem? eg));have bf:=ok.gI f;have bg:=ok.gI g;refine ⟨_,_,_,_,rfl,rfl,bL.of e4,gP (by rw [List.getElem?_map,eg];rfl), ?_⟩;have T4':=T4.drop tD0;have hc4:=(d3.trans d4).k _ _ hc (by rw [tc];simp);refine ⟨_,rfl,_,rfl,_,rfl,_,rfl,_,_,_,_,rfl,rfl,bL.of hc4,lB (by omega) (by omega),r,_,rfl,T4'.R,by omega,by omega,fun u H5 u0 u1 R5 k5=> ?_⟩;have T5:=T4'.draw k5 R5;have d5:Dr τ r H4 H5:= .draw T4' k5;have hc5:=d5.k _ _ hc4 (by rw [tc];simp);refine ⟨_,rfl,_,rfl,_,rfl,_,rfl,_,_,_,_,rfl,rfl,bL.of hc5,lB (by omega) (by omega),r,_,rfl,T5.R,by omega,by omega,fun v H6 v0 v1 R6 k6=> ?_⟩;have T6:=T5.draw k6 R6;have d6:Dr τ r H5 H6:= .draw T5 k6;refine ⟨(by show 4<=sizeLine;decide),fun p hp=> ?_⟩;have sp:=aJ (o:=HO.tup [V.int f,V.int u,V.int g,V.int v]) hp;exact k2 (f,u,g,v) p _ ⟨⟨Int.natCast_nonneg f,Int.ofNat_lt.mpr mf.1⟩,⟨u0,u1⟩,⟨Int.natCast_nonneg g,Int.ofNat_lt.mpr mg'.1⟩,⟨v0,v1⟩,by show (f:Int)≠g;omega⟩ ak (T6.same sp) ((((d3.trans d4).trans d5).trans d6).trans (Dr.of_same sp))
def Qu (cs:List Int) (h k:Int):Prop:=(0<=h/\h<cs.length)/\0<=k/\k<gI cs h
instance (cs:List Int) (h k:Int):Decidable (Qu cs h k):=by unfold Qu;infer_instance
def Fo (K:PySem.W.Frag):Sp:=fun vs H Q _=>∃(c:Addr) (cs:List Int) (h k:Int),vs=[.ref c,.int h,.int k]/\H c=some (.lst (cs.map V.int))/\cs.length<=8/\Q (.bl (decide (Qu cs h k))) H
theorem R8 {f:Addr} {fd:FuncData} (F:jY K "_law_there" "_law_there" jK f fd) (Bt:rC mg):bV P w K mg base j4 1 f fd ["counts","hand","k"] (Fo K):=by
 refine F.ok Oa (fun vs H Q E h=> ?_) (fun cdv A outer s H vs Q E hr h=> ?_)
 ·obtain ⟨c,cs,h,k,rfl,_⟩:=h
  rfl
 ·obtain ⟨c,cs,h,k,rfl,hc,l8,q⟩:=h
  refine ⟨_,(aL (bF (nH (dU RX aG (pv 1) (bA _)) (nH (dU yW (pv 1) (aX (aZ (K:=K) rfl) (by rfl) Bt.gk dY (aj (pv 0) aB)) (bA _)) (nH (dU RX aG (pv 2) (bA _)) (qD (dU yW (pv 2) (aY (bB (K:=K) rfl) (pv 0) (pv 1) (fun _ _=>rfl)) (bA _)))))))), ?_⟩;have no:¬Qu cs h k->Q (.bl false) H:=fun z=>by rw [decide_eq_false z] at q;exact q
  refine ⟨_,rfl,_,_,rfl,rfl,_,rfl, ?_⟩;refine cU (fun h0=> ?_) (fun h0=> ?_)
  ·refine ⟨_,rfl,_,rfl,c,_,rfl,.inl (bL.of hc),_,_,rfl,rfl,_,rfl, ?_⟩
   rw [List.length_map];refine cU (fun h1=> ?_) (fun h1=> ?_)
   ·refine ⟨_,rfl,_,_,rfl,rfl,_,rfl, ?_⟩
    have h0:=of_decide_eq_true h0;have h1:=of_decide_eq_true h1;refine cU (fun h2=> ?_) (fun h2=> ?_)
    ·refine ⟨_,rfl,_,rfl,_,rfl,_,_,_,_,rfl,rfl,bL.of hc,lB h0 h1,_,_,rfl,rfl, ?_⟩
     have h2:=of_decide_eq_true h2
     have e:decide (Qu cs h k)=decide (k<gI cs h):=by
      rw [Bool.eq_iff_iff,decide_eq_true_iff,decide_eq_true_iff];exact ⟨fun z=>z.2.2,fun z=>⟨⟨h0,h1⟩,h2,z⟩⟩
     show Q (.bl (decide (k<gI cs h))) H;rw [←e];exact q
    ·exact no fun z=>h2 (decide_eq_true z.2.1)
   ·exact no fun z=>h1 (decide_eq_true z.1.2)
  ·exact no fun z=>h0 (decide_eq_true z.1.1)
def yJ (cs:List Int) (ns:List Nt) (m:Nat):Int:=if ns.all fun x=>decide (lK cs x) then (if cs.length=m then 0 else 2) else 1
def FN (K:PySem.W.Frag):Sp:=fun vs H Q _=>∃(c a:Addr) (cs:List Int) (ns:List Nt) (m:Nat),vs=[.ref c,.ref a,.int m]/\H c=some (.lst (cs.map V.int))/\ur H a ns/\cs.length<=8 /\ ∀H',Same H H'->Q (.int (yJ cs ns m)) H'
theorem Ip {cs:List Int} {x:Nt}:lK cs x↔x.1≠x.2.2.1/\Qu cs x.1 x.2.1/\Qu cs x.2.2.1 x.2.2.2:=by
 unfold lK Qu;exact ⟨fun ⟨a,b,c,d,e⟩=>⟨e,⟨a,b⟩,c,d⟩,fun ⟨e,⟨a,b⟩,c,d⟩=>⟨a,b,c,d,e⟩⟩
theorem Sw {f:Addr} {fd:FuncData} (F:jY K "_law_due" "_law_due" qC f fd) (JQ:FnAt P w K mg base 1 "_law_there" ["counts","hand","k"] (Fo K)) (Bt:rC mg):bV P w K mg base j4 2 f fd ["counts","some","hands"] (FN K):=by
 refine F.ok v8 (fun vs H Q E h=> ?_) (fun cdv A outer s H vs Q E hr h=> ?_)
 ·obtain ⟨c,a,cs,ns,m,rfl,_⟩:=h
  rfl
 ·obtain ⟨c,a,cs,ns,m,rfl,hc,⟨vs,ha,dv⟩,l8,k⟩:=h
  refine ⟨_,(aF (yx PassesOwn.never rfl (fW (K:=K) rfl (pv 1)) (Gf (K:=K) (n:=4) rfl rfl (lG (bY (i:=3) v8.nd rfl (Or.inl rfl)) (lG (bY (i:=4) v8.nd rfl (Or.inl rfl)) (lG (bY (i:=5) v8.nd rfl (Or.inl rfl)) (lG (bY (i:=6) v8.nd rfl (Or.inl rfl)) Ge)))))
   (aL (cJ (PW.pt (oh (bG gj (pv 3) (pv 5) (bA _)) (oh (gB (eO (b_ JQ (hr.mono (by decide)) (by rfl) (aj (pv 0) (aj (pv 3) (aj (pv 4) aB)))))) (mG (gB (eO (b_ JQ (hr.mono (by decide)) (by rfl) (aj (pv 0) (aj (pv 5) (aj (pv 6) aB)))))))))) (aL (bF aG)) bN)))
   (aL (bF (aY (bB (K:=K) rfl) (fO (aj aG (aj aG aB))) (cR pN (by rfl) Bt.CP vC (aj (dU pJ (aX (aZ (K:=K) rfl) (by rfl) Bt.gk dY (aj (pv 0) aB)) (pv 2) (bA _)) aB)) (fun _ _=>rfl))))), ?_⟩
  have vl:vs.length=ns.length:=by rw [dv.length,List.length_map]
  have at_:∀(j:Nat) (v:V),vs[j]? = some v -> ∃(x:Nt) (p:Addr),ns[j]? = some x/\v = .ref p/\H p=some (.tup (nV x)):=fun j v e=>by
   have jl:=(List.getElem?_eq_some_iff.mp e).1;have en:ns[j]? = some ns[j]:=List.getElem?_eq_getElem (by omega);obtain ⟨d,ed,dd⟩:=dv.get e;rw [List.getElem?_map,en] at ed;cases ed;obtain ⟨p,rfl,hp⟩:=qN dd;exact ⟨_,p,en,rfl,hp⟩
  refine mL (fun σ H'=>H'=H/\(ns.all fun x=>decide (lK cs x))=true /\ ∃x3 x4 x5 x6:Option V,σ=[some (.ref c),some (.ref a),some (.int m),x3,x4,x5,x6]) (fun D' hD' W2=> ?_) ?_
  ·refine ⟨_,rfl,a,rfl,⟨_,bL.of ha⟩,wO (K:=K) (xs:=vs) (fun i σ H'=>H'=H/\((ns.take i).all fun x=>decide (lK cs x))=true /\ ∃x3 x4 x5 x6:Option V,σ=[some (.ref c),some (.ref a),some (.int m),x3,x4,x5,x6]) ⟨rfl,rfl,_,_,_,_,rfl⟩ (fun i σ H' _ ⟨e,_⟩=>by rw [e];exact bL.of ha) ?_ (fun σ H' ⟨e,h1,h2⟩=>hD' _ _ ⟨e,by rw [vl,List.take_length] at h1;exact h1,h2⟩)⟩
   rintro i v σ H' hi ⟨rfl,hall,x3,x4,x5,x6,rfl⟩;obtain ⟨x,p,en,rfl,hp⟩:=at_ i v hi
   have Oz:¬lK cs x->Q (.int 1) H':=fun z=>by
    have:=k H' (Same.refl _);unfold yJ at this;rw [if_neg] at this
    ·exact this
    ·intro y
     exact z (of_decide_eq_true (List.all_eq_true.mp y x (List.mem_of_getElem? en)))
   rw [Ip] at Oz
   have Z4:¬(x.1≠x.2.2.1/\Qu cs x.1 x.2.1/\Qu cs x.2.2.1 x.2.2.2)->D'.rt (.int 1) H':=fun z=>by
    rw [W2];exact Oz z
   refine ⟨p,_,rfl,cQ.of hp,rfl,_,_,rfl,_,_,rfl,_,_,rfl,_,_,rfl,rfl, ?_⟩;refine ⟨_,rfl,_,rfl,rfl,_,rfl, ?_⟩;refine cU (fun q1=> ?_) (fun q1=> ?_)
   ·refine fM ?_
    exact Z4 fun z=>z.1 (V.int.inj (of_decide_eq_true q1))
   have q1:x.1≠x.2.2.1:=fun z=>q1 (decide_eq_true (congrArg V.int z));refine ⟨_,rfl,_,rfl,_,rfl,c,cs,_,_,rfl,hc,l8,_,rfl, ?_⟩
   by_cases t1:Qu cs x.1 x.2.1
   rotate_left
   ·rw [decide_eq_false t1]
    exact fM (fM (Z4 fun z=>t1 z.2.1))
   rw [decide_eq_true t1];refine dz ?_;refine ⟨_,rfl,_,rfl,_,rfl,c,cs,_,_,rfl,hc,l8,_,rfl, ?_⟩
   by_cases t2:Qu cs x.2.2.1 x.2.2.2
   rotate_left
   ·rw [decide_eq_false t2]
    exact fM (Z4 fun z=>t2 z.2.2)
   rw [decide_eq_true t2];refine dz ?_;refine ⟨rfl, ?_,_,_,_,_,rfl⟩;rw [List.take_add_one,en,List.all_append,hall];show (true&&(decide (lK cs x)&&true))=true;rw [decide_eq_true (Ip.mpr ⟨q1,t1,t2⟩)];rfl
  ·rintro σ H' ⟨rfl,hall,x3,x4,x5,x6,rfl⟩
   refine ⟨(by show 2<=sizeLine;decide),fun p hp=>⟨_,rfl,c,_,rfl,.inl (bL.of (aJ (o:=HO.lst [V.int 0,V.int 2]) hp _ _ hc)),_,rfl,rfl, ?_⟩⟩;have sp:=aJ (o:=HO.lst [V.int 0,V.int 2]) hp;have q:=k _ sp;unfold yJ at q;rw [if_pos hall] at q;rw [List.length_map]
   by_cases e:cs.length=m
   ·rw [if_pos e] at q
    rw [e,decide_eq_true rfl];exact .inr ⟨_,rfl,_,_,_,_,rfl,rfl,bL.of ak,rfl,q⟩
   ·rw [if_neg e] at q
    have ne:¬V.int (cs.length:Int)=V.int (m:Int):=fun z=>e (by have:=V.int.inj z;omega);rw [decide_eq_false ne];exact .inr ⟨_,rfl,_,_,_,_,rfl,rfl,bL.of ak,rfl,q⟩
def yd (K:PySem.W.Frag):Sp:=fun vs H Q _=>∃(r t c:Addr) (τ:Tg) (cs:List Int) (x:Nt) (pl:Nat),vs=[.ref r,.ref t,.ref c,.int pl]/\RT τ H r/\H c=some (.lst (cs.map V.int))/\τ c=[0]/\tu cs/\H t=some (.tup (nV x))/\lK cs x/\pl<4 /\
 ∀(y:Nt) (p:Addr) (H':Hp),H' p=some (.tup (nV y))->RT τ H' r->Dr τ r H H'->Q (.ref p) H'
theorem Kz {f:Addr} {fd:FuncData} (F:jY K "_law_other" "_law_other" jM f fd) (dW:FnAt P w K mg base 1 "_law_draw" ["reel","many"] (tM K)) (Bt:rC mg):bV P w K mg base j4 2 f fd ["reel","note","counts","place"] (yd K):=by
 refine F.ok tR (fun vs H Q E h=> ?_) (fun cdv A outer s H vs Q E hr h=> ?_)
 ·obtain ⟨r,t,c,τ,cs,x,pl,rfl,_⟩:=h
  rfl
 ·obtain ⟨r,t,c,τ,cs,x,pl,rfl,T,hc,tc,ok,ht,Oz,p4,k⟩:=h
  refine ⟨_,(aF (bM (i:=4) tR.nd rfl (Or.inl rfl) (b_ dW (hr.mono (by decide)) (by rfl) (aj (pv 0) (aj (aY (bB (K:=K) rfl) (fO (aj aG (aj aG (aj (bR vg (bR qF aG aG) aG) aB)))) (b_ dW (hr.mono (by decide)) (by rfl) (aj (pv 0) (aj aG aB))) (fun _ _=>rfl)) aB))))
   (aF (bM (i:=5) tR.nd rfl (Or.inl rfl) (b_ dW (hr.mono (by decide)) (by rfl) (aj (pv 0) (aj aG aB))))
   (aF (bM (i:=6) tR.nd rfl (Or.inl rfl) (cR (cC (K:=K) rfl) (by rfl) Bt.iU fV (aj (pv 1) aB)))
   (aF (cJ (bG gj (pv 5) aG (bA _)) (aL (o8 (bR vg (RB JZ aG) (pv 4)) (o9 (pv 6) (pv 3) set_list))) (aL (cJ (bG gj (pv 5) aG (bA _)) (aL (o8 (aY (bx (K:=K) rfl) (pv 1) (bR mH (bR kZ (pv 3) aG) aG) (fun _ _=>rfl)) (o9 (pv 6) (pv 3) set_list))) (aL (cJ (bG gj (bR mH (pv 3) aG) aG (bA _)) (aL (o8 (bR kZ (aX (aZ (K:=K) rfl) (by rfl) Bt.gk dY (aj (pv 2) aB)) (pv 4)) (o9 (pv 6) (pv 3) set_list))) (aL (o8 (bR kZ (aY (bB (K:=K) rfl) (pv 2) (aY (bx (K:=K) rfl) (pv 1) (bR vg (pv 3) aG) (fun _ _=>rfl)) (fun _ _=>rfl)) (pv 4)) (o9 (pv 6) (pv 3) set_list))))))))
   (aL (bF (jQ (aj (aY (bB (K:=K) rfl) (pv 6) aG (fun _ _=>rfl)) (aj (aY (bB (K:=K) rfl) (pv 6) aG (fun _ _=>rfl)) (aj (aY (bB (K:=K) rfl) (pv 6) aG (fun _ _=>rfl)) (aj (aY (bB (K:=K) rfl) (pv 6) aG (fun _ _=>rfl)) aB))))))))))), ?_⟩
  have hcp:Hw 10 30:=⟨by decide,by decide,by decide⟩;refine ⟨_,rfl,_,_,rfl,rfl,hcp,_,_,rfl,rfl,(by show 3<=sizeLine;decide),fun l hl=> ?_⟩;have sl:=aJ (o:=HO.lst [V.int 1,V.int 3,V.int (10 ^ (30:Int).toNat - 10)]) hl;have T1:=T.same sl;have d1:Dr τ r H _:=Dr.of_same sl;have nlr:l≠r:=T.R.ne hl;have el:(upd H l (.lst [V.int 1,V.int 3,V.int (10 ^ (30:Int).toNat - 10)])) l=some (.lst [V.int 1,V.int 3,V.int (10 ^ (30:Int).toNat - 10)]):=ak;generalize (upd H l (.lst [V.int 1,V.int 3,V.int (10 ^ (30:Int).toNat - 10)]))=H1 at sl T1 d1 el ⊢;refine ⟨_,rfl,r,3,rfl,T1.R,by decide,by decide,fun z H2 z0 z1 R2 k2=> ?_⟩;have T2:=T1.draw k2 R2;have d2:=d1.trans (.draw T1 k2)
  obtain ⟨bb,eb,b0,b1⟩:∃bb:Int,Np [V.int 1,V.int 3,V.int (10 ^ (30:Int).toNat - 10)] z=some (.int bb)/\0<bb/\bb<1329227995784915872903807060280344576:=by
   have:z=0\/z=1\/z=2:=by omega
   rcases this with rfl|rfl|rfl
   ·exact ⟨1,rfl,by decide,by decide⟩
   ·exact ⟨3,rfl,by decide,by decide⟩
   ·exact ⟨_,rfl,by decide,by decide⟩
  refine ⟨_,_,_,_,rfl,rfl,bL.of (k2.1 _ _ el nlr),eb,r,bb,rfl,T2.R,b0,b1,fun far H3 f0 f1 R3 k3=> ?_⟩;have T3:=T2.draw k3 R3;have d3:=d2.trans (.draw T2 k3);refine ⟨_,rfl,r,3,rfl,T3.R,by decide,by decide,fun low H4 l0 l1 R4 k4=> ?_⟩;have T4:=T3.draw k4 R4;have d4:=d3.trans (.draw T3 k4);clear T1 T2 T3 d1 d2 d3 k2 k3 k4 R2 R3 R4;have hc4:=d4.k _ _ hc (by rw [tc];simp);have ht4:=d4.t _ _ ht;refine ⟨_,rfl,t,_,rfl,.inr (cQ.of ht4),fun D hD=> ?_⟩;have sD:=aJ (o:=HO.lst (nV x)) hD;have dD:=d4.trans (Dr.of_same sD);have hcD:=sD _ _ hc4;have htD:=sD _ _ ht4;have eD:(upd H4 D (.lst (nV x))) D=some (.lst (nV x)):=ak
  have hpD:H D=none:=by
   cases e:H D with
   | none=>rfl
   | some o=>
     have n:D≠r:=T4.R.ne hD;rw [d4.p _ _ e n] at hD;cases hD
  have T5:=T4.claim (t:=[0]) sD hD ⟨_,eD⟩;generalize (upd H4 D (.lst (nV x)))=H5 at sD dD hcD htD eD T5 ⊢;have tD:aV τ D [0] D=[0]:=bJ;have l8:=ok.1
  have put:∀(v:Int) (H6:Hp),H6=upd H5 D (.lst ((nV x).set pl (.int v)))->(∃(a0 a1 a2 a3:Int),H6 D=some (.lst [.int a0,.int a1,.int a2,.int a3]))/\RT τ H6 r/\Dr τ r H H6:=fun v H6 e=>by
   subst e;refine ⟨?_,(T5.set eD (by rw [tD];simp)).drop (T4.un _ hD),⟨fun y o e t=> ?_,fun y xs e=> ?_,fun y o e n=> ?_⟩⟩
   ·rw [ak]
    match pl,p4 with
    | 0,_=>exact ⟨_,_,_,_,rfl⟩
    | 1,_=>exact ⟨_,_,_,_,rfl⟩
    | 2,_=>exact ⟨_,_,_,_,rfl⟩
    | 3,_=>exact ⟨_,_,_,_,rfl⟩
   ·rw [aD (aA e hpD)];exact dD.k _ _ e t
   ·rw [aD (aA e hpD)];exact dD.t _ _ e
   ·rw [aD (aA e hpD)];exact dD.p _ _ e n
  have il:JT (nV x).length pl=some pl:=by
   have e:(nV x).length=4:=rfl;unfold JT;rw [e,if_pos (by omega),if_pos (by omega),Int.toNat_natCast]
  dsimp only;refine mL (fun σ H'=>σ=[some (.ref r),some (.ref t),some (.ref c),some (.int pl),some (.int far),some (.int low),some (.ref D)] /\ ∃v:Int,H'=upd H5 D (.lst ((nV x).set pl (.int v)))) (fun D' hD' W2=> ?_) ?_
  ·refine ⟨_,rfl,rfl,_,rfl, ?_⟩
   refine cU (fun _=> ?_) (fun _=> ?_)
   ·exact ⟨_,rfl,_,rfl,_,_,rfl,rfl,_,rfl,_,rfl,D,_,_,pl,rfl,rfl,eD,il,hD' _ _ ⟨rfl,_,rfl⟩⟩
   refine ⟨_,rfl,rfl,_,rfl, ?_⟩;refine cU (fun _=> ?_) (fun _=> ?_)
   ·obtain ⟨v,ev⟩:∃v:Int,Np (nV x) (((pl:Int)+2) % 4)=some (.int v):=by
     match pl,p4 with
     | 0,_=>exact ⟨_,rfl⟩
     | 1,_=>exact ⟨_,rfl⟩
     | 2,_=>exact ⟨_,rfl⟩
     | 3,_=>exact ⟨_,rfl⟩
    exact ⟨_,rfl,_,rfl,_,_,rfl,rfl,_,_,rfl,rfl,(by show (0:Int)<4;decide),_,_,_,_,rfl,rfl,cQ.of htD,ev,_,rfl,_,rfl,D,_,_,pl,rfl,rfl,eD,il,hD' _ _ ⟨rfl,_,rfl⟩⟩
   refine ⟨_,rfl,_,_,rfl,rfl,(by show (0:Int)<2;decide),rfl,_,rfl, ?_⟩;refine cU (fun _=> ?_) (fun q=> ?_)
   ·exact ⟨_,rfl,c,_,rfl,.inl (bL.of hcD),_,rfl,_,_,rfl,rfl,_,rfl,_,rfl,D,_,_,pl,rfl,rfl,eD,il,hD' _ _ ⟨rfl,_,rfl⟩⟩
   ·obtain ⟨h,eh,h0,h1⟩:∃h:Int,Np (nV x) ((pl:Int) - 1)=some (.int h)/\0<=h/\h<cs.length:=by
     match pl,p4 with
     | 0,_=>exact absurd (decide_eq_true rfl) q
     | 1,_=>exact ⟨_,rfl,Oz.1.1,Oz.1.2⟩
     | 2,_=>exact absurd (decide_eq_true rfl) q
     | 3,_=>exact ⟨_,rfl,Oz.2.2.1.1,Oz.2.2.1.2⟩
    exact ⟨_,rfl,_,rfl,_,rfl,_,_,rfl,rfl,_,_,_,_,rfl,rfl,cQ.of htD,eh,_,_,_,_,rfl,rfl,bL.of hcD,lB h0 h1,_,rfl,_,_,rfl,rfl,_,rfl,_,rfl,D,_,_,pl,rfl,rfl,eD,il,hD' _ _ ⟨rfl,_,rfl⟩⟩
  ·rintro σ H6 ⟨rfl,v,e6⟩
   obtain ⟨⟨a0,a1,a2,a3,e⟩,T6,d6⟩:=put v H6 e6;refine ⟨_,rfl,_,_,_,_,rfl,rfl,bL.of e,rfl,_,rfl,_,_,_,_,rfl,rfl,bL.of e,rfl,_,rfl,_,_,_,_,rfl,rfl,bL.of e,rfl,_,rfl,_,_,_,_,rfl,rfl,bL.of e,rfl,(by show 4<=sizeLine;decide),fun p hp=> ?_⟩;have sp:=aJ (o:=HO.tup [V.int a0,V.int a1,V.int a2,V.int a3]) hp;exact k (a0,a1,a2,a3) p _ ak (T6.same sp) (d6.trans (Dr.of_same sp))
def Wd:Option Nt->PyData
 | none=> .none
 | some x=>nD x
theorem MN:∀x:Option Nt,Gy (Wd x)=true
 | none=>rfl
 | some x=>pA x
theorem aR.set {H:Hp} {v:V} {d:PyData} (h:Dat H v d):∀{vs:List V} {ds:List PyData} (i:Nat),aR H vs ds->aR H (vs.set i v) (ds.set i d)
 | [],[],_,g=>g
 | _::_,_::_,0,g=>by
   simp only [List.set_cons_zero,aR] at g ⊢;exact ⟨h,g.2⟩
 | _::_,_::_,i+1,g=>by
   simp only [List.set_cons_succ,aR] at g ⊢;exact ⟨g.1,aR.set h i g.2⟩
 | [],_::_,_,g=>by cases g
 | _::_,[],_,g=>by cases g
theorem Zj:∀x:Option Nt,SeqAt.shaped (Wd x)=true
 | none=>rfl
 | some x=>rfl
theorem any_none (xs:List (Option Nt)):((xs.map Wd).any fun e=>PyData.eqv e .none)=decide (none∈xs):=by
 induction xs with
 | nil=>rfl
 | cons x xs ih=>
   rw [List.map_cons,List.any_cons,ih];cases x with
   | none=>simp [Wd,PyData.eqv]
   | some x=>
     rw [show PyData.eqv (Wd (some x)) .none=false by rfl];simp
theorem all_some {xs:List (Option Nt)} (h:none∉xs):∃ns:List Nt,xs=ns.map some:=by
 induction xs with
 | nil=>exact ⟨[],rfl⟩
 | cons x xs ih=>
   obtain ⟨ns,e⟩:=ih fun z=>h (List.mem_cons_of_mem _ z);cases x with
   | none=>exact absurd (List.mem_cons_self ..) h
   | some x=>exact ⟨x::ns,by rw [e];rfl⟩
def yg (K:PySem.W.Frag):Sp:=fun vs H Q _=>∃(r c:Addr) (τ:Tg) (cs:List Int),vs=[.ref r,.ref c]/\RT τ H r/\H c=some (.lst (cs.map V.int))/\τ c=[0]/\tu cs /\
 ∀(a:Addr) (ns:List Nt) (H':Hp),H a=none->ur H' a ns->ns.length<=8->RT (aV τ a [0]) H' r->Dr τ r H H'->Q (.ref a) H'
theorem KC {f:Addr} {fd:FuncData} (F:jY K "_law_notes" "_law_notes" jN f fd) (dW:FnAt P w K mg base 1 "_law_draw" ["reel","many"] (tM K)) (XD:FnAt P w K mg base 2 "_law_note" ["reel","counts"] (Av K)) (U5:FnAt P w K mg base 2 "_law_other" ["reel","note","counts","place"] (yd K)) (Bt:rC mg):bV P w K mg base j4 3 f fd ["reel","counts"] (yg K):=by
 refine F.ok kW (fun vs H Q E h=> ?_) (fun cdv A outer s H vs Q E hr h=> ?_)
 ·obtain ⟨r,c,τ,cs,rfl,_⟩:=h
  rfl
 ·obtain ⟨r,c,τ,cs,rfl,T,hc,tc,ok,k⟩:=h
  have wK:=hr.units
  refine ⟨_,(aF (bM (i:=2) kW.nd rfl (Or.inl rfl) (b_ dW (hr.mono (by decide)) (by rfl) (aj (pv 0) (aj aG aB))))
   (aF (bM (i:=3) kW.nd rfl (Or.inl rfl) (b_ dW (hr.mono (by decide)) (by rfl) (aj (pv 0) (aj aG aB))))
   (aF (bM (i:=4) kW.nd rfl (Or.inl rfl) (b_ dW (hr.mono (by decide)) (by rfl) (aj (pv 0) (aj aG aB))))
   (aF (bM (i:=5) kW.nd rfl (Or.inl rfl) (b_ dW (hr.mono (by decide)) (by rfl) (aj (pv 0) (aj aG aB))))
   (aF (wj (i:=6) rfl kW.nd rfl (Or.inl rfl) (N:=["k","reel","counts"]) (own:=["k"]) (caps:=[0,1]) (bH.of (by kernel_rfl)) (jt (by rfl) Bt.mY (aj (pv 3) aB)) (fun _ _ _ _=>(bY (i:=0) (show List.Nodup (["k","reel","counts"]:List Str) by decide +kernel) rfl (Or.inl rfl))) (fun _ _ _ _=>fU) (fun _ _ _ _=>(b_ XD (hr.mono (by decide)) (by rfl) (aj (pv 1) (aj (pv 2) aB)))))
   (aF (cJ (PW.pt (oh (bG (Wb (K:=K) rfl hr.YJ) jq (pv 6) (by with_unfolding_all rfl)) (mG (bG (RZ (K:=K) rfl wK) (pv 6) (fO aB) (bA _))))) (aL (bF (fO aB))) bN)
   (aF (cJ (bG gj (b_ dW (hr.mono (by decide)) (by rfl) (aj (pv 0) (aj aG aB))) aG (bA _)) (aL (fH (kY (K:=K) rfl (pv 6) (aj (aY (bB (K:=K) rfl) (pv 6) aG (fun _ _=>rfl)) aB)))) bN)
   (aF (cJ (bG gj (pv 2) aG (bA _)) (aF (bM (i:=4) kW.nd rfl (Or.inl rfl) (bR mH (pv 4) (aX (aZ (K:=K) rfl) (by rfl) Bt.gk dY (aj (pv 6) aB))))
   (aL (o8 (b_ U5 (hr.mono (by decide)) (by rfl) (aj (pv 0) (aj (aY (bB (K:=K) rfl) (pv 6) (pv 4) (fun _ _=>rfl)) (aj (pv 1) (aj (pv 5) aB))))) (o9 (pv 6) (pv 4) set_list)))) bN)
   (aL (bF (pv 6))))))))))), ?_⟩
  refine ⟨_,rfl,r,2,rfl,T.R,by decide,by decide,fun spl H1 p0 p1 R1 k1=> ?_⟩;have T1:=T.draw k1 R1;refine ⟨_,rfl,r,7,rfl,R1,by decide,by decide,fun mn H2 m0 m1 R2 k2=> ?_⟩;have T2:=T1.draw k2 R2;refine ⟨_,rfl,r,7,rfl,R2,by decide,by decide,fun at_ H3 a0 a1 R3 k3=> ?_⟩;have T3:=T2.draw k3 R3;refine ⟨_,rfl,r,4,rfl,R3,by decide,by decide,fun pl H4 q0 q1 R4 k4=> ?_⟩;have T4:=T3.draw k4 R4;have d4:Dr τ r H H4:=(((Dr.draw T k1).trans (.draw T1 k2)).trans (.draw T2 k3)).trans (.draw T3 k4);clear T1 T2 T3 k1 k2 k3 k4 R1 R2 R3;refine ⟨_,rfl,_,rfl,by omega,by omega,fun D hD=> ?_⟩;have sD:=aJ (o:=HO.lst []) hD
  have fD:H D=none:=by
   cases e:H D with
   | none=>rfl
   | some o=>
     rw [d4.p _ _ e (T4.R.ne hD)] at hD;cases hD
  have TD:=T4.claim (t:=[0]) sD hD ⟨_,ak⟩;have dD:=d4.trans (Dr.of_same sD);have tD:aV τ D [0] D=[0]:=bJ;have tg:∀x u,H x=some u->aV τ D [0] x=τ x:=fun x u e=>aW (aA e fD);have tcD:aV τ D [0] c=[0]:=(tg _ _ hc).trans tc
  have put:∀(Hx Hy:Hp) (vs:List V),Hx D=some (.lst vs)->RT (aV τ D [0]) Hx r->Dr τ r H Hx->Hy=Hx -> ∀ws,RT (aV τ D [0]) (upd Hy D (.lst ws)) r/\Dr τ r H (upd Hy D (.lst ws)) /\ ∀y ys,Hy y=some (.tup ys)->(upd Hy D (.lst ws)) y=some (.tup ys):=fun Hx Hy vs e1 T' d' e ws=>by
   subst e;refine ⟨T'.set e1 (by rw [tD];simp),⟨fun x o e t=> ?_,fun x xs e=> ?_,fun x o e n=> ?_⟩,fun y ys e=> ?_⟩
   ·rw [aD (aA e fD)];exact d'.k x o e t
   ·rw [aD (aA e fD)];exact d'.t x xs e
   ·rw [aD (aA e fD)];exact d'.p x o e n
   ·rw [aD (d_ e e1 (by intro z;cases z))];exact e
  have lift:∀{Ha Hb:Hp},Dr τ r H Ha->Dr (aV τ D [0]) r Ha Hb->Dr τ r H Hb:=fun a b=>⟨fun x o e t=>b.k _ _ (a.k x o e t) (by rw [tg x o e];exact t),fun x xs e=>b.t _ _ (a.t x xs e),a.p.trans b.p⟩;generalize eτ:aV τ D [0]=τ1 at TD tD tcD put lift
  refine nQ (lo:=0) (n:=mn.toNat) (fun j σ Hc=>∃(v:Option V) (vs:List V) (xs:List (Option Nt)),σ=[v,some (.ref r),some (.ref c)]/\Hc D=some (.lst vs)/\aR Hc vs (xs.map Wd)/\xs.length=j/\(∀x,some x∈xs->lK cs x)/\RT τ1 Hc r/\Dr τ r H Hc)
   ⟨none,[],[],rfl,ak,by simp [aR],rfl,by simp,TD,dD⟩ ?_ ?_
  ·rintro j σ Hc hj ⟨v,vs,xs,rfl,eD,dv,lx,xok,Tc,dc⟩
   dsimp only [gO,Fj];rw [if_pos rfl];have vl:vs.length=xs.length:=by rw [dv.length,List.length_map]
   have add:∀(o:Option Nt) (v:V) (H':Hp),RT τ1 H' r->Dr τ1 r Hc H'->Dat H' v (Wd o)->(∀x,o=some x->lK cs x) -> ∃acc,H' D=some (.lst acc)/\acc.length<sizeLine /\ ∃(w:Option V) (vs:List V) (xs:List (Option Nt)),[some (V.int (0+(j:Nat))),some (V.ref r),some (V.ref c)]=[w,some (.ref r),some (.ref c)]/\(upd H' D (.lst (acc++[v]))) D=some (.lst vs)/\aR (upd H' D (.lst (acc++[v]))) vs (xs.map Wd)/\xs.length=j+1/\(∀x,some x∈xs->lK cs x)/\RT τ1 (upd H' D (.lst (acc++[v]))) r/\Dr τ r H (upd H' D (.lst (acc++[v]))):=fun o v H' T' d' dd hok=>by
    have eD':=d'.k _ _ eD (by rw [tD];simp);obtain ⟨T6,d6,tup⟩:=put H' H' vs eD' T' (lift dc d') rfl (vs++[v]);refine ⟨vs,eD',(by rw [vl,lx,sizeLine_eq];omega),_,vs++[v],xs++[o],rfl,ak, ?_,by simp [lx],fun x hx=> ?_,T6,d6⟩
    ·rw [List.map_append]
     exact aR.append (aR.keep (fun y ys e=>tup _ _ (d'.t _ _ e)) _ (cY _ MN _) dv) (Nb (Dat.keep tup _ (MN o) dd))
    ·rcases List.mem_append.mp hx with hx|hx
     ·exact xok x hx
     ·exact hok x (List.mem_singleton.mp hx).symm
   refine ⟨_,rfl,_,rfl,r,c,τ1,cs,rfl,Tc,dc.k _ _ hc (by rw [tc];simp),tcD,ok,fun H' T' d'=> ?_,fun x p H' xk ep T' d'=> ?_⟩
   ·exact add none .non H' T' d' rfl (fun x e=>by cases e)
   ·exact add (some x) (.ref p) H' T' d' (GQ ep) (fun y e=>by cases e;exact xk)
  ·rintro σ Hc ⟨v,vs,xs,rfl,eD,dv,lx,xok,Tc,dc⟩
   have vl:vs.length=xs.length:=by rw [dv.length,List.length_map]
   dsimp only;refine mL (fun σ H'=>∃ns:List Nt,σ=[some (.ref r),some (.ref c),some (.int spl),some (.int mn),some (.int at_),some (.int pl),some (.ref D)]/\Same Hc H'/\xs=ns.map some/\0<ns.length) (fun D' hD' W2=> ?_) ?_
   ·refine ⟨_,rfl,D,vs,.none,_,rfl,bL.of eD,dv,rfl,rfl,fun e he=> ?_, ?_⟩
    ·obtain ⟨x,_,rfl⟩:=List.mem_map.mp he
     exact Zj x
    have nil:D'.rt=Q -> ∀H',Same Hc H' -> ∀D2,H' D2=some (.lst [])->Hc D2=none->D'.rt (.ref D2) H':=fun e H' s' D2 e2 f2=>by
     rw [e];have n2:D2≠D:=fun z=>by rw [z,eD] at f2;cases f2
     have T':=(RT.drop (t:=[0]) (D:=D) (by rw [eτ];exact Tc) (T4.un _ hD)).claim (t:=[0]) s' f2 ⟨_,e2⟩
     have f0:H D2=none:=by
      cases q:H D2 with
      | none=>rfl
      | some o=>rw [dc.p _ _ q (Tc.R.ne f2)] at f2;cases f2
     exact k D2 [] H' f0 ⟨[],e2,by simp [aR]⟩ (Nat.zero_le _) T' (dc.trans (Dr.of_same s'))
    rw [any_none];have n64:∀D2,Hc D2=none->Same Hc (upd Hc D2 (.lst [])):=fun D2 h2=>aJ h2
    by_cases hn:none∈xs
    ·rw [decide_eq_true hn]
     exact ⟨_,rfl,fM (fM ⟨(by show 0<=sizeLine;decide),fun D2 h2=>nil W2 _ (n64 D2 h2) D2 ak h2⟩)⟩
    rw [decide_eq_false hn];refine ⟨_,rfl,dz ⟨_,rfl,(by show 0<=sizeLine;decide),fun D2 h2=>⟨D,D2,vs,rfl,rfl,bL.of (n64 D2 h2 _ _ eD),bL.of ak,_,rfl, ?_⟩⟩⟩;obtain ⟨ns,rfl⟩:=all_some hn;rw [List.length_map] at lx;cases vs with
    | nil=>
      refine fM ⟨(by show 0<=sizeLine;decide),fun D3 h3=>nil W2 _ ((n64 D2 h2).trans (aJ h3)) D3 ak ((n64 D2 h2).free h3)⟩
    | cons v0 vs=>
      refine dz ?_;have l0:0<ns.length:=by rw [List.length_cons,List.length_map] at vl;omega
      exact hD' _ _ ⟨ns,rfl,n64 D2 h2,rfl,l0⟩
   ·rintro σ H5 ⟨ns,rfl,s5,rfl,l0⟩
    rw [List.length_map] at lx;have em:(ns.map some).map Wd=ns.map nD:=by rw [List.map_map];rfl
    rw [em] at dv;have Oz:∀x∈ns,lK cs x:=fun x hx=>xok x (List.mem_map.mpr ⟨x,hx,rfl⟩);have ln:ns.length<=6:=by omega
    have T5:=Tc.same s5;have d5:=dc.trans (Dr.of_same s5);have e5:=s5 _ _ eD;have dv5:=aR.same s5 _ dv;clear Tc dc dv eD s5 vl em xok;refine mL (fun σ H'=>∃(ns:List Nt) (vs:List V),σ=[some (.ref r),some (.ref c),some (.int spl),some (.int mn),some (.int at_),some (.int pl),some (.ref D)]/\H' D=some (.lst vs)/\aR H' vs (ns.map nD)/\ns.length<=7/\0<ns.length/\(∀x∈ns,lK cs x)/\RT τ1 H' r/\Dr τ r H H') (fun D' hD' W2=> ?_) ?_
    ·refine ⟨_,rfl,r,3,rfl,T5.R,by decide,by decide,fun u H6 u0 u1 R6 k6=>⟨rfl,_,rfl, ?_⟩⟩
     have T6:=T5.draw k6 R6;have e6:=T5.keep k6 e5 (by rw [tD];simp);have d6:Dr τ r H H6:=lift d5 (.draw T5 k6);have Xb:aR H6 vs (ns.map nD):=aR.keep (k6.tups T5.R) _ (cY _ pA _) dv5;have vl:vs.length=ns.length:=by rw [Xb.length,List.length_map]
     refine cU (fun _=> ?_) (fun _=>hD' _ _ ⟨ns,vs,rfl,e6,Xb,by omega,l0,Oz,T6,d6⟩);obtain ⟨x,en⟩:∃x,ns[0]? = some x:=⟨_,List.getElem?_eq_getElem l0⟩;obtain ⟨v,ev,dd⟩:=Xb.getD (i:=0) (d:=nD x) (by rw [List.getElem?_map,en];rfl);obtain ⟨T7,d7,tup⟩:=put H6 H6 vs e6 T6 d6 rfl (vs++[v]);refine ⟨_,rfl,.inl ⟨rfl,_,bL.of e6⟩,_,rfl,_,_,_,_,rfl,rfl,bL.of e6,gP (j:=0) ev,D,vs,_,rfl,rfl,e6,(by rw [vl,sizeLine_eq];omega),hD' _ _ ⟨ns++[x],vs++[v],rfl,ak, ?_,by simp;omega,by simp,fun y hy=> ?_,T7,d7⟩⟩
     ·rw [List.map_append]
      exact aR.append (aR.keep tup _ (cY _ pA _) Xb) (Nb (Dat.keep tup _ (pA x) dd))
     ·rcases List.mem_append.mp hy with hy|hy
      ·exact Oz y hy
      ·rw [List.mem_singleton.mp hy];exact Oz x (List.mem_of_getElem? en)
    rintro σ H6 ⟨ns,vs,rfl,e6,Xb,ln,l0,Oz,T6,d6⟩;have vl:vs.length=ns.length:=by rw [Xb.length,List.length_map]
    refine mL (fun σ H'=>∃(ns:List Nt) (vs:List V) (x4:Option V),σ=[some (.ref r),some (.ref c),some (.int spl),some (.int mn),x4,some (.int pl),some (.ref D)]/\H' D=some (.lst vs)/\aR H' vs (ns.map nD)/\ns.length<=7/\RT τ1 H' r/\Dr τ r H H') (fun D' hD' W2=> ?_) ?_
    ·refine ⟨_,rfl,rfl,_,rfl, ?_⟩
     refine cU (fun _=> ?_) (fun _=>hD' _ _ ⟨ns,vs,_,rfl,e6,Xb,ln,T6,d6⟩);refine ⟨_,rfl,_,rfl,D,_,rfl,.inl (bL.of e6),_,_,rfl,rfl,(by show (0:Int)<vs.length;omega), ?_⟩;rw [vl];have z0:0<=at_ % (ns.length:Int):=Int.emod_nonneg _ (by omega)
     have z1:at_ % (ns.length:Int)<ns.length:=Int.emod_lt_of_pos _ (by omega)
     obtain ⟨z,ez⟩:=Int.eq_ofNat_of_zero_le z0;dsimp only;rw [ez] at z1 ⊢;have zl:z<ns.length:=by omega
     have en:ns[z]? = some ns[z]:=List.getElem?_eq_getElem zl;obtain ⟨v,ev,dd⟩:=Xb.getD (i:=z) (d:=nD ns[z]) (by rw [List.getElem?_map,en];rfl);obtain ⟨p,rfl,hp⟩:=qN dd;obtain ⟨pp,rfl⟩:=Int.eq_ofNat_of_zero_le q0;refine ⟨_,rfl,_,rfl,_,rfl,_,_,_,_,rfl,rfl,bL.of e6,gP ev,_,rfl,_,rfl,r,p,c,τ1,cs,ns[z],pp,rfl,T6,d6.k _ _ hc (by rw [tc];simp),tcD,ok,hp,Oz _ (List.getElem_mem zl),by omega,fun y p' H7 hp' T7 d7=> ?_⟩;have e7:=d7.k _ _ e6 (by rw [tD];simp);obtain ⟨T8,d8,tup⟩:=put H7 H7 vs e7 T7 (lift d6 d7) rfl (vs.set z (.ref p'));refine ⟨_,rfl,_,rfl,D,vs,z,z,rfl,rfl,e7, ?_,hD' _ _ ⟨ns.set z y,vs.set z (.ref p'),_,rfl,ak, ?_,by rw [List.length_set];exact ln,T8,d8⟩⟩
     ·unfold JT
      rw [if_pos (by omega),if_pos (by omega),Int.toNat_natCast]
     ·rw [List.map_set]
      exact aR.set (GQ (tup _ _ hp')) z (aR.keep (fun y ys e=>tup _ _ (d7.t _ _ e)) _ (cY _ pA _) Xb)
    ·rintro σ H7 ⟨ns,vs,x4,rfl,e7,dv7,ln,T7,d7⟩
     exact ⟨_,rfl,k D ns H7 fD ⟨vs,e7,dv7⟩ (by omega) (by rw [eτ];exact T7) d7⟩
def Fy (CT CN:Addr) (K:PySem.W.Frag):Sp:=fun vs H Q _=>∃v:V,vs=[v]/\((v = .non/\Q (.int 0) H)\/(∃e,v = .ref e/\H e=some (XO CT none e) /\ ∀H',Same H H'->Q (.int 1) H')\/(∃e,v = .ref e/\H e=some (XO CN none e) /\ ∀H',Same H H'->Q (.int 2) H'))
theorem Wq {f:Addr} {fd:FuncData} (F:jY K "_law_kind" "_law_kind" mV f fd) {aM aH bh dg cg:Addr} (cZ:Xr K mg aM "NoNote") (bT:Xr K mg aH "NoHand") (lC:Xr K mg bh "Over") (vD:Xo K mg aM dg "Held" false) (qP:Xo K mg aM cg "NoCut" false) (gH:bZ K aM aH false) (iY:bZ K aM bh false) (gJ:bZ K aH aM false) (iZ:bZ K aH bh false) (i_:bZ K aH dg false) (iw:bZ K aH cg false) (Bt:rC mg):bV P w K mg base j4 1 f fd ["caught"] (Fy aM aH K):=by
 refine F.ok Rm (fun vs H Q E h=> ?_) (fun cdv A outer s H vs Q E hr h=> ?_)
 ·obtain ⟨v,rfl,_⟩:=h
  rfl
 ·obtain ⟨v,rfl,cases'⟩:=h
  refine ⟨_,(aF (cJ (bG Bv (pv 0) jq (bA _)) (aL (bF aG)) bN)
   (aF (cJ (PW.pt (oh (gB (eO (aX (Cp (K:=K) (c:= .type "ValueError") (cv:= .ty "ValueError") rfl (fun _ h=>h)) (by rfl) Bt.bK bI (aj (pv 0) (aj (fJ (v:= .ty "ValueError") (by rfl) Bt.Hl Ds rfl) aB))))) (mG (eO (aX (Qd (K:=K) rfl) (by rfl) Bt.bK bI (aj (pv 0) (aj (jQ (aj (jc (v:= .ref dg) (by rfl) vD.bd rfl) (aj (jc (v:= .ref cg) (by rfl) qP.bd rfl) (aj (jc (v:= .ref bh) (by rfl) lC.bd rfl) aB)))) aB))))))) (aL (bF aG)) bN)
   (aL (bF (aY (bB (K:=K) rfl) (fO (aj aG (aj aG (aj aG (aj aG aB))))) (bR kZ (cR pN (by rfl) Bt.CP vC (aj (aX (Cp (K:=K) (c:= .ref aM) (cv:= .ref aM) rfl (fun _ h=>h)) (by rfl) Bt.bK bI (aj (pv 0) (aj (jc (v:= .ref aM) (by rfl) cZ.bd rfl) aB))) aB)) (bR Bu aG (cR pN (by rfl) Bt.CP vC (aj (aX (Cp (K:=K) (c:= .ref aH) (cv:= .ref aH) rfl (fun _ h=>h)) (by rfl) Bt.bK bI (aj (pv 0) (aj (jc (v:= .ref aH) (by rfl) bT.bd rfl) aB))) aB)))) (fun _ _=>rfl)))))), ?_⟩
  rcases cases' with ⟨rfl,q⟩|⟨e,rfl,he,q⟩|⟨e,rfl,he,q⟩
  ·exact ⟨_,rfl,rfl,_,rfl,fM q⟩
  ·refine ⟨_,rfl,rfl,_,rfl,dz ?_⟩
   refine ⟨_,rfl,e,_,true,rfl,he,cZ.xc,Ef cZ.ve,_,rfl,dz ?_⟩;refine ⟨_,rfl,(by show 3<=sizeLine;decide),fun t ht=> ?_⟩;have st:=aJ (o:=HO.tup [V.ref dg,V.ref cg,V.ref bh]) ht
   refine ⟨e,t,_,[dg,cg,bh],false,rfl,st _ _ he,cZ.xc,ak,su (by
    intro D hD;simp only [List.mem_cons,List.not_mem_nil,or_false] at hD;rcases hD with rfl|rfl|rfl
    ·exact vD.kit
    ·exact qP.kit
    ·exact qJ lC.hd iY),_,rfl,dz ?_⟩
   refine ⟨(by show 4<=sizeLine;decide),fun l hl=> ?_⟩;have sl:=aJ (o:=HO.lst [V.int 3,V.int 1,V.int 2,V.int 3]) hl;have ee:=sl _ _ (st _ _ he);exact ⟨_,rfl,e,_,true,rfl,ee,cZ.xc,Jc,.inr ⟨_,rfl,_,rfl,e,_,false,rfl,ee,cZ.xc,qJ bT.hd gH,.inr ⟨_,rfl,_,_,rfl,rfl,.inl ⟨by decide,by decide⟩,_,_,rfl,rfl,_,_,_,_,rfl,rfl,bL.of ak,rfl,q _ (st.trans sl)⟩⟩⟩
  ·refine ⟨_,rfl,rfl,_,rfl,dz ?_⟩
   refine ⟨_,rfl,e,_,true,rfl,he,bT.xc,Ef bT.ve,_,rfl,dz ?_⟩;refine ⟨_,rfl,(by show 3<=sizeLine;decide),fun t ht=> ?_⟩;have st:=aJ (o:=HO.tup [V.ref dg,V.ref cg,V.ref bh]) ht
   refine ⟨e,t,_,[dg,cg,bh],false,rfl,st _ _ he,bT.xc,ak,su (by
    intro D hD;simp only [List.mem_cons,List.not_mem_nil,or_false] at hD;rcases hD with rfl|rfl|rfl
    ·exact qJ vD.hd i_
    ·exact qJ qP.hd iw
    ·exact qJ lC.hd iZ),_,rfl,dz ?_⟩
   refine ⟨(by show 4<=sizeLine;decide),fun l hl=> ?_⟩;have sl:=aJ (o:=HO.lst [V.int 3,V.int 1,V.int 2,V.int 3]) hl;have ee:=sl _ _ (st _ _ he);exact ⟨_,rfl,e,_,false,rfl,ee,bT.xc,qJ cZ.hd gJ,.inr ⟨_,rfl,_,rfl,e,_,true,rfl,ee,bT.xc,Jc,.inr ⟨_,rfl,_,_,rfl,rfl,.inl ⟨by decide,by decide⟩,_,_,rfl,rfl,_,_,_,_,rfl,rfl,bL.of ak,rfl,q _ (st.trans sl)⟩⟩⟩
def J9 (CW CH:Addr) (K:PySem.W.Frag):Sp:=fun vs H Q _=>∃(i:Nat) (τ:Tg) (t c a:Addr) (W:JH) (S:pO) (cs:List Int) (ns:List Nt),vs=[.ref W.o,.ref t]/\um CW CH i τ H W S/\q_ S/\S.m<=100/\RecAt H t c a cs ns/\tu cs/\ns.length<=60 /\ ∀H',Same H H'->Q (.int (yJ cs ns S.hs.length)) H'
theorem Bj {cs:List Int} {ns:List Nt} (c:tu cs) (l:ns.length<=100) (h:lM cs ns):E_ cs ns:=⟨c,l,h⟩
theorem Ys {cs:List Int} {ns:List Nt} {m:Nat} (h:lM cs ns) (e:cs.length=m):yJ cs ns m=0:=by
 unfold yJ;rw [if_pos (List.all_eq_true.mpr fun x hx=>decide_eq_true (h x hx)),if_pos e]
theorem TY {cs:List Int} {ns:List Nt} {m:Nat} (h:lM cs ns) (e:cs.length≠m):yJ cs ns m=2:=by
 unfold yJ;rw [if_pos (List.all_eq_true.mpr fun x hx=>decide_eq_true (h x hx)),if_neg e]
theorem T9 {cs:List Int} {ns:List Nt} {m:Nat} (h:¬lM cs ns):yJ cs ns m=1:=by
 unfold yJ;rw [if_neg fun z=>h fun x hx=>of_decide_eq_true (List.all_eq_true.mp z x hx)]
theorem Wm {aC aq au:Addr} {f:Addr} {fd:FuncData} (F:jY K "_law_made" "_law_made" mU f fd) {aM aH bD:Addr} (cZ:Xr K mg aM "NoNote") (bT:Xr K mg aH "NoHand") (dj:Xo K mg aM bD "NoteError" true) (cA:bZ K aH bD true) (aQ:eV K aC) (sV:oJ P w K mg base 10 aC "Replay" ["self","works","record"] [] (vO aC aq au aH aM K)) (Hu:FnAt P w K mg base 1 "_law_kind" ["caught"] (Fy aM aH K)) (Bt:rC mg):bV P w K mg base j4 12 f fd ["works","record"] (J9 aq au K):=by
 refine F.ok v7 (fun vs H Q E h=> ?_) (fun cdv A outer s H vs Q E hr h=> ?_)
 ·obtain ⟨i,τ,t,c,a,W,S,cs,ns,rfl,_⟩:=h
  rfl
 ·obtain ⟨i,τ,t,c,a,W,S,cs,ns,rfl,w0,gd,ml,R,Dq,nl,k⟩:=h
  refine ⟨_,(aF (bM (i:=2) v7.nd rfl (Or.inl rfl) jq)
   (aF (Ru (i:=3) rfl rfl rfl rfl v7.nd rfl rfl (by rfl) dj.bd dj.hd (fun _ _ _ _ hR=>(aL (fH (Ij sV rfl hR (hr.mono (by decide)) (by rfl) (aj (pv 0) (aj (pv 1) aB)))))) (fun _=>(aL (bM (i:=2) v7.nd rfl (Or.inl rfl) (pv 3)))))
   (aL (bF (b_ Hu (hr.mono (by decide)) (by rfl) (aj (pv 2) aB)))))), ?_⟩
  refine ⟨_,rfl,_,rfl,fun o dx ho hdx Qq=> ?_⟩;have ho':(upd H dx (.own o)) o=none:=by rw [aD Qq.symm];exact ho
  have sm:Same H (upd (upd H dx (.own o)) o (.ins aC dx [])):=(aJ hdx).trans (aJ ho');refine ⟨i,i+1,i+2,τ,o,dx,t,c,a,W,S,cs,ns,rfl,ak,w0.un _ ho,w0.same sm,gd,ml,R.same sm,Dq,by omega,Bj Dq (by omega),by omega,by omega,by omega,by omega,fun al hl τ1 Rr ns' H1 eR pm srt rp YW kp1=>⟨rfl, ?_⟩,fun al hl H1 s1=> ?_,fun Wu H1 s1=> ?_⟩
  ·have s01:Same H H1:=fun x u e=>kp1 _ _ (sm _ _ e) (aA e ho)
   have q:=k H1 s01;rw [Ys al hl] at q;exact ⟨_,rfl,_,rfl,.inl ⟨rfl,q⟩⟩
  ·refine ⟨_,rfl,cA.sub,fun e he=> ?_⟩
   have q:=fun H' s'=>k H' ((sm.trans s1).trans s');rw [TY al hl] at q;have se:=aJ (o:=XO aH none e) he;exact ⟨_,rfl,_,rfl,_,rfl,.inr (.inr ⟨e,rfl,ak,fun H' s'=>q H' (se.trans s')⟩)⟩
  ·refine ⟨_,rfl,dj.pr.sub,fun e he=> ?_⟩
   have q:=fun H' s'=>k H' ((sm.trans s1).trans s');rw [T9 Wu] at q;have se:=aJ (o:=XO aM none e) he;exact ⟨_,rfl,_,rfl,_,rfl,.inr (.inl ⟨e,rfl,ak,fun H' s'=>q H' (se.trans s')⟩)⟩
def zM (K:PySem.W.Frag):Sp:=fun vs H Q _=>∃(a l:Addr) (xs ks:List V) (k0:Int),vs=[.ref a,.ref l]/\H a=some (.lst xs)/\xs.length<=20000/\H l=some (.lst (.int k0::ks))/\a≠l /\ ∀D,H D=none->Q (.int k0) (upd (upd H D (.lst (.int k0::ks))) a (.lst (xs++[.ref D])))
theorem Sy {f:Addr} {fd:FuncData} (F:jY K "_law_asked" "_law_asked" jO f fd) (Bt:rC mg):bV P w K mg base j4 1 f fd ["seen","free"] (zM K):=by
 refine F.ok Ob (fun vs H Q E h=> ?_) (fun cdv A outer s H vs Q E hr h=> ?_)
 ·obtain ⟨a,l,xs,ks,k0,rfl,_⟩:=h
  rfl
 ·obtain ⟨a,l,xs,ks,k0,rfl,ha,xl,hl,Wu,k⟩:=h
  refine ⟨_,(aF (fH (kY (K:=K) rfl (pv 0) (aj (cR (cC (K:=K) rfl) (by rfl) Bt.iU fV (aj (pv 1) aB)) aB)))
   (aL (bF (aY (bB (K:=K) rfl) (pv 1) aG (fun _ _=>rfl))))), ?_⟩
  refine ⟨_,rfl,.inl ⟨rfl,_,bL.of ha⟩,_,rfl,l,_,rfl,.inl (bL.of hl),fun D hD=> ?_⟩;have sD:=aJ (o:=HO.lst (V.int k0::ks)) hD;refine ⟨a,xs,_,rfl,rfl,sD _ _ ha,by rw [sizeLine_eq];omega, ?_⟩;exact ⟨_,rfl,_,_,_,_,rfl,rfl,bL.of (by rw [aD Wu.symm];exact sD _ _ hl),gP (j:=0) rfl,k D hD⟩
def Vl:Stmt->List Stmt
 | .Try b _ _ _ _=>b
 | _=>[]
def W7:Stmt->Option Expr
 | .Expr v _=>some v
 | _=>none
def Uo:Expr->Option Expr
 | .Call _ es _ _=>es.getLast?
 | _=>none
def lamP:Option Expr->Arguments
 | some (.Lambda p _ _ _)=>p
 | _=>aN rQ
def aad:Option Expr->Expr
 | some (.Lambda _ b _ _)=>b
 | _=> .Constant .none 0 ⟨0,0,0,0⟩
def K6:Option Expr->Scope
 | some (.Lambda _ _ s _)=>s
 | _=>ao rQ
def lamO:Option Expr->Pos
 | some (.Lambda _ _ _ o)=>o
 | _=>⟨0,0,0,0⟩
def wH:Option Expr:=((aK dH)[2]?).bind fun t=>((Vl t)[0]?).bind fun m=>(W7 m).bind Uo
def Ww:Str:= "_law_played" ++ ".<locals>." ++ "<lambda>"
def Zf:List V->Hp->VK->Prop:=fun vs H Q=>∃(a l:Addr) (xs ks:List V) (k0:Int),vs=[.ref l,.ref a]/\H a=some (.lst xs)/\xs.length<=20000/\H l=some (.lst (.int k0::ks))/\a≠l /\ ∀D,H D=none->Q (.int k0) (upd (upd H D (.lst (.int k0::ks))) a (.lst (xs++[.ref D])))
theorem Pa (Dd:FnAt P w K mg base 1 "_law_asked" ["seen","free"] (zM K)):Ls P w K mg base 1 ["free"] ["seen"] Ww (lamP wH) (aad wH) (K6 wH) Zf:=by
 refine ⟨.of (by kernel_rfl),fun pm ctv c cl us hl=> ?_,fun f c cl A outer s H vs Q hr h=> ?_⟩
 ·match us,hl with
  | [u],_=>rfl
 ·obtain ⟨a,l,xs,ks,k0,rfl,ha,xl,hl,Wu,k⟩:=h
  refine ⟨_,(b_ Dd (hr.mono (by decide)) (by rfl) (aj (pv 1) (aj (pv 0) aB))), ?_⟩;exact ⟨_,rfl,_,rfl,a,l,xs,ks,k0,rfl,ha,xl,hl,Wu,k⟩
def LT (p:Addr) (H:Hp):Prop:=aaW H p (lamO wH) Ww
theorem fK {p:Addr} {H H':Hp} (h:LT p H) (s:Same H H'):LT p H':=by
 rcases h with e|⟨c,e,f⟩
 ·exact .inl (s _ _ e)
 ·exact .inr ⟨c,s _ _ e,s _ _ f⟩
theorem Yg {p l:Addr} {H H':Hp} {xs:List V} (h:LT p H) (hl:H l=some (.lst xs)) (k:Kp l H H'):LT p H':=by
 rcases h with e|⟨c,e,f⟩
 ·exact .inl (k _ _ e (fun z=>by rw [z,hl] at e;cases e))
 ·exact .inr ⟨c,k _ _ e (fun z=>by rw [z,hl] at e;cases e),k _ _ f (fun z=>by rw [z,hl] at f;cases f)⟩
theorem k_ {p:Addr} {H:Hp} (h:LT p H):∃ps,H p=some (.u6 ps):=by
 rcases h with e|⟨c,e,_⟩
 ·exact ⟨_,e⟩
 ·exact ⟨_,e⟩
theorem Ri {G:Hp} {cs:List Addr} {D a:Addr} {x y:HO} (hD:D∉cs) (ha:a∉cs):U_ G (upd (upd (hide G cs) D x) a y) cs=upd (upd G D x) a y:=by
 funext b
 by_cases z:b∈cs
 ·rw [FQ z,aD (fun q:b=a=>ha (by rw [←q];exact z)),aD (fun q:b=D=>hD (by rw [←q];exact z))]
 ·rw [nZ z]
  by_cases q:b=a
  ·rw [q,ak,ak]
  ·rw [aD q,aD q]
   by_cases q2:b=D
   ·rw [q2,ak,ak]
   ·rw [aD q2,aD q2,cu z]
theorem G3 {G:Hp} {cl:List (Str×Addr)} {xs:List Str} {vs ys:List V} {a:Addr} (C:xH G cl xs vs) (h:G a=some (.lst ys)):a∉cl.map (·.2):=fun z=>by
 obtain ⟨o,q,e,_⟩:=C.all a z;rw [h] at e;cases e
theorem Ia {H H1:Hp} {cs:List Addr} (h:hide H cs=H1):Same H1 H:=fun b o e=>by
 rw [←h] at e
 by_cases z:b∈cs
 ·rw [je z] at e;cases e
 ·rw [cu z] at e;exact e
theorem Rp {p t c a:Addr} {H H':Hp} {cs:List Int} {ns:List Nt} (R:RecAt H t c a cs ns) (h:LT p H) (k:Kp p H H'):RecAt H' t c a cs ns:=by
 obtain ⟨ps,hp⟩:=k_ h;have ne:∀x o,H x=some o->(∀q,o ≠ .u6 q)->x≠p:=fun x o e n z=>by rw [z,hp] at e;cases e;exact n _ rfl
 obtain ⟨e1,e2,vs,e3,d⟩:=R;refine ⟨k _ _ e1 (ne _ _ e1 (by intro q z;cases z)),k _ _ e2 (ne _ _ e2 (by intro q z;cases z)),vs,k _ _ e3 (ne _ _ e3 (by intro q z;cases z)),aR.keep (fun y ys e=>k _ _ e (ne _ _ e (by intro q z;cases z))) _ (cY _ pA _) d⟩
def yh (p CW CH:Addr) (K:PySem.W.Frag):Sp:=fun vs H Q _=>∃(i:Nat) (τ:Tg) (t c a:Addr) (W:JH) (S:pO) (cs:List Int) (ns:List Nt),vs=[.ref W.o,.ref t]/\um CW CH i τ H W S/\q_ S/\S.m<=100/\S.ts.length<=6000/\RecAt H t c a cs ns/\tu cs/\ns.length<=60/\LT p H/\τ p=[] /\ ∀H',Kp p H H'->LT p H'->Q (.int (yJ cs ns S.hs.length)) H'
theorem KQ {aq au:Addr} {p f:Addr} {fd:FuncData} (F:Qm K "_law_played" "_law_played" dH p f fd) {aM aH bD:Addr} (cZ:Xr K mg aM "NoNote") (bT:Xr K mg aH "NoHand") (dj:Xo K mg aM bD "NoteError" true) (cA:bZ K aH bD true) (Dd:FnAt P w K mg base 1 "_law_asked" ["seen","free"] (zM K)) (U3:xr P w K mg base 12 "played" ["works","record","choose"] (Ar P w mg base 2 aq au aH aM K)) (Hu:FnAt P w K mg base 1 "_law_kind" ["caught"] (Fy aM aH K)) (BM:Bm mg base) (Bt:rC mg):bV P w K mg base j4 13 f fd ["works","record"] (yh p aq au K):=by
 refine F.ok nF (fun vs H Q E h=> ?_) (fun cdv A outer s H vs Q E hcd hr h=> ?_)
 ·obtain ⟨i,τ,t,c,a,W,S,cs,ns,rfl,_⟩:=h
  rfl
 ·obtain ⟨i,τ,t,c,a,W,S,cs,ns,rfl,w0,gd,ml,tl,R,Dq,nl,lt,tp,k⟩:=h
  have wK:=hr.units;have LC:U0 (K6 wH) (ao dH) ["works","record","seen","caught","e"] ["seen"] [2]:= .of (by kernel_rfl);have LA:=Pa (P:=P) (w:=w) (K:=K) (mg:=mg) (base:=base) Dd
  refine ⟨_,(aF (bM (i:=2) nF.nd rfl (Or.inr rfl) (fO aB))
   (aF (bM (i:=3) nF.nd rfl (Or.inl rfl) jq)
   (aF (Ru (i:=4) rfl rfl rfl rfl nF.nd rfl rfl (by rfl) dj.bd dj.hd (fun _ _ _ _ hR=>(aL (fH (Oh (PyProof.Rows.envOfC "_law_played" (ao dH) s.heap.objs.size f (.ref cdv)) rfl (scope:=K6 wH) (xs:=["seen"]) (caps:=[2]) U3 rfl hR (hr.mono (by decide)) (by rfl) (aj (pv 0) (aj (pv 1) (aj (RJ (PyProof.Rows.envOfC "_law_played" (ao dH) s.heap.objs.size f (.ref cdv)) ((mg "__name__").getD .none) rfl rfl BM rfl hcd (fun y hy e=> .inl (LC.free y hy e))) aB))) (fun _=>rfl) LC.free LC.mem LC.len LC.cap)))) (fun _=>(aL (bM (i:=3) nF.nd rfl (Or.inl rfl) (pv 4)))))
   (aF (cJ (PW.pt (Ko (bG Gg (pv 3) jq (bA _)) (Gb (bG (RW (K:=K) rfl wK) (pv 2) (fO aB) (bA _))))) (aL (bF aG)) bN)
   (aL (bF (b_ Hu (hr.mono (by decide)) (by rfl) (aj (pv 3) aB)))))))), ?_⟩
  refine ⟨(by show 0<=sizeLine;decide),fun ls hls=> ?_⟩;have sl:=aJ (o:=HO.lst []) hls;have els:(upd H ls (.lst [])) ls=some (.lst []):=ak;have O7:=fK lt sl
  have npl:ls≠p:=fun z=>by
   obtain ⟨ps,e⟩:=k_ lt;rw [z,e] at hls;cases hls
  generalize (upd H ls (.lst []))=H1 at sl els O7 ⊢;dsimp only [gO];refine ⟨_,rfl,_,rfl,O7,fun fl H2 hfl LF O6 kp2=>⟨[.ref ls],rfl,fun H3 eh C3=> ?_⟩⟩;have HD:=Ia eh;have W_:=kp2 _ _ els npl;have Jo:=HD _ _ W_;have Tf:Kp p H H2:=(Kp.of_same sl).trans kp2;have LF:JM H2 fl Ww (lamP wH) (aad wH) (K6 wH) ((mg "__name__").getD .none) (fY (PyProof.Rows.envOfC "_law_played" (ao dH) s.heap.objs.size f (.ref cdv)) (K6 wH).names []):=LF;generalize fY (PyProof.Rows.envOfC "_law_played" (ao dH) s.heap.objs.size f (.ref cdv)) (K6 wH).names []=cl at *;have Mz:=fK O6 HD;have lsc:ls∉cl.map (·.2):=G3 C3 Jo
  have key:∃τ0:Tg,um aq au i τ0 H3 W S/\τ0 ls=[i+4] /\ ∀x o,H3 x=some o->x≠ls->(τ0 x).head?≠some (i+1)/\(τ0 x).head?≠some (i+2)/\(τ0 x).head?≠some (i+3):=by
   refine ⟨fun x=>if x=ls then [i+4] else if τ x=[0]\/(τ x).head?=some i then τ x else [], ?_,if_pos rfl,fun x o e n=> ?_⟩
   ·refine w0.mv ⟨fun x o e t=> ?_,fun x xs e=> ?_⟩ fun x e=> ?_
    ·have nx:x≠ls:=aA e hls
     have np:x≠p:=fun z=>by
      rw [z,tp] at t;rcases t with t|t<;>cases t
     refine ⟨HD _ _ (Tf _ _ e np), ?_⟩;show (if x=ls then _ else _)=_;rw [if_neg nx,if_pos t]
    ·obtain ⟨ps,hp⟩:=k_ lt
     exact HD _ _ (Tf _ _ e fun z=>by rw [z,hp] at e;cases e)
    ·have e2:=HD.free e
     have nls:x≠ls:=fun z=>by rw [z,Jo] at e;cases e
     have e0:H x=none:=by
      cases q:H x with
      | none=>rfl
      | some o=>
        have np:x≠p:=fun z=>by
         obtain ⟨ps,hp⟩:=k_ O6;rw [z,hp] at e2;cases e2
        rw [Tf _ _ q np] at e2;cases e2
     show (if x=ls then _ else _)=_;rw [if_neg nls,w0.un _ e0];split<;>rfl
   ·show (if x=ls then _ else _:List Nat).head?≠_/\(if x=ls then _ else _:List Nat).head?≠_/\(if x=ls then _ else _:List Nat).head?≠_
    rw [if_neg n];split
    ·rename_i q
     rcases q with q|q
     ·rw [q]
      refine ⟨?_, ?_, ?_⟩<;>(intro z;have:=Option.some.inj z;omega)
     ·rw [q]
      refine ⟨?_, ?_, ?_⟩<;>(intro z;have:=Option.some.inj z;omega)
    ·refine ⟨?_, ?_, ?_⟩<;>(intro z;cases z)
  obtain ⟨τ0,w3,tls,af0⟩:=key;have R3:=(Rp R lt Tf).same HD
  have fin:∀Hz,Kp ls H3 Hz->Kp p H (hide Hz (cl.map (·.2)))/\LT p (hide Hz (cl.map (·.2))):=fun Hz kz=>by
   have g:∀x o,H2 x=some o->x≠ls->hide Hz (cl.map (·.2)) x=some o:=fun x o e n=>by
    have nx:x∉cl.map (·.2):=fun z=>by rw [←eh,je z] at e;cases e
    rw [cu nx];exact kz _ _ (HD _ _ e) n
   refine ⟨fun x o e n=>g x o (Tf _ _ e n) (aA e hls), ?_⟩;rcases O6 with e|⟨c,e,q⟩
   ·exact .inl (g _ _ e npl.symm)
   ·exact .inr ⟨c,g _ _ e npl.symm,g _ _ q (fun z=>by rw [z,W_] at q;cases q)⟩
  have bad:∀(e:Addr) (Hz:Hp) (ev:HO),Same H3 Hz->(hide Hz (cl.map (·.2))) e=none->Kp p H (upd (hide Hz (cl.map (·.2))) e ev)/\LT p (upd (hide Hz (cl.map (·.2))) e ev)/\(upd (hide Hz (cl.map (·.2))) e ev) ls=some (.lst []):=fun e Hz ev sz he=>by
   obtain ⟨k1,l1⟩:=fin Hz (.of_same sz);have se:=aJ (o:=ev) he;exact ⟨k1.trans (.of_same se),fK l1 se,se _ _ (by rw [cu lsc];exact sz _ _ Jo)⟩
  refine ⟨i,i+1,i+2,i+3,τ0,t,c,a,fl,W,S,cs,ns,fun od τ1 G=>Kp ls H3 G/\(∀x o,H3 x=some o->τ1 x=τ0 x) /\ ∃xs:List V,G ls=some (.lst xs)/\xs.length<=od.length,rfl,w3,gd,ml,tl,R3,Dq,by omega,Bj Dq (by omega),by omega,by omega,by omega,by omega,by omega,by omega,by omega,fun Wu Hz sz=>⟨_,rfl,dj.pr.sub,fun e he=> ?_⟩,fun al hl Hz sz=>⟨_,rfl,cA.sub,fun e he=> ?_⟩,fun al hl ns' pm srt=>⟨fun τ1 G sg tg un=> ?_,fun od τ1 G1 τ2 G2 wi ot un=> ?_,fun od τ1 G l ol wi un fne hl=> ?_,fun od τ1 G l wi un fz el fl0=> ?_⟩⟩
  ·obtain ⟨k1,l1,e1⟩:=bad e Hz (XO aM none e) sz he
   have ee:(upd (hide Hz (cl.map (·.2))) e (XO aM none e)) e=some (XO aM none e):=ak;generalize (upd (hide Hz (cl.map (·.2))) e (XO aM none e))=Hy at k1 l1 e1 ee ⊢;refine ⟨_,rfl,_,rfl,rfl,_,rfl,fM ⟨_,rfl,(by show 0<=sizeLine;decide),fun D2 h2=> ?_⟩⟩;have s2:=aJ (o:=HO.lst []) h2;refine ⟨ls,D2,[],rfl,rfl,bL.of (s2 _ _ e1),bL.of ak,_,rfl,dz ⟨_,rfl,_,rfl,.inr (.inl ⟨e,rfl,s2 _ _ ee,fun H' s'=> ?_⟩)⟩⟩;have q:=k H' ((k1.trans (.of_same s2)).trans (.of_same s')) (fK (fK l1 s2) s');rw [T9 Wu] at q;exact q
  ·obtain ⟨k1,l1,e1⟩:=bad e Hz (XO aH none e) sz he
   have ee:(upd (hide Hz (cl.map (·.2))) e (XO aH none e)) e=some (XO aH none e):=ak;generalize (upd (hide Hz (cl.map (·.2))) e (XO aH none e))=Hy at k1 l1 e1 ee ⊢;refine ⟨_,rfl,_,rfl,rfl,_,rfl,fM ⟨_,rfl,(by show 0<=sizeLine;decide),fun D2 h2=> ?_⟩⟩;have s2:=aJ (o:=HO.lst []) h2;refine ⟨ls,D2,[],rfl,rfl,bL.of (s2 _ _ e1),bL.of ak,_,rfl,dz ⟨_,rfl,_,rfl,.inr (.inr ⟨e,rfl,s2 _ _ ee,fun H' s'=> ?_⟩)⟩⟩;have q:=k H' ((k1.trans (.of_same s2)).trans (.of_same s')) (fK (fK l1 s2) s');rw [TY al hl] at q;exact q
  ·exact ⟨.of_same sg,tg,[],sg _ _ Jo,Nat.le_refl _⟩
  ·obtain ⟨k1,t1,xs,ex,lx⟩:=wi
   have kp:∀x o,H3 x=some o->x≠ls->G2 x=some o/\τ2 x=τ1 x:=fun x o e n=>by
    obtain ⟨a1,a2,a3⟩:=af0 x o e n;rw [←t1 x o e] at a1 a2 a3;exact ot.keep _ _ (k1 _ _ e n) a1 a2 a3
   have kl:G2 ls=some (.lst xs)/\τ2 ls=τ1 ls:=by
    have tl1:τ1 ls=[i+4]:=(t1 _ _ Jo).trans tls;refine ot.keep _ _ ex ?_ ?_ ?_<;>(rw [tl1];intro z;have:=Option.some.inj z;omega)
   refine ⟨fun x o e n=>(kp x o e n).1,fun x o e=> ?_,xs,kl.1,lx⟩
   by_cases n:x=ls
   ·rw [n,kl.2];exact t1 _ _ Jo
   ·rw [(kp x o e n).2];exact t1 x o e
  ·obtain ⟨k1,t1,xs,ex,lx⟩:=wi
   obtain ⟨n0,fr,efr⟩:∃n0 fr,jr S cs ns' od=n0::fr:=by
    cases q:jr S cs ns' od with
    | nil=>exact absurd q fne
    | cons a l=>exact ⟨a,l,rfl⟩
   rw [efr];have sn:=aJ (o:=HO.lst ((n0::fr).map fun k:Nat=>V.int k)) hl;have elG:(upd G l (.lst ((n0::fr).map fun k:Nat=>V.int k))) l=some (.lst ((n0::fr).map fun k:Nat=>V.int k)):=ak;have exG:=sn _ _ ex;have kG:∀x o,H3 x=some o->x≠ls->(upd G l (.lst ((n0::fr).map fun k:Nat=>V.int k))) x=some o:=fun x o e n=>sn _ _ (k1 _ _ e n);have nll:ls≠l:=aA ex hl;have unG:∀H',(∀x,H' x=none->(upd G l (.lst ((n0::fr).map fun k:Nat=>V.int k))) x=none)->pU τ1 H':=fun H' h=>un.dom fun x e=>sn.free (h x e);generalize (upd G l (.lst ((n0::fr).map fun k:Nat=>V.int k)))=G' at sn elG exG kG unG ⊢
   have LF':JM G' fl Ww (lamP wH) (aad wH) (K6 wH) ((mg "__name__").getD .none) cl:=by
    obtain ⟨c,ctv,e1,e2⟩:=LF;exact ⟨c,ctv,kG _ _ (HD _ _ e1) (fun z=>by rw [z,W_] at e1;cases e1),kG _ _ (HD _ _ e2) (fun z=>by rw [z,W_] at e2;cases e2)⟩
   have C':xH G' cl ["seen"] [.ref ls]:=C3.keep fun b o u e=>kG _ _ e (fun z=>by rw [z,Jo] at e;cases e);have ls':=G3 C' exG;have l':=G3 C' elG;refine Xi LA LF' C' rfl rfl ⟨ls,l,xs,fr.map (fun k:Nat=>V.int k),n0,rfl,by rw [cu ls'];exact exG,by omega,by rw [cu l'];exact elG,nll,fun D hD hcn=> ?_⟩
   have ael:D∉cl.map (·.2):=fun z=>by
    have:=hcn D z;have nd:D≠ls:=fun q=>ls' (by rw [←q];exact z);rw [aD nd,ak] at this;cases this
   rw [Ri ael ls'];rw [cu ael] at hD;have sD:=aJ (o:=HO.lst (V.int n0::fr.map fun k:Nat=>V.int k)) hD;have En:=sD _ _ exG;generalize eU:(upd G' D (.lst (V.int n0::fr.map fun k:Nat=>V.int k)))=U at sD En ⊢;have st:rF (i+4) τ1 U (upd U ls (.lst (xs++[.ref D]))):=rF.set (by rw [t1 _ _ Jo,tls];rfl) En (by intro xs z;cases z);have mv:∀j,j≠i+4->Mv j τ1 G τ1 (upd U ls (.lst (xs++[.ref D]))):=fun j hj=>(Mv.of_same (sn.trans sD)).trans (Mv.o_ st (fun z=>hj z.symm) (by omega));have unU:pU τ1 (upd U ls (.lst (xs++[.ref D]))):=st.un (unG U fun x e=>sD.free e);refine ⟨n0,τ1,rfl,mv _ (by omega),mv _ (by omega),mv _ (by omega),unU,fun kk e hk=>⟨fun x o e n=> ?_,t1,xs++[.ref D],ak, ?_⟩,fun z=>absurd ?_ (z n0 rfl)⟩
   ·rw [aD n]
    exact sD _ _ (kG _ _ e n)
   ·rw [List.length_append,List.length_append,List.length_singleton,List.length_singleton];omega
   ·exact List.mem_cons_self
  ·obtain ⟨k1,t1,xs,ex,lx⟩:=wi
   obtain ⟨kp,lz⟩:=fin G k1;refine ⟨_,rfl,rfl,_,rfl,dz ⟨_,rfl,_,rfl,.inl ⟨rfl, ?_⟩⟩⟩;have q:=k _ kp lz;rw [Ys al hl] at q;exact q
def rD (cs:List Int) (ns:List Nt):PyData:= .tuple [.list (cs.map PyData.int),.list (ns.map nD)]
theorem Nf {H:Hp} {t c a:Addr} {cs:List Int} {ns:List Nt} (h:RecAt H t c a cs ns):Dat H (.ref t) (rD cs ns):=by
 obtain ⟨ht,hc,vs,ha,dv⟩:=h;simp only [rD,Dat];refine ⟨t,_,rfl,ht, ?_⟩;simp only [aR,and_true];exact ⟨jT hc,Jt ha dv⟩
theorem vd (cs:List Int) (ns:List Nt):SeqAt.shaped (rD cs ns)=true:=by
 have e1:=shaped_ints cs;have e2:=Kc ns;simp only [SeqAt.shaped,PyData.depth,PyData.depthAll,PyData.canLay0,PyData.canLayAll0,rD,Bool.and_eq_true,decide_eq_true_eq,Bool.and_true] at e1 e2 ⊢;have d1:PyData.depthAll (cs.map PyData.int)<=0:=mX _ 0 cs (fun _ _=>by show 0<=0;decide);have d2:PyData.depthAll (ns.map nD)<=1:=mX _ 1 ns (fun _ _=>by show (max 0 (max 0 (max 0 (max 0 0))))+1<=1;decide);refine ⟨?_, ?_⟩<;>first |(clear e2 e1;omega)|exact ⟨e1.1,e2.1⟩|exact ⟨e1.2,e2.2⟩|skip
theorem cnt_nil {S:pO} (h:S.ts=[]):P_ S=List.replicate S.hs.length 0:=by
 unfold P_;rw [h,List.eq_replicate_iff];refine ⟨by simp,fun b hb=> ?_⟩;obtain ⟨k,_,rfl⟩:=List.mem_map.mp hb;rfl
theorem rM (n:Nat):(List.replicate n (0:Int)).sum=0:=by simp
theorem aaE {cs:List Int} (ok:tu cs):decide (List.replicate cs.length (0:Int)=cs)=decide (V.int cs.sum=V.int 0):=by
 rw [decide_eq_decide];constructor
 ·intro h
  rw [←h,rM]
 ·intro h
  have h:=V.int.inj h
  have key:∀l:List Int,(∀c∈l,0<=c)->0<=l.sum/\(l.sum=0->List.replicate l.length 0=l):=fun l=>by
   induction l with
   | nil=>intro _;exact ⟨by simp,fun _=>rfl⟩
   | cons c l ih=>
     intro hp;obtain ⟨a,b⟩:=ih fun d hd=>hp d (by simp [hd]);have:=hp c (by simp);rw [List.sum_cons];refine ⟨by omega,fun e=> ?_⟩;have e0:c=0:=by omega
     rw [List.length_cons,List.replicate_succ,b (by omega),e0]
  exact (key cs fun c hc=>(ok.2 c hc).1).2 h
theorem DN (n:Nat):(List.replicate ((n:Nat):Int).toNat [V.int 0]).flatten=(List.replicate n (0:Int)).map V.int:=by
 rw [Int.toNat_natCast,List.map_replicate]
 induction n with
 | zero=>rfl
 | succ n ih=>rw [List.replicate_succ,List.flatten_cons,ih,List.replicate_succ];rfl
theorem BK {p x:Addr} {H H':Hp} {xs:List V} (h:LT p H) (k:Kp p H H') (e:H x=some (.lst xs)):H' x=some (.lst xs):=by
 obtain ⟨ps,hp⟩:=k_ h;exact k _ _ e fun z=>by rw [z,hp] at e;cases e
theorem YH {p:Addr} {CW CH:Addr} {i:Nat} {τ:Tg} {H H':Hp} {W:JH} {S:pO} (w:um CW CH i τ H W S) (h:LT p H) (h':LT p H') (tp:τ p=[]) (k:Kp p H H'):um CW CH i τ H' W S:=by
 obtain ⟨ps,hp⟩:=k_ h;refine w.mv (Mv.aco k hp (by intro xs z;cases z) tp) (w.un.dom fun x e=> ?_);cases q:H x with
 | none=>rfl
 | some o=>
   have np:x≠p:=fun z=>by
    obtain ⟨ps',hp'⟩:=k_ h';rw [z,hp'] at e;cases e
   rw [k _ _ q np] at e;cases e
def xZ (p CW CH:Addr) (K:PySem.W.Frag):Sp:=fun vs H Q _=>∃(i:Nat) (τ:Tg) (c a:Addr) (W:JH) (S:pO) (cs:List Int) (ns:List Nt),vs=[.ref W.o,.ref c,.ref a,.int S.hs.length]/\um CW CH i τ H W S/\q_ S/\S.m<=100/\S.ts=[]/\S.hs.length<=8/\H c=some (.lst (cs.map V.int))/\ur H a ns/\tu cs/\ns.length<=60/\LT p H/\τ p=[] /\ ∀H',Kp p H H'->LT p H'->Q (.bl true) H'
theorem Kw {aC aq au aH aM:Addr} {f:Addr} {fd:FuncData} (F:jY K "_law_right" "_law_right" jL f fd) (aQ:eV K aC) (aU:gK K aq) (aaY:FnAt P w K mg base 2 "_law_due" ["counts","some","hands"] (FN K)) (XF:FnAt P w K mg base 12 "_law_made" ["works","record"] (J9 aq au K)) (Qo:FnAt P w K mg base 13 "_law_played" ["works","record"] (yh p aq au K)) (sV:sW P w K mg base 10 aC "Replay" ["self","works","record"] [] (fun vs H Q _=>vO aC aq au aH aM K vs H Q fun _ _ _=>False)) (zH:MethAt P w K mg base 1 aC "counts" ["self"] (yc aC aq au K)) (DG:MethAt P w K mg base 1 aC "done" ["self"] (Fw aC aq au K)) (yQ:MethAt P w K mg base 2 aC "__len__" ["self"] (J8 aC aq au K)) (nR:MethAt P w K mg base 1 aq "counts" ["self"] (vR aq au K)) (xu:FnAt P w K mg base 3 "_law_alike" ["found","due"] (qy 2 K)) (Bt:rC mg):bV P w K mg base j4 14 f fd ["works","counts","some","hands"] (xZ p aq au K):=by
 refine F.ok tQ (fun vs H Q E h=> ?_) (fun cdv A outer s H vs Q E hr h=> ?_)
 ·obtain ⟨i,τ,c,a,W,S,cs,ns,rfl,_⟩:=h
  rfl
 ·obtain ⟨i,τ,c,a,W,S,cs,ns,rfl,w0,gd,ml,ts0,h8,hc,⟨vs,ha,dv⟩,Dq,nl,lt,tp,k⟩:=h
  have wK:=hr.units
  refine ⟨_,(aF (bM (i:=4) tQ.nd rfl (Or.inl rfl) (jQ (aj (cR (cC (K:=K) rfl) (by rfl) Bt.iU fV (aj (pv 1) aB)) (aj (cR (cC (K:=K) rfl) (by rfl) Bt.iU fV (aj (pv 2) aB)) aB))))
   (aF (bM (i:=5) tQ.nd rfl (Or.inl rfl) (b_ aaY (hr.mono (by decide)) (by rfl) (aj (pv 1) (aj (pv 2) (aj (pv 3) aB)))))
   (aF (cJ (PW.pt (oh (bG pJ (b_ XF (hr.mono (by decide)) (by rfl) (aj (pv 0) (aj (pv 4) aB))) (pv 5) (bA _)) (mG (bG pJ (b_ Qo (hr.mono (by decide)) (by rfl) (aj (pv 0) (aj (pv 4) aB))) (pv 5) (bA _))))) (aL (bF wu)) bN)
   (aF (cJ (bG gj (pv 5) aG (bA _)) (aF (bM (i:=6) tQ.nd rfl (Or.inl rfl) (rT sV (hr.mono (by decide)) (by rfl) (aj (pv 0) (aj (pv 4) aB))))
   (aF (cJ (PW.pt (oh (gB (eO (b_ xu (hr.mono (by decide)) (by rfl) (aj (fX zH aQ.cls (hr.mono (by decide)) (pv 6)) (aj (bR Br (fO (aj aG aB)) (pv 3)) aB))))) (mG (bG pJ (aX (Qc yQ (hr.mono (by decide))) (by rfl) Bt.gk dY (aj (pv 6) aB)) (aX (Eu (K:=K) rfl rfl) (by rfl) Bt.Yu Ur (aj (pv 1) aB)) (bA _))))) (aL (bF wu)) bN)
   (aL (cJ (gB (eO (b_ xu (hr.mono (by decide)) (by rfl) (aj (fX DG aQ.cls (hr.mono (by decide)) (pv 6)) (aj (dU gj (aX (Eu (K:=K) rfl rfl) (by rfl) Bt.Yu Ur (aj (pv 1) aB)) aG (bA _)) aB))))) (aL (bF wu)) bN)))) bN)
   (aL (bF (nH (dU (Gi (K:=K) rfl wK) (pv 4) (jQ (aj (pv 1) (aj (pv 2) aB))) (bA _)) (qD (dU (Gi (K:=K) rfl wK) (fX nR aU.cls (hr.mono (by decide)) (pv 0)) (bR Br (fO (aj aG aB)) (pv 3)) (bA _)))))))))), ?_⟩
  have c8:=Dq.1;have vl:vs.length=ns.length:=by rw [dv.length,List.length_map]
  refine ⟨_,rfl,c,_,rfl,.inl (bL.of hc),fun c2 hc2=> ?_⟩;have sc2:=aJ (o:=HO.lst (cs.map V.int)) hc2;refine ⟨_,rfl,a,_,rfl,.inl (bL.of (sc2 _ _ ha)),fun a2 ha2=>⟨(by show 2<=sizeLine;decide),fun t ht=> ?_⟩⟩;have sa2:=aJ (o:=HO.lst vs) ha2;have st:=aJ (o:=HO.tup [V.ref c2,V.ref a2]) ht;have s1:=(sc2.trans sa2).trans st;have R1:RecAt (upd (upd (upd H c2 (.lst (cs.map V.int))) a2 (.lst vs)) t (.tup [V.ref c2,V.ref a2])) t c2 a2 cs ns:=⟨ak,st _ _ (sa2 _ _ ak),vs,st _ _ ak,dv.same s1 _⟩;generalize (upd (upd (upd H c2 (.lst (cs.map V.int))) a2 (.lst vs)) t (.tup [V.ref c2,V.ref a2]))=H1 at s1 R1 ⊢;clear sc2 sa2 st ha2 ht hc2;have w1:=w0.same s1;have hc1:=s1 _ _ hc;have ha1:=s1 _ _ ha;have dv1:=dv.same s1 _;have O7:=fK lt s1;have kp1:Kp p H H1:= .of_same s1;refine ⟨_,rfl,_,rfl,_,rfl,c,a,cs,ns,_,rfl,hc1,⟨vs,ha1,dv1⟩,c8,fun H2 s2=> ?_⟩;refine ⟨_,rfl,_,rfl,i,τ,t,c2,a2,W,S,cs,ns,rfl,w1.same s2,gd,ml,R1.same s2,Dq,nl,fun H3 s3=> ?_⟩;have Kg:=s2.trans s3;refine ⟨_,rfl,rfl,_,rfl, ?_⟩;rw [decide_eq_true rfl];refine dz ?_;refine ⟨_,rfl,_,rfl,i,τ,t,c2,a2,W,S,cs,ns,rfl,w1.same Kg,gd,ml,by rw [ts0];exact Nat.zero_le _,R1.same Kg,Dq,nl,fK O7 Kg,tp,fun H4 Vc lt4=> ?_⟩;refine ⟨_,rfl,rfl,_,rfl, ?_⟩;rw [decide_eq_true rfl];refine dz ?_;have Mz:=fK O7 Kg;have w4:=YH (w1.same Kg) Mz lt4 tp Vc;have R4:=Rp (R1.same Kg) Mz Vc;have hc4:=BK Mz Vc (Kg _ _ hc1);have ha4:=BK Mz Vc (Kg _ _ ha1)
  have dv4:aR H4 vs (ns.map nD):=by
   refine aR.keep (fun y ys e=> ?_) _ (cY _ pA _) (dv1.same Kg _);obtain ⟨ps,hp⟩:=k_ Mz;exact Vc _ _ e fun z=>by rw [z,hp] at e;cases e
  have k04:Kp p H H4:=(kp1.trans (.of_same Kg)).trans Vc;clear w1 R1 hc1 ha1 dv1 O7 Mz kp1 Vc Kg s1;unfold XM;dsimp only;refine mL (fun σ H'=>(∃x6:Option V,σ=[some (.ref W.o),some (.ref c),some (.ref a),some (.int S.hs.length),some (.ref t),some (.int (yJ cs ns S.hs.length)),x6])/\Same H4 H') (fun D' hD' W2=> ?_) ?_
  ·refine ⟨_,rfl,rfl,_,rfl, ?_⟩
   refine cU (fun q=> ?_) (fun _=>hD' _ _ ⟨⟨_,rfl⟩,Same.refl _⟩);have q:yJ cs ns S.hs.length=0:=V.int.inj (of_decide_eq_true q)
   have al:lM cs ns:=by
    by_cases z:lM cs ns
    ·exact z
    ·rw [T9 z] at q;cases q
   have hl:cs.length=S.hs.length:=by
    by_cases z:cs.length=S.hs.length
    ·exact z
    ·rw [TY al z] at q;cases q
   refine ⟨_,rfl,_,rfl,fun o dx ho hdx Qq=> ?_⟩;have ho':(upd H4 dx (.own o)) o=none:=by rw [aD Qq.symm];exact ho
   have sm:Same H4 (upd (upd H4 dx (.own o)) o (.ins aC dx [])):=(aJ hdx).trans (aJ ho');refine ⟨i,i+1,i+2,τ,o,dx,t,c2,a2,W,S,cs,ns,rfl,ak,w4.un _ ho,w4.same sm,gd,ml,R4.same sm,Dq,by omega,Bj Dq (by omega),by omega,by omega,by omega,by omega,fun _ _ τ5 R ns' H5 eR pm srt rp tg5 kp5=>⟨rfl, ?_⟩,fun _ nl=>absurd hl nl,fun na=>absurd al na⟩;have s45:Same H4 H5:=fun x u e=>kp5 _ _ (sm _ _ e) (aA e ho);have eo:V.ref o=V.ref R.o:=by rw [eR]
   rw [eo];have hc5:=s45 _ _ hc4;clear tg5 kp5 sm ho' eo;refine ⟨_,rfl,R.o,R.dx,_,rfl,rp.o,rfl,i+1,i+2,τ5,R,S,cs,_,ns',rfl,rp,fun l6 H6 hl6 el6 s6=>⟨(by show 1<=sizeLine;decide),fun q1 hq1=>⟨_,rfl, ?_⟩⟩⟩;refine ⟨q1,_,_,rfl,rfl,ak,by omega,by omega,by rw [sizeLine_eq];simp;omega,fun q2 hq2=> ?_⟩;rw [DN];have Vv:=aJ (o:=HO.lst [V.int 0]) hq1;have Vu:=aJ (o:=HO.lst ((List.replicate S.hs.length (0:Int)).map V.int)) hq2;have s57:=(s6.trans Vv).trans Vu;have el7:=(Vv.trans Vu) _ _ el6;rw [hl] at el7;have eq7:(upd (upd H6 q1 (.lst [V.int 0])) q2 (.lst ((List.replicate S.hs.length (0:Int)).map V.int))) q2=some (.lst ((List.replicate S.hs.length (0:Int)).map V.int)):=ak;generalize (upd (upd H6 q1 (.lst [V.int 0])) q2 (.lst ((List.replicate S.hs.length (0:Int)).map V.int)))=H7 at s57 el7 eq7 ⊢;refine ⟨_,_,_,rfl,jT el7,jT eq7,PlA.ints (by rw [List.length_replicate];omega),fun H8 s8=>⟨_,rfl,dz ?_⟩⟩;have X4:=s57.trans s8;have rp8:=rp.same X4;have hc8:=X4 _ _ hc5;have dn:=Cg rp8.dn;rw [rM] at dn;have c24:=Ma Dq;refine ⟨_,rfl,R.o,R.dx,_,rfl,rp8.o,i+1,i+2,τ5,R,S,cs,_,ns',rfl,rp8,fun H9 s9=>⟨_,rfl,by rw [rM];omega,by rw [rM];omega, ?_⟩⟩;have hc9:=s9 _ _ hc8;refine ⟨_,rfl,c,cs,rfl,bL.of hc9,rfl,_,rfl, ?_⟩;rw [rM,Int.sub_zero,decide_eq_true rfl];refine dz ?_;have rp9:=rp8.same s9;refine ⟨_,rfl,R.o,R.dx,_,rfl,rp9.o,rfl,i+1,i+2,τ5,R,S,cs,_,ns',rfl,rp9,_,rfl,c,cs,rfl,bL.of hc9,rfl, ?_⟩;rw [aaE Dq];refine ⟨_,_,.bool _,rfl,rfl,rfl,trivial,fun Xx s10=>⟨_,rfl,dz ?_⟩⟩;exact hD' _ _ ⟨⟨_,rfl⟩,((s45.trans X4).trans s9).trans s10⟩
  ·rintro σ H5 ⟨⟨x6,rfl⟩,s5⟩
   have R5:=R4.same s5;have w5:=w4.same s5;have hc5:=s5 _ _ hc4;have ha5:=s5 _ _ ha4;refine ⟨_,rfl,_,rfl,_,rfl,(by show 2<=sizeLine;decide),fun q hq=> ?_⟩;have sq:=aJ (o:=HO.tup [V.ref c,V.ref a]) hq;have Rq:RecAt (upd H5 q (.tup [V.ref c,V.ref a])) q c a cs ns:=⟨ak,sq _ _ hc5,vs,sq _ _ ha5,(dv4.same s5 _).same sq _⟩;refine ⟨_,_,Nf (R5.same sq),Nf Rq,vd _ _,vd _ _,_,rfl, ?_⟩;rw [if_neg Bool.false_ne_true,TV (vd _ _)];refine fM ?_;have w6:=w5.same sq;have k6:=k04.trans (.of_same (s5.trans sq));have lt6:=fK lt4 (s5.trans sq);generalize (upd H5 q (.tup [V.ref c,V.ref a]))=H6 at w6 k6 lt6 ⊢;refine ⟨_,rfl,W.o,W.dx,_,rfl,w6.o,rfl,i,τ,W,S,rfl,w6,fun l7 H7 hl7 el7 s7=>⟨(by show 1<=sizeLine;decide),fun q1 hq1=>⟨_,rfl, ?_⟩⟩⟩;rw [cnt_nil ts0] at el7;refine ⟨q1,_,_,rfl,rfl,ak,by omega,by omega,by rw [sizeLine_eq];simp;omega,fun q2 hq2=> ?_⟩;rw [DN];have Vv:=aJ (o:=HO.lst [V.int 0]) hq1;have Vu:=aJ (o:=HO.lst ((List.replicate S.hs.length (0:Int)).map V.int)) hq2;refine ⟨_,_,jT ((Vv.trans Vu) _ _ el7),jT ak,shaped_ints _,shaped_ints _, ?_⟩;rw [if_neg Bool.false_ne_true,TV (shaped_ints _)];have sz:=(s7.trans Vv).trans Vu;exact k _ (k6.trans (.of_same sz)) (fK lt6 sz)
section
variable {H:Hp} {p:Addr} {x y:V} {b c n:Nat} {e f:Lw}
theorem Uc (h:H p=some (.tup [.str "load",.str (Qt b),.int c])):Dat H (.ref p) (DY (.load b c)):=by
 simp only [DY,Dat];exact ⟨p,_,rfl,h,by simp only [aR,Dat,and_true]⟩
theorem aaF (h:H p=some (.tup [.str "go",.int n])):Dat H (.ref p) (DY (.go n)):=by
 simp only [DY,Dat];exact ⟨p,_,rfl,h,by simp only [aR,Dat,and_true]⟩
end
theorem RT.drawn {τ:Tg} {H:Hp} {r D:Addr} {n:Nat} {m:Int} {te:TE} {Q:VK} {rest:St} (T:RT τ H r) (hD:H D=none) (hn:n<=10000)
 (hte:∀(v:Option V) (Hd:Hp) (F:VK),gQ Hd r->(∀(y:Int) (H':Hp),0<=y->y<m->gQ H' r->KR r Hd H'->F (.int y) H')->te (v::rest) Hd F)
 (k:∀(xs:List Nat) (H':Hp),xs.length=n->(∀c∈xs,(c:Int)<m)->H' D=some (.lst (xs.map fun c:Nat=>V.int c))->RT (aV τ D [0]) H' r->(∀x o,H x=some o->τ x≠[]->H' x=some o)->(∀x xs,H x=some (.tup xs)->H' x=some (.tup xs))->Kp r H H'->Q (.ref D) H'):oK (Vh 0 n) (gO 0) Fj te Q D (none::rest) H:=by
 have sD:=aJ (o:=HO.lst []) hD;have nDr:D≠r:=T.R.ne hD;have TD:=T.claim (t:=[0]) sD hD ⟨_,ak⟩;have tD:aV τ D [0] D=[0]:=bJ;have tg:∀x u,H x=some u->aV τ D [0] x=τ x:=fun x u e=>aW (aA e hD);generalize aV τ D [0]=τd at TD tD tg k;refine nQ (lo:=0) (n:=n) (fun i σ Hd=>∃(v:Option V) (xs:List Nat),σ=v::rest/\RT τd Hd r/\Hd D=some (.lst (xs.map fun c:Nat=>V.int c))/\xs.length=i/\(∀c∈xs,(c:Int)<m)/\(∀x o,H x=some o->τ x≠[]->Hd x=some o)/\(∀x xs,H x=some (.tup xs)->Hd x=some (.tup xs))/\Kp r H Hd) ?_ ?_ ?_
 ·exact ⟨none,[],rfl,TD,ak,rfl,by simp,fun x o e _=>sD _ _ e,sD.tups,Kp.of_same sD⟩
 ·rintro i σ Hd hi ⟨v,xs,rfl,Td,hDd,ld,od,kd,td,kpd⟩
  dsimp only [gO,Fj];rw [if_pos rfl];refine hte _ Hd _ Td.R (fun y H3 y0 y1 R3 k3=> ?_);have T3:=Td.draw k3 R3;have hD3:=Td.keep k3 hDd (by rw [tD];simp);obtain ⟨y,rfl⟩:=Int.eq_ofNat_of_zero_le y0;refine ⟨_,hD3,(by rw [List.length_map,sizeLine_eq];omega),_,xs++[y],rfl,T3.set hD3 (by rw [tD];simp),by rw [ak,List.map_append];rfl,by simp [ld], ?_,fun x o e t=> ?_,fun x ys e=> ?_,fun x o e n'=> ?_⟩
  ·intro c hc
   rcases List.mem_append.mp hc with hc|hc
   ·exact od c hc
   ·rw [List.mem_singleton.mp hc];exact y1
  ·rw [aD (aA e hD)]
   exact Td.keep k3 (kd x o e t) (by rw [tg x o e];exact t)
  ·rw [aD (aA e hD)]
   exact k3.tups Td.R _ _ (td x ys e)
  ·rw [aD (aA e hD)]
   exact k3.1 _ _ (kpd x o e n') n'
 ·rintro σ Hd ⟨v,xs,rfl,Td,hDd,ld,od,kd,td,kpd⟩
  exact k xs Hd ld od hDd Td kd td kpd
theorem rep1 (v:V):∀n:Nat,(List.replicate n [v]).flatten=List.replicate n v
 | 0=>rfl
 | n+1=>by rw [List.replicate_succ,List.flatten_cons,rep1 v n,List.replicate_succ];rfl
def Rn (n:Nat) (b:Bool):List Rw:=List.replicate n (.load 1 0)++if b then [.go n] else []
theorem Jr {H:Hp} {v:V} {d:PyData} (h:Dat H v d):∀n,aR H (List.replicate n v) (List.replicate n d)
 | 0=>trivial
 | n+1=>by
   simp only [List.replicate_succ,aR];exact ⟨h,Jr h n⟩
def Aq (K:PySem.W.Frag):Sp:=fun vs H Q _=>∃(n:Nat) (z:Int),vs=[.int n,.int z]/\n<=40 /\ ∀l H',H l=none->gG H' l 1 (Rn n (decide (V.int z=V.int 0)))->Same H H'->Q (.ref l) H'
theorem Oj {f:Addr} {fd:FuncData} (F:jY K "_law_rows" "_law_rows" mO f fd) (Bt:rC mg):bV P w K mg base j4 1 f fd ["many","last"] (Aq K):=by
 refine F.ok Rk (fun vs H Q E h=> ?_) (fun cdv A outer s H vs Q E hr h=> ?_)
 ·obtain ⟨n,z,rfl,_⟩:=h
  rfl
 ·obtain ⟨n,z,rfl,n40,k⟩:=h
  refine ⟨_,(aL (bF (bR Ku (bR Br (fO (aj (jQ (aj cT (aj cT (aj aG aB)))) aB)) (pv 0)) (bR Br (fO (aj (jQ (aj cT (aj (pv 0) aB))) aB)) (cR pN (by rfl) Bt.CP vC (aj (dU gj (pv 1) aG (bA _)) aB)))))), ?_⟩;refine ⟨(by show 3<=sizeLine;decide),fun p1 hp1=>⟨(by show 1<=sizeLine;decide),fun q1 hq1=>⟨_,rfl, ?_⟩⟩⟩;have sp1:=aJ (o:=HO.tup [V.str "load",V.str "b",V.int 0]) hp1;have Vv:=aJ (o:=HO.lst [V.ref p1]) hq1;refine ⟨q1,_,_,rfl,rfl,ak,by omega,by omega,by rw [sizeLine_eq];simp;omega,fun q2 hq2=> ?_⟩;rw [Int.toNat_natCast,rep1];have Vu:=aJ (o:=HO.lst (List.replicate n (V.ref p1))) hq2;have ep1:=Vu _ _ (Vv _ _ (ak (H:=H) (a:=p1) (o:=HO.tup [V.str "load",V.str "b",V.int 0])));have adf:(upd (upd (upd H p1 (.tup [V.str "load",V.str "b",V.int 0])) q1 (.lst [V.ref p1])) q2 (.lst (List.replicate n (V.ref p1)))) q2=some (.lst (List.replicate n (V.ref p1))):=ak;have Sa:=(sp1.trans Vv).trans Vu;generalize (upd (upd (upd H p1 (.tup [V.str "load",V.str "b",V.int 0])) q1 (.lst [V.ref p1])) q2 (.lst (List.replicate n (V.ref p1))))=Ha at ep1 adf Sa ⊢;clear sp1 Vv Vu hq2;refine ⟨_,rfl,(by show 2<=sizeLine;decide),fun p3 hp3=>⟨(by show 1<=sizeLine;decide),fun q3 hq3=>⟨_,rfl,rfl,.inr ⟨_,rfl, ?_⟩⟩⟩⟩;have sp3:=aJ (o:=HO.tup [V.str "go",V.int n]) hp3;have sq3:=aJ (o:=HO.lst [V.ref p3]) hq3;have ep3:=sq3 _ _ (ak (H:=Ha) (a:=p3) (o:=HO.tup [V.str "go",V.int n]));have eq3:(upd (upd Ha p3 (.tup [V.str "go",V.int n])) q3 (.lst [V.ref p3])) q3=some (.lst [V.ref p3]):=ak;have Sb:=sp3.trans sq3;generalize (upd (upd Ha p3 (.tup [V.str "go",V.int n])) q3 (.lst [V.ref p3]))=Hb at ep3 eq3 Sb ⊢;generalize decide (V.int z=V.int 0)=bu at k ⊢;refine ⟨q3,_,_,rfl,rfl,eq3,by split<;>decide,by split<;>decide,by rw [sizeLine_eq];split<;>simp,fun q4 hq4=> ?_⟩;have e4:(List.replicate (if bu=true then (1:Int) else 0).toNat [V.ref p3]).flatten=if bu then [V.ref p3] else []:=by cases bu<;>rfl
  rw [e4] at *;have sq4:=aJ (o:=HO.lst (if bu then [V.ref p3] else [])) hq4;refine ⟨q2,q4,_,_,rfl,rfl,sq4 _ _ (Sb _ _ adf),ak,by rw [List.length_replicate,sizeLine_eq];split<;>simp<;>omega,fun q5 Ve=> ?_⟩;have sq5:=aJ (o:=HO.lst (List.replicate n (V.ref p1)++if bu then [V.ref p3] else [])) Ve;have anL:=(Sa.trans Sb).trans (sq4.trans sq5);refine k q5 _ ((Sa.trans Sb).free (sq4.free Ve)) ⟨_,ak, ?_, ?_, ?_⟩ anL
  ·unfold Rn
   rw [List.map_append,List.map_replicate];refine aR.append (Jr (Uc (b:=1) (c:=0) ((sq4.trans sq5) _ _ (Sb _ _ ep1))) n) ?_;cases bu with
   | false=>exact trivial
   | true=>exact Nb (aaF ((sq4.trans sq5) _ _ ep3))
  ·intro x hx
   unfold Rn at hx;rcases List.mem_append.mp hx with hx|hx
   ·rw [(List.mem_replicate.mp hx).2]
    exact ⟨by decide,by decide⟩
   ·cases bu with
    | false=>simp at hx
    | true=>
      rw [List.mem_singleton.mp hx];trivial
  ·unfold Rn
   rw [List.length_append,List.length_replicate];split<;>simp<;>omega
theorem Q_ {K:PySem.W.Frag} {H H':Hp} {a:Addr} {xs:List V} (h:bL K H a xs) (k:∀o,H a=some o->H' a=some o):bL K H' a xs:=by
 rcases h with (h|⟨o,h⟩)|h
 ·exact .inl (.inl (k _ h))
 ·exact .inl (.inr ⟨o,k _ h⟩)
 ·exact .inr h
def Mf (p:Addr) (K:PySem.W.Frag):Sp:=fun vs H Q _=>∃(a:Addr) (ns:List Int),vs=[.ref a]/\bL K H a (ns.map V.int)/\ns.length<=63/\H p=some (.u6 #[]) /\ ∀H',Q (.bl true) H'
theorem RT.ajn {H:Hp} {r:Addr} (R:gQ H r):RT (fun _=>[]) H r:=⟨R,fun x o e t=>absurd rfl t,fun _ _=>rfl⟩
theorem qI {p r:Addr} {H H':Hp} (h:LT p H) (R:gQ H r) (k:Kp r H H'):LT p H':=by
 obtain ⟨g,c,gs,cs,u,t,e1,_⟩:=R;exact Yg h e1 k
theorem ZS {aq au aO:Addr} {f:Addr} {fd:FuncData} (F:jY K "law" "law" rQ f fd) (XC:FnAt P w K mg base 1 "_law_reel" ["script"] (Fq K)) (dW:FnAt P w K mg base 1 "_law_draw" ["reel","many"] (tM K)) (Xz:FnAt P w K mg base 1 "_law_rows" ["many","last"] (Aq K)) (UL:sW P w K mg base 7 aq "Works" ["self","program","cells"] [.non] (fun vs H Q _=>tK aq au aO K vs H Q fun _ _ _=>False)) (U6:FnAt P w K mg base 3 "_law_notes" ["reel","counts"] (yg K)) (U4:FnAt P w K mg base 14 "_law_right" ["works","counts","some","hands"] (xZ p aq au K)) (Bt:rC mg):bV P w K mg base j4 15 f fd ["script"] (Mf p K):=by
 refine F.ok rO (fun vs H Q E h=> ?_) (fun cdv A outer s H vs Q E hr h=> ?_)
 ·obtain ⟨a,ns,rfl,_⟩:=h
  rfl
 ·obtain ⟨sc,ns0,rfl,hs0,hlen,lt,k⟩:=h
  have lt:LT p H:= .inl lt;have wK:=hr.units
  refine ⟨_,(aF (bM (i:=1) rO.nd rfl (Or.inr rfl) (b_ XC (hr.mono (by decide)) (by rfl) (aj (pv 0) aB)))
   (aF (yx PassesOwn.never rfl (jt (by rfl) Bt.mY (aj (bR kZ aG (aX (Qa rfl) (by rfl) Bt.ad6 aaN (aj (aX (aZ (K:=K) rfl) (by rfl) Bt.gk dY (aj (pv 0) aB)) (aj aG aB)))) aB)) (bY (i:=2) rO.nd rfl (Or.inl rfl))
   (aF (bM (i:=3) rO.nd rfl (Or.inl rfl) (bR kZ aG (b_ dW (hr.mono (by decide)) (by rfl) (aj (pv 1) (aj aG aB)))))
   (aF (bM (i:=4) rO.nd rfl (Or.inl rfl) (pv 3))
   (aF (cJ (bG gj (b_ dW (hr.mono (by decide)) (by rfl) (aj (pv 1) (aj aG aB))) aG (bA _)) (aL (bM (i:=4) rO.nd rfl (Or.inl rfl) (b_ dW (hr.mono (by decide)) (by rfl) (aj (pv 1) (aj aG aB))))) bN)
   (aF (bM (i:=5) rO.nd rfl (Or.inl rfl) (rT UL (hr.mono (by decide)) (by rfl) (aj (jQ (aj aG (aj (gC rfl (N:=["at","reel"]) (own:=["at"]) (caps:=[1]) (bH.of (by kernel_rfl)) (jt (by rfl) Bt.mY (aj (pv 3) aB)) (fun _ _ _ _=>(bY (i:=0) (show List.Nodup (["at","reel"]:List Str) by decide +kernel) rfl (Or.inl rfl))) (fun _ _ _ _=>fU) (fun _ _ _ _=>(b_ Xz (hr.mono (by decide)) (by rfl) (aj (b_ dW (hr.mono (by decide)) (by rfl) (aj (pv 1) (aj aG aB))) (aj (b_ dW (hr.mono (by decide)) (by rfl) (aj (pv 1) (aj aG aB))) aB))))) aB))) aB)))
   (aF (wj (i:=6) rfl rO.nd rfl (Or.inl rfl) (N:=["at","reel"]) (own:=["at"]) (caps:=[1]) (bH.of (by kernel_rfl)) (jt (by rfl) Bt.mY (aj (pv 4) aB)) (fun _ _ _ _=>(bY (i:=0) (show List.Nodup (["at","reel"]:List Str) by decide +kernel) rfl (Or.inl rfl))) (fun _ _ _ _=>fU) (fun _ _ _ _=>(b_ dW (hr.mono (by decide)) (by rfl) (aj (pv 1) (aj aG aB)))))
   (aL (cJ (gB (eO (b_ U4 (hr.mono (by decide)) (by rfl) (aj (pv 5) (aj (pv 6) (aj (b_ U6 (hr.mono (by decide)) (by rfl) (aj (pv 1) (aj (pv 6) aB))) (aj (pv 3) aB))))))) (aL (bF wu)) bN))))))))
   (aL (bF wu)))), ?_⟩
  refine ⟨_,rfl,sc,ns0,rfl,hs0,hlen,fun r H1 hr0 R1 s1=> ?_⟩;have O7:=fK lt s1;have scg:=Q_ hs0 fun o e=>s1 _ _ e;refine ⟨_,rfl,sc,_,rfl,.inl scg,_,_,rfl,_,_,rfl,rfl,_,rfl, ?_, ?_, ?_⟩
  ·rw [List.length_map];split<;>omega
  ·rw [List.length_map];split<;>omega
  have stl:((1:Int)+(if 30<((ns0.map V.int).length:Int) then 30 else ((ns0.map V.int).length:Int))).toNat<=400:=by
   rw [List.length_map];split<;>omega
  generalize ((1:Int)+(if 30<((ns0.map V.int).length:Int) then 30 else ((ns0.map V.int).length:Int))).toNat=stp at stl ⊢;refine Px (lo:=0) (n:=stp) (fun j σ Hc=>∃(x2 x3 x4 x5 x6:Option V),σ=[some (.ref sc),some (.ref r),x2,x3,x4,x5,x6]/\gQ Hc r/\LT p Hc) ⟨_,_,_,_,_,rfl,R1,O7⟩ ?_ (fun σ Hc _=>k Hc);clear R1 O7 s1 scg hs0;rintro j σ Hc hj ⟨x2,x3,x4,x5,x6,rfl,Rc,ltc⟩;dsimp only [gO];refine ⟨_,rfl,r,8,rfl,Rc,by decide,by decide,fun hz H2 h0 h1 R2 k2=>⟨_,_,rfl,rfl,_,rfl, ?_⟩⟩;have O6:=qI ltc Rc k2.1;obtain ⟨m,em,mp,m8⟩:∃m:Nat,(1:Int)+hz=m/\0<m/\m<=8:=⟨(1+hz).toNat,by omega,by omega,by omega⟩;dsimp only;rw [em];clear k2;refine mL (fun σ H'=>∃mn:Nat,σ=[some (.ref sc),some (.ref r),some (.int (0+(j:Int))),some (.int m),some (.int mn),x5,x6]/\mn<=8/\gQ H' r/\LT p H') (fun D' hD' W2=> ?_) ?_
  ·refine ⟨_,rfl,r,4,rfl,R2,by decide,by decide,fun u H3 u0 u1 R3 k3=>⟨rfl,_,rfl, ?_⟩⟩
   have Mz:=qI O6 R2 k3.1;refine cU (fun _=> ?_) (fun _=>hD' _ _ ⟨m,rfl,m8,R3,Mz⟩);refine ⟨_,rfl,r,9,rfl,R3,by decide,by decide,fun y H4 y0 y1 R4 k4=> ?_⟩;obtain ⟨y,rfl⟩:=Int.eq_ofNat_of_zero_le y0;exact hD' _ _ ⟨y,rfl,by omega,R4,qI Mz R3 k4.1⟩
  rintro σ H3 ⟨mn,rfl,mn8,R3,Mz⟩;clear R2 O6 Rc ltc;refine ⟨_,rfl,_,rfl,by omega,by omega,fun D hD=> ?_⟩;rw [Int.toNat_natCast];have sD:=aJ (o:=HO.lst []) hD;have T3:=RT.ajn R3;have TD:=T3.claim (t:=[0]) sD hD ⟨_,ak⟩;have tD:aV (fun _=>[]) D [0] D=[0]:=bJ
  have tp:aV (fun _=>[]) D [0] p=[]:=by
   obtain ⟨ps,e⟩:=k_ Mz;rw [aW (aA e hD)]
  have npD:p≠D:=fun z=>by
   obtain ⟨ps,e⟩:=k_ Mz;rw [z,hD] at e;cases e
  generalize aV (fun _=>[]) D [0]=τ1 at TD tD tp;refine nQ (lo:=0) (n:=m) (fun j σ Hc=>∃(v:Option V) (qs:List Addr) (rws:List (List Rw)),σ=[v,some (.ref r)]/\qs.length=j/\rws.length=j/\RT τ1 Hc r/\LT p Hc/\Hc D=some (.lst (qs.map V.ref)) /\ ∀(kk:Nat) (q:Addr) (x:List Rw),qs[kk]? = some q->rws[kk]? = some x->q≠D/\q≠r/\gG Hc q 1 x) ?_ ?_ ?_
  ·exact ⟨none,[],[],rfl,rfl,rfl,TD,fK Mz sD,ak,fun kk q x e=>by simp at e⟩
  ·rintro i σ Hc hi ⟨v,qs,rws,rfl,lq,lr,Tc,ltc,eDc,hq⟩
   dsimp only [gO,Fj];rw [if_pos rfl];refine ⟨_,rfl,r,5,rfl,Tc.R,by decide,by decide,fun n Ha n0 n1 Ra ka=>⟨_,rfl,r,3,rfl,Ra,by decide,by decide,fun z Hb z0 z1 Rb kb=> ?_⟩⟩;have Ta:=Tc.draw ka Ra;have Tb:=Ta.draw kb Rb;obtain ⟨n,rfl⟩:=Int.eq_ofNat_of_zero_le n0;refine ⟨n,z,rfl,by omega,fun q Hd hqn RH sd=> ?_⟩;have ltd:=fK (qI (qI ltc Tc.R ka.1) Ra kb.1) sd;have Td:=Tb.same sd;have eDb:=Tb.keep (KR.refl r Hb) (Ta.keep kb (Tc.keep ka eDc (by rw [tD];simp)) (by rw [tD];simp)) (by rw [tD];simp);have eDd:=sd _ _ eDb;have nqD:q≠D:=(aA eDb hqn).symm;have nqr:q≠r:=Tb.R.ne hqn;have tup:∀y ys,Hd y=some (.tup ys)->(upd Hd D (.lst (qs.map V.ref++[V.ref q]))) y=some (.tup ys):=fun y ys e=>by rw [aD (d_ e eDd (by intro z;cases z))];exact e
   refine ⟨_,eDd,(by rw [List.length_map,sizeLine_eq];omega),_,qs++[q],rws++[Rn n (decide (V.int z=V.int 0))],rfl,by simp [lq],by simp [lr],Td.set eDd (by rw [tD];simp),Yg ltd eDd (fun x o e n=>by rw [aD n];exact e),by rw [ak,List.map_append];rfl,fun kk q' x h1 h2=> ?_⟩;rcases wM h1 with h1|⟨e1,rfl⟩
   ·have h2':rws[kk]? = some x:=by
     have kl:=(List.getElem?_eq_some_iff.mp h1).1;rw [List.getElem?_append_left (by omega)] at h2;exact h2
    obtain ⟨a1,a2,a3⟩:=hq kk q' x h1 h2';refine ⟨a1,a2,a3.keep (fun o e=> ?_) (fun y ys e=>tup _ _ (sd _ _ (kb.tups Ta.R _ _ (ka.tups Tc.R _ _ e))))⟩;rw [aD a1];exact sd _ _ (kb.1 _ _ (ka.1 _ _ e a2) a2)
   ·rw [e1,lq,←lr,List.getElem?_append_right (Nat.le_refl _)] at h2
    simp only [Nat.sub_self,List.getElem?_cons_zero,Option.some.injEq] at h2;subst h2;exact ⟨nqD,nqr,RH.keep (fun o e=>by rw [aD nqD];exact e) tup⟩
  rintro σ H4 ⟨v,qs,rws,rfl,lq,lr,T4,lt4,eD4,hq⟩;refine ⟨(by show 2<=sizeLine;decide),fun p0 hp0=> ?_⟩;have sp:=aJ (o:=HO.tup [V.int 1,V.ref D]) hp0;have ep5:(upd H4 p0 (.tup [V.int 1,V.ref D])) p0=some (.tup [V.int ((1:Nat):Int),V.ref D]):=ak;have eD5:=sp _ _ eD4;have T5:=T4.same sp;have lt5:=fK lt4 sp;have Ve:∀(kk:Nat) (q:Addr) (x:List Rw),qs[kk]? = some q->rws[kk]? = some x->gG (upd H4 p0 (.tup [V.int 1,V.ref D])) q 1 x:=fun kk q x h1 h2=>(hq kk q x h1 h2).2.2.same sp;generalize (upd H4 p0 (.tup [V.int 1,V.ref D]))=H5 at sp ep5 eD5 Ve T5 lt5 ⊢;clear hq eD4 T4 lt4;refine fun o dx ho hdx ndx=> ?_;have ho':(upd H5 dx (.own o)) o=none:=by rw [aD ndx.symm];exact ho
  have Zh:Same H5 (upd (upd H5 dx (.own o)) o (.ins aq dx [])):=(aJ hdx).trans (aJ ho');have acp:yC 1 [0]:=⟨rfl,fun x hx=>by rw [List.mem_singleton.mp hx];exact ⟨by decide,by decide⟩⟩;refine ⟨1,τ1,o,dx,p0,D,qs,1,.non,[0],rws,rfl,ak,Zh _ _ ep5,Zh _ _ eD5,by omega,fun kk q' x h1 h2=>(Ve kk q' x h1 h2).same Zh,by omega,by decide,T5.un.same Zh,by decide,by decide,.inl ⟨rfl,rfl⟩,fun _ τa W Ha eo wa tg kp=>⟨rfl, ?_⟩,fun bad=>absurd acp bad⟩;have s5a:Same H5 Ha:=fun x u e=>kp _ _ (Zh _ _ e) (aA e ho);have tga:∀x u,H5 x=some u->τa x=τ1 x:=fun x u e=>tg x u (Zh _ _ e) (aA e ho);have Ta:RT τa Ha r:=T5.made s5a tga wa.un;have lta:=fK lt5 s5a
  have tpa:τa p=[]:=by
   obtain ⟨ps,e⟩:=k_ lt5;rw [tga _ _ e];exact tp
  have gda:q_ (Hj 1 [0] rws):=Pu acp.2
  have lS:(Hj 1 [0] rws).hs.length=m:=by
   show (rws.map _).length=_;rw [List.length_map,lr]
  have tS:(Hj 1 [0] rws).ts=[]:=rfl;have eo':V.ref o=V.ref W.o:=by rw [eo]
  rw [eo'];have mS:(Hj 1 [0] rws).m<=100:=by show 1<=100;decide
  clear kp tg Zh ho' eo' Ve s5a tga T5 lt5 eD5 ep5 sp;generalize Hj 1 [0] rws=S at wa gda lS tS mS;refine ⟨_,rfl,_,rfl,by omega,by omega,fun cl hcl=> ?_⟩;rw [Int.toNat_natCast]
  have ncp:p≠cl:=fun z=>by
   obtain ⟨ps,e⟩:=k_ lta;rw [z,hcl] at e;cases e
  refine Ta.drawn (n:=mn) (m:=7) hcl (by omega) (fun v Hd F Rd kF=>⟨_,rfl,r,7,rfl,Rd,by decide,by decide,fun y H' y0 y1 R' k'=>kF y H' y0 y1 R' k'⟩) (fun cn H6 ln on ecl T6 kd6 td6 kp6=> ?_);have aaC:H6 cl=some (.lst ((cn.map fun c:Nat=>(c:Int)).map V.int)):=by rw [ecl,List.map_map];rfl
  have aaH:tu (cn.map fun c:Nat=>(c:Int)):=⟨by rw [List.length_map];omega,fun x hx=>by
   obtain ⟨c,hc,rfl⟩:=List.mem_map.mp hx;have:=on c hc;exact ⟨by omega,by omega⟩⟩
  have mv6:Mv 1 τa Ha (aV τa cl [0]) H6:=⟨fun x o e t=>⟨kd6 x o e (by
   rcases t with t|t
   ·rw [t];simp
   ·intro z;rw [z] at t;cases t),aW (aA e hcl)⟩,td6⟩
  have w6:=wa.mv mv6 T6.un;have tcl:aV τa cl [0] cl=[0]:=bJ;have tp6:aV τa cl [0] p=[]:=by rw [aW ncp];exact tpa
  have lt6:=qI lta Ta.R kp6;generalize (cn.map fun c:Nat=>(c:Int))=cs at aaC aaH;generalize aV τa cl [0]=τ6 at T6 w6 tcl tp6;clear mv6 ecl kd6 td6 kp6 Ta lta wa;refine ⟨_,rfl,_,rfl,_,rfl,_,rfl,r,cl,τ6,cs,rfl,T6,aaC,tcl,aaH,fun a ns H7 ha7 N7 nl T7 d7=> ?_⟩;have w7:=w6.mv ⟨fun x o e t=>⟨((d7.mv (i:=1)).keep x o e t).1,aW (aA e ha7)⟩,d7.t⟩ T7.un;have ak_:=d7.k _ _ aaC (by rw [tcl];simp);have lt7:=qI lt6 T6.R d7.p
  have nap:p≠a:=fun z=>by
   obtain ⟨ps,e⟩:=k_ lt6;rw [z,ha7] at e;cases e
  have tp7:aV τ6 a [0] p=[]:=by rw [aW nap];exact tp6
  refine ⟨_,rfl,1,_,cl,a,W,S,cs,ns,by rw [lS];rfl,w7,gda,mS,tS,by omega,ak_,N7,aaH,by omega,lt7,tp7,fun H8 k8 lt8=>⟨_,rfl,dz ?_⟩⟩;refine ⟨_,_,_,_,_,rfl, ?_,lt8⟩;obtain ⟨g,c,gs',cs',u,t',e1,e2,e3,q⟩:=T7.R;exact ⟨g,c,gs',cs',u,t',BK lt7 k8 e1,BK lt7 k8 e2,BK lt7 k8 e3,q⟩
end
theorem len0 {us:List Value} (h:us.length=0):us=[]:=List.eq_nil_of_length_eq_zero h
theorem bQ {us:List Value} {n:Nat} (h:us.length=n+1):∃a vs,us=a::vs/\vs.length=n:=by
 cases us with
 | nil=>cases h
 | cons a t=>exact ⟨a,t,rfl,Nat.succ.inj h⟩
theorem JC (kV doc pm:Value) (an:Option Addr) (cdv ct:Value) (us:List Value) (hl:us.length=(["value"]:List Str).length):bindArgs (PySem.W.fnOf "is_whole" "is_whole" (aN gw) (aK gw) (ao gw) .none kV doc pm an cdv ct) ⟨us,[]⟩=pure ((["value"]:List Str).zip us):=by obtain ⟨_,_,rfl,h1⟩:=bQ hl;cases len0 h1;rfl
theorem JD (kV doc pm:Value) (an:Option Addr) (cdv ct:Value) (us:List Value) (hl:us.length=(["value","count"]:List Str).length):bindArgs (PySem.W.fnOf "is_below" "is_below" (aN gA) (aK gA) (ao gA) .none kV doc pm an cdv ct) ⟨us,[]⟩=pure ((["value","count"]:List Str).zip us):=by obtain ⟨_,_,rfl,h1⟩:=bQ hl;obtain ⟨_,_,rfl,h2⟩:=bQ h1;cases len0 h2;rfl
theorem Hi (kV doc pm:Value) (an:Option Addr) (cdv ct:Value) (us:List Value) (hl:us.length=(["self","rows"]:List Str).length):bindArgs (PySem.W.fnOf "__init__" "Hand.__init__" (aN fG) (aK fG) (ao fG) .none kV doc pm an cdv ct) ⟨us,[]⟩=pure ((["self","rows"]:List Str).zip us):=by obtain ⟨_,_,rfl,h1⟩:=bQ hl;obtain ⟨_,_,rfl,h2⟩:=bQ h1;cases len0 h2;rfl
theorem Lh (kV doc pm:Value) (an:Option Addr) (cdv ct:Value) (us:List Value) (hl:us.length=(["row"]:List Str).length):bindArgs (PySem.W.fnOf "cell_of" "cell_of" (aN iB) (aK iB) (ao iB) .none kV doc pm an cdv ct) ⟨us,[]⟩=pure ((["row"]:List Str).zip us):=by obtain ⟨_,_,rfl,h1⟩:=bQ hl;cases len0 h1;rfl
theorem lu (kV doc pm:Value) (an:Option Addr) (cdv ct:Value) (us:List Value) (hl:us.length=(["self","part"]:List Str).length):bindArgs (PySem.W.fnOf "value_of" "Hand.value_of" (aN cB) (aK cB) (ao cB) .none kV doc pm an cdv ct) ⟨us,[]⟩=pure ((["self","part"]:List Str).zip us):=by obtain ⟨_,_,rfl,h1⟩:=bQ hl;obtain ⟨_,_,rfl,h2⟩:=bQ h1;cases len0 h2;rfl
theorem Dw (kV doc pm:Value) (an:Option Addr) (cdv ct:Value) (us:List Value) (hl:us.length=(["self","row"]:List Str).length):bindArgs (PySem.W.fnOf "holds" "Hand.holds" (aN eN) (aK eN) (ao eN) .none kV doc pm an cdv ct) ⟨us,[]⟩=pure ((["self","row"]:List Str).zip us):=by obtain ⟨_,_,rfl,h1⟩:=bQ hl;obtain ⟨_,_,rfl,h2⟩:=bQ h1;cases len0 h2;rfl
theorem Hh (kV doc pm:Value) (an:Option Addr) (cdv ct:Value) (us:List Value) (hl:us.length=(["self","box","number"]:List Str).length):bindArgs (PySem.W.fnOf "take" "Hand.take" (aN fB) (aK fB) (ao fB) .none kV doc pm an cdv ct) ⟨us,[]⟩=pure ((["self","box","number"]:List Str).zip us):=by obtain ⟨_,_,rfl,h1⟩:=bQ hl;obtain ⟨_,_,rfl,h2⟩:=bQ h1;obtain ⟨_,_,rfl,h3⟩:=bQ h2;cases len0 h3;rfl
theorem Lj (kV doc pm:Value) (an:Option Addr) (cdv ct:Value) (us:List Value) (hl:us.length=(["self","row"]:List Str).length):bindArgs (PySem.W.fnOf "do" "Hand.do" (aN iC) (aK iC) (ao iC) .none kV doc pm an cdv ct) ⟨us,[]⟩=pure ((["self","row"]:List Str).zip us):=by obtain ⟨_,_,rfl,h1⟩:=bQ hl;obtain ⟨_,_,rfl,h2⟩:=bQ h1;cases len0 h2;rfl
theorem zF (kV doc pm:Value) (an:Option Addr) (cdv ct:Value) (us:List Value) (hl:us.length=(["self"]:List Str).length):bindArgs (PySem.W.fnOf "lead_on" "Hand.lead_on" (aN cW) (aK cW) (ao cW) .none kV doc pm an cdv ct) ⟨us,[]⟩=pure ((["self"]:List Str).zip us):=by obtain ⟨_,_,rfl,h1⟩:=bQ hl;cases len0 h1;rfl
theorem yK (kV doc pm:Value) (an:Option Addr) (cdv ct:Value) (us:List Value) (hl:us.length=(["cells","count"]:List Str).length):bindArgs (PySem.W.fnOf "check_numbers" "check_numbers" (aN cN) (aK cN) (ao cN) .none kV doc pm an cdv ct) ⟨us,[]⟩=pure ((["cells","count"]:List Str).zip us):=by obtain ⟨_,_,rfl,h1⟩:=bQ hl;obtain ⟨_,_,rfl,h2⟩:=bQ h1;cases len0 h2;rfl
theorem wU (kV doc pm:Value) (an:Option Addr) (cdv ct:Value) (us:List Value) (hl:us.length=(["self","one"]:List Str).length):bindArgs (PySem.W.fnOf "touch_by" "Works.touch_by" (aN cF) (aK cF) (ao cF) .none kV doc pm an cdv ct) ⟨us,[]⟩=pure ((["self","one"]:List Str).zip us):=by obtain ⟨_,_,rfl,h1⟩:=bQ hl;obtain ⟨_,_,rfl,h2⟩:=bQ h1;cases len0 h2;rfl
theorem yL (kV doc pm:Value) (an:Option Addr) (cdv ct:Value) (us:List Value) (hl:us.length=(["self","hand"]:List Str).length):bindArgs (PySem.W.fnOf "hand_of" "Works.hand_of" (aN cO) (aK cO) (ao cO) .none kV doc pm an cdv ct) ⟨us,[]⟩=pure ((["self","hand"]:List Str).zip us):=by obtain ⟨_,_,rfl,h1⟩:=bQ hl;obtain ⟨_,_,rfl,h2⟩:=bQ h1;cases len0 h2;rfl
theorem Dv (kV doc pm:Value) (an:Option Addr) (cdv ct:Value) (us:List Value) (hl:us.length=(["self","hand"]:List Str).length):bindArgs (PySem.W.fnOf "turn" "Works.turn" (aN eG) (aK eG) (ao eG) .none kV doc pm an cdv ct) ⟨us,[]⟩=pure ((["self","hand"]:List Str).zip us):=by obtain ⟨_,_,rfl,h1⟩:=bQ hl;obtain ⟨_,_,rfl,h2⟩:=bQ h1;cases len0 h2;rfl
theorem CK {K:PySem.W.Frag} {T:Addr} {tc:Value} {td:Option Addr} {tn:Nat} {Vj:Array (Option Value)} (d:K.lookup T=some ⟨tc,td,.seq #[.none] tn,Vj⟩) {kV doc pm:Value} {an:Option Addr} {cdv ct:Value}:Binds K (PySem.W.fnOf "__init__" "Works.__init__" (aN bW) (aK bW) (ao bW) (.ref T) kV doc pm an cdv ct) ["self","program","cells"] []:=by
 intro s us KX hl;have hl:us.length=3:=by simpa using hl
 obtain ⟨_,_,rfl,h1⟩:=bQ hl;obtain ⟨_,_,rfl,h2⟩:=bQ h1;obtain ⟨_,_,rfl,h3⟩:=bQ h2;cases len0 h3;exact PySem.W.binds_K KX rfl d rfl rfl rfl
theorem CJ {K:PySem.W.Frag} {T:Addr} {tc:Value} {td:Option Addr} {tn:Nat} {Vj:Array (Option Value)} (d:K.lookup T=some ⟨tc,td,.seq #[.none] tn,Vj⟩) {kV doc pm:Value} {an:Option Addr} {cdv ct:Value}:Binds K (PySem.W.fnOf "__init__" "Works.__init__" (aN bW) (aK bW) (ao bW) (.ref T) kV doc pm an cdv ct) ["self","program","cells"] [.none]:=by
 intro s us KX hl;have hl:us.length=2:=by simpa using hl
 obtain ⟨_,_,rfl,h1⟩:=bQ hl;obtain ⟨_,_,rfl,h2⟩:=bQ h1;cases len0 h2;exact PySem.W.binds_K KX rfl d rfl rfl rfl
theorem CG {K:PySem.W.Frag} {T:Addr} {tc:Value} {td:Option Addr} {tn:Nat} {Vj:Array (Option Value)} (d:K.lookup T=some ⟨tc,td,.seq #[.none] tn,Vj⟩) {kV doc pm:Value} {an:Option Addr} {cdv ct:Value} (s:Shared) (us:List Value) (z:Value) (KX:K.In s.heap) (hl:(us++[z]).length=(["self","program","cells"]:List Str).length):BindsTo s (PySem.W.fnOf "__init__" "Works.__init__" (aN bW) (aK bW) (ao bW) (.ref T) kV doc pm an cdv ct) ⟨us,[("cells",z)]⟩ ((["self","program","cells"]:List Str).zip (us++[z])):=by
 have hl:us.length=2:=by simpa using hl
 obtain ⟨_,_,rfl,h1⟩:=bQ hl;obtain ⟨_,_,rfl,h2⟩:=bQ h1;cases len0 h2;exact PySem.W.binds_K KX rfl d rfl rfl rfl
theorem G_ (kV doc pm:Value) (an:Option Addr) (cdv ct:Value) (us:List Value) (hl:us.length=(["self","hand"]:List Str).length):bindArgs (PySem.W.fnOf "how" "Works.how" (aN fu) (aK fu) (ao fu) .none kV doc pm an cdv ct) ⟨us,[]⟩=pure ((["self","hand"]:List Str).zip us):=by obtain ⟨_,_,rfl,h1⟩:=bQ hl;obtain ⟨_,_,rfl,h2⟩:=bQ h1;cases len0 h2;rfl
theorem zE (kV doc pm:Value) (an:Option Addr) (cdv ct:Value) (us:List Value) (hl:us.length=(["self"]:List Str).length):bindArgs (PySem.W.fnOf "counts" "Works.counts" (aN cV) (aK cV) (ao cV) .none kV doc pm an cdv ct) ⟨us,[]⟩=pure ((["self"]:List Str).zip us):=by obtain ⟨_,_,rfl,h1⟩:=bQ hl;cases len0 h1;rfl
theorem zG (kV doc pm:Value) (an:Option Addr) (cdv ct:Value) (us:List Value) (hl:us.length=(["self"]:List Str).length):bindArgs (PySem.W.fnOf "another" "Hand.another" (aN cX) (aK cX) (ao cX) .none kV doc pm an cdv ct) ⟨us,[]⟩=pure ((["self"]:List Str).zip us):=by obtain ⟨_,_,rfl,h1⟩:=bQ hl;cases len0 h1;rfl
theorem Du (kV doc pm:Value) (an:Option Addr) (cdv ct:Value) (us:List Value) (hl:us.length=(["self"]:List Str).length):bindArgs (PySem.W.fnOf "twin" "Works.twin" (aN eF) (aK eF) (ao eF) .none kV doc pm an cdv ct) ⟨us,[]⟩=pure ((["self"]:List Str).zip us):=by obtain ⟨_,_,rfl,h1⟩:=bQ hl;cases len0 h1;rfl
theorem Lg (kV doc pm:Value) (an:Option Addr) (cdv ct:Value) (us:List Value) (hl:us.length=(["value"]:List Str).length):bindArgs (PySem.W.fnOf "is_note" "is_note" (aN iz) (aK iz) (ao iz) .none kV doc pm an cdv ct) ⟨us,[]⟩=pure ((["value"]:List Str).zip us):=by obtain ⟨_,_,rfl,h1⟩:=bQ hl;cases len0 h1;rfl
theorem Dt (kV doc pm:Value) (an:Option Addr) (cdv ct:Value) (us:List Value) (hl:us.length=(["counts","note"]:List Str).length):bindArgs (PySem.W.fnOf "is_between" "is_between" (aN eE) (aK eE) (ao eE) .none kV doc pm an cdv ct) ⟨us,[]⟩=pure ((["counts","note"]:List Str).zip us):=by obtain ⟨_,_,rfl,h1⟩:=bQ hl;obtain ⟨_,_,rfl,h2⟩:=bQ h1;cases len0 h2;rfl
theorem Cr (kV doc pm:Value) (an:Option Addr) (cdv ct:Value) (us:List Value) (hl:us.length=(["record"]:List Str).length):bindArgs (PySem.W.fnOf "check_notes" "check_notes" (aN dI) (aK dI) (ao dI) .none kV doc pm an cdv ct) ⟨us,[]⟩=pure ((["record"]:List Str).zip us):=by obtain ⟨_,_,rfl,h1⟩:=bQ hl;cases len0 h1;rfl
theorem aaP (kV doc pm:Value) (an:Option Addr) (cdv ct:Value) (us:List Value) (hl:us.length=(["done","touch"]:List Str).length):bindArgs (PySem.W.fnOf "has" "has" (aN wg) (aK wg) (ao wg) .none kV doc pm an cdv ct) ⟨us,[]⟩=pure ((["done","touch"]:List Str).zip us):=by obtain ⟨_,_,rfl,h1⟩:=bQ hl;obtain ⟨_,_,rfl,h2⟩:=bQ h1;cases len0 h2;rfl
theorem G9 (kV doc pm:Value) (an:Option Addr) (cdv ct:Value) (us:List Value) (hl:us.length=(["record"]:List Str).length):bindArgs (PySem.W.fnOf "firsts_of" "firsts_of" (aN fj) (aK fj) (ao fj) .none kV doc pm an cdv ct) ⟨us,[]⟩=pure ((["record"]:List Str).zip us):=by obtain ⟨_,_,rfl,h1⟩:=bQ hl;cases len0 h1;rfl
theorem yM (kV doc pm:Value) (an:Option Addr) (cdv ct:Value) (us:List Value) (hl:us.length=(["self"]:List Str).length):bindArgs (PySem.W.fnOf "counts" "Replay.counts" (aN cP) (aK cP) (ao cP) .none kV doc pm an cdv ct) ⟨us,[]⟩=pure ((["self"]:List Str).zip us):=by obtain ⟨_,_,rfl,h1⟩:=bQ hl;cases len0 h1;rfl
theorem Cz (kV doc pm:Value) (an:Option Addr) (cdv ct:Value) (us:List Value) (hl:us.length=(["self"]:List Str).length):bindArgs (PySem.W.fnOf "done" "Replay.done" (aN dR) (aK dR) (ao dR) .none kV doc pm an cdv ct) ⟨us,[]⟩=pure ((["self"]:List Str).zip us):=by obtain ⟨_,_,rfl,h1⟩:=bQ hl;cases len0 h1;rfl
theorem wV (kV doc pm:Value) (an:Option Addr) (cdv ct:Value) (us:List Value) (hl:us.length=(["self","hand"]:List Str).length):bindArgs (PySem.W.fnOf "is_over" "Replay.is_over" (aN cG) (aK cG) (ao cG) .none kV doc pm an cdv ct) ⟨us,[]⟩=pure ((["self","hand"]:List Str).zip us):=by obtain ⟨_,_,rfl,h1⟩:=bQ hl;obtain ⟨_,_,rfl,h2⟩:=bQ h1;cases len0 h2;rfl
theorem wW (kV doc pm:Value) (an:Option Addr) (cdv ct:Value) (us:List Value) (hl:us.length=(["self","hand"]:List Str).length):bindArgs (PySem.W.fnOf "holding" "Replay.holding" (aN cH) (aK cH) (ao cH) .none kV doc pm an cdv ct) ⟨us,[]⟩=pure ((["self","hand"]:List Str).zip us):=by obtain ⟨_,_,rfl,h1⟩:=bQ hl;obtain ⟨_,_,rfl,h2⟩:=bQ h1;cases len0 h2;rfl
theorem Cy (kV doc pm:Value) (an:Option Addr) (cdv ct:Value) (us:List Value) (hl:us.length=(["self"]:List Str).length):bindArgs (PySem.W.fnOf "free" "Replay.free" (aN dO) (aK dO) (ao dO) .none kV doc pm an cdv ct) ⟨us,[]⟩=pure ((["self"]:List Str).zip us):=by obtain ⟨_,_,rfl,h1⟩:=bQ hl;cases len0 h1;rfl
theorem Cv (kV doc pm:Value) (an:Option Addr) (cdv ct:Value) (us:List Value) (hl:us.length=(["self"]:List Str).length):bindArgs (PySem.W.fnOf "left" "Replay.left" (aN dM) (aK dM) (ao dM) .none kV doc pm an cdv ct) ⟨us,[]⟩=pure ((["self"]:List Str).zip us):=by obtain ⟨_,_,rfl,h1⟩:=bQ hl;cases len0 h1;rfl
theorem wX (kV doc pm:Value) (an:Option Addr) (cdv ct:Value) (us:List Value) (hl:us.length=(["self"]:List Str).length):bindArgs (PySem.W.fnOf "__len__" "Replay.__len__" (aN cI) (aK cI) (ao cI) .none kV doc pm an cdv ct) ⟨us,[]⟩=pure ((["self"]:List Str).zip us):=by obtain ⟨_,_,rfl,h1⟩:=bQ hl;cases len0 h1;rfl
theorem Cu (kV doc pm:Value) (an:Option Addr) (cdv ct:Value) (us:List Value) (hl:us.length=(["self","hand"]:List Str).length):bindArgs (PySem.W.fnOf "turn" "Replay.turn" (aN dJ) (aK dJ) (ao dJ) .none kV doc pm an cdv ct) ⟨us,[]⟩=pure ((["self","hand"]:List Str).zip us):=by obtain ⟨_,_,rfl,h1⟩:=bQ hl;obtain ⟨_,_,rfl,h2⟩:=bQ h1;cases len0 h2;rfl
theorem Cw (kV doc pm:Value) (an:Option Addr) (cdv ct:Value) (us:List Value) (hl:us.length=(["self","works","record"]:List Str).length):bindArgs (PySem.W.fnOf "__init__" "Replay.__init__" (aN dN) (aK dN) (ao dN) .none kV doc pm an cdv ct) ⟨us,[]⟩=pure ((["self","works","record"]:List Str).zip us):=by obtain ⟨_,_,rfl,h1⟩:=bQ hl;obtain ⟨_,_,rfl,h2⟩:=bQ h1;obtain ⟨_,_,rfl,h3⟩:=bQ h2;cases len0 h3;rfl
theorem Qf (kV doc pm:Value) (an:Option Addr) (cdv ct:Value) (us:List Value) (hl:us.length=(["works","record","choose"]:List Str).length):bindArgs (PySem.W.fnOf "played" "played" (aN jJ) (aK jJ) (ao jJ) .none kV doc pm an cdv ct) ⟨us,[]⟩=pure ((["works","record","choose"]:List Str).zip us):=by obtain ⟨_,_,rfl,h1⟩:=bQ hl;obtain ⟨_,_,rfl,h2⟩:=bQ h1;obtain ⟨_,_,rfl,h3⟩:=bQ h2;cases len0 h3;rfl
theorem Ut (kV doc pm:Value) (an:Option Addr) (cdv ct:Value) (us:List Value) (hl:us.length=(["script"]:List Str).length):bindArgs (PySem.W.fnOf "_law_reel" "_law_reel" (aN mQ) (aK mQ) (ao mQ) .none kV doc pm an cdv ct) ⟨us,[]⟩=pure ((["script"]:List Str).zip us):=by obtain ⟨_,_,rfl,h1⟩:=bQ hl;cases len0 h1;rfl
theorem Ux (kV doc pm:Value) (an:Option Addr) (cdv ct:Value) (us:List Value) (hl:us.length=(["reel","many"]:List Str).length):bindArgs (PySem.W.fnOf "_law_draw" "_law_draw" (aN mW) (aK mW) (ao mW) .none kV doc pm an cdv ct) ⟨us,[]⟩=pure ((["reel","many"]:List Str).zip us):=by obtain ⟨_,_,rfl,h1⟩:=bQ hl;obtain ⟨_,_,rfl,h2⟩:=bQ h1;cases len0 h2;rfl
theorem yN (kV doc pm:Value) (an:Option Addr) (cdv ct:Value) (us:List Value) (hl:us.length=(["found","due"]:List Str).length):bindArgs (PySem.W.fnOf "_law_alike" "_law_alike" (aN iV) (aK iV) (ao iV) .none kV doc pm an cdv ct) ⟨us,[]⟩=pure ((["found","due"]:List Str).zip us):=by obtain ⟨_,_,rfl,h1⟩:=bQ hl;obtain ⟨_,_,rfl,h2⟩:=bQ h1;cases len0 h2;rfl
theorem Uu (kV doc pm:Value) (an:Option Addr) (cdv ct:Value) (us:List Value) (hl:us.length=(["reel","counts"]:List Str).length):bindArgs (PySem.W.fnOf "_law_note" "_law_note" (aN mR) (aK mR) (ao mR) .none kV doc pm an cdv ct) ⟨us,[]⟩=pure ((["reel","counts"]:List Str).zip us):=by obtain ⟨_,_,rfl,h1⟩:=bQ hl;obtain ⟨_,_,rfl,h2⟩:=bQ h1;cases len0 h2;rfl
theorem Qi (kV doc pm:Value) (an:Option Addr) (cdv ct:Value) (us:List Value) (hl:us.length=(["reel","note","counts","place"]:List Str).length):bindArgs (PySem.W.fnOf "_law_other" "_law_other" (aN jM) (aK jM) (ao jM) .none kV doc pm an cdv ct) ⟨us,[]⟩=pure ((["reel","note","counts","place"]:List Str).zip us):=by obtain ⟨_,_,rfl,h1⟩:=bQ hl;obtain ⟨_,_,rfl,h2⟩:=bQ h1;obtain ⟨_,_,rfl,h3⟩:=bQ h2;obtain ⟨_,_,rfl,h4⟩:=bQ h3;cases len0 h4;rfl
theorem Qj (kV doc pm:Value) (an:Option Addr) (cdv ct:Value) (us:List Value) (hl:us.length=(["reel","counts"]:List Str).length):bindArgs (PySem.W.fnOf "_law_notes" "_law_notes" (aN jN) (aK jN) (ao jN) .none kV doc pm an cdv ct) ⟨us,[]⟩=pure ((["reel","counts"]:List Str).zip us):=by obtain ⟨_,_,rfl,h1⟩:=bQ hl;obtain ⟨_,_,rfl,h2⟩:=bQ h1;cases len0 h2;rfl
theorem Qg (kV doc pm:Value) (an:Option Addr) (cdv ct:Value) (us:List Value) (hl:us.length=(["counts","hand","k"]:List Str).length):bindArgs (PySem.W.fnOf "_law_there" "_law_there" (aN jK) (aK jK) (ao jK) .none kV doc pm an cdv ct) ⟨us,[]⟩=pure ((["counts","hand","k"]:List Str).zip us):=by obtain ⟨_,_,rfl,h1⟩:=bQ hl;obtain ⟨_,_,rfl,h2⟩:=bQ h1;obtain ⟨_,_,rfl,h3⟩:=bQ h2;cases len0 h3;rfl
theorem Xl (kV doc pm:Value) (an:Option Addr) (cdv ct:Value) (us:List Value) (hl:us.length=(["counts","some","hands"]:List Str).length):bindArgs (PySem.W.fnOf "_law_due" "_law_due" (aN qC) (aK qC) (ao qC) .none kV doc pm an cdv ct) ⟨us,[]⟩=pure ((["counts","some","hands"]:List Str).zip us):=by obtain ⟨_,_,rfl,h1⟩:=bQ hl;obtain ⟨_,_,rfl,h2⟩:=bQ h1;obtain ⟨_,_,rfl,h3⟩:=bQ h2;cases len0 h3;rfl
theorem Uw (kV doc pm:Value) (an:Option Addr) (cdv ct:Value) (us:List Value) (hl:us.length=(["caught"]:List Str).length):bindArgs (PySem.W.fnOf "_law_kind" "_law_kind" (aN mV) (aK mV) (ao mV) .none kV doc pm an cdv ct) ⟨us,[]⟩=pure ((["caught"]:List Str).zip us):=by obtain ⟨_,_,rfl,h1⟩:=bQ hl;cases len0 h1;rfl
theorem Uv (kV doc pm:Value) (an:Option Addr) (cdv ct:Value) (us:List Value) (hl:us.length=(["works","record"]:List Str).length):bindArgs (PySem.W.fnOf "_law_made" "_law_made" (aN mU) (aK mU) (ao mU) .none kV doc pm an cdv ct) ⟨us,[]⟩=pure ((["works","record"]:List Str).zip us):=by obtain ⟨_,_,rfl,h1⟩:=bQ hl;obtain ⟨_,_,rfl,h2⟩:=bQ h1;cases len0 h2;rfl
theorem Qk (kV doc pm:Value) (an:Option Addr) (cdv ct:Value) (us:List Value) (hl:us.length=(["seen","free"]:List Str).length):bindArgs (PySem.W.fnOf "_law_asked" "_law_asked" (aN jO) (aK jO) (ao jO) .none kV doc pm an cdv ct) ⟨us,[]⟩=pure ((["seen","free"]:List Str).zip us):=by obtain ⟨_,_,rfl,h1⟩:=bQ hl;obtain ⟨_,_,rfl,h2⟩:=bQ h1;cases len0 h2;rfl
theorem Li (kV doc pm:Value) (an:Option Addr) (cdv ct:Value) (us:List Value) (hl:us.length=(["works","record"]:List Str).length):bindArgs (PySem.W.fnOf "_law_played" "_law_played" (aN dH) (aK dH) (ao dH) .none kV doc pm an cdv ct) ⟨us,[]⟩=pure ((["works","record"]:List Str).zip us):=by obtain ⟨_,_,rfl,h1⟩:=bQ hl;obtain ⟨_,_,rfl,h2⟩:=bQ h1;cases len0 h2;rfl
theorem Qh (kV doc pm:Value) (an:Option Addr) (cdv ct:Value) (us:List Value) (hl:us.length=(["works","counts","some","hands"]:List Str).length):bindArgs (PySem.W.fnOf "_law_right" "_law_right" (aN jL) (aK jL) (ao jL) .none kV doc pm an cdv ct) ⟨us,[]⟩=pure ((["works","counts","some","hands"]:List Str).zip us):=by obtain ⟨_,_,rfl,h1⟩:=bQ hl;obtain ⟨_,_,rfl,h2⟩:=bQ h1;obtain ⟨_,_,rfl,h3⟩:=bQ h2;obtain ⟨_,_,rfl,h4⟩:=bQ h3;cases len0 h4;rfl
theorem Us (kV doc pm:Value) (an:Option Addr) (cdv ct:Value) (us:List Value) (hl:us.length=(["many","last"]:List Str).length):bindArgs (PySem.W.fnOf "_law_rows" "_law_rows" (aN mO) (aK mO) (ao mO) .none kV doc pm an cdv ct) ⟨us,[]⟩=pure ((["many","last"]:List Str).zip us):=by obtain ⟨_,_,rfl,h1⟩:=bQ hl;obtain ⟨_,_,rfl,h2⟩:=bQ h1;cases len0 h2;rfl
theorem all_mk {l:PySem.W.OpenLaw} {w:World} {K:PySem.W.Frag} {h:Heap} {mg:Str->Option Value} {fa p f0 f1 f2 f3 f4 f5 f6 f7 f8 f9 f10 f11 f12 Yr f14 f15 f16 f17 f18 f19 f20 f21 f22 f23 f24 f25 f26 f27 f28 f29 f30 f31 f32 f33 f34 f35 f36 f37 f38 f39 f40 f41 f42 f43 f44 f45 f46 f47 aaL au aq aC aM aH bh aO bD dg cg:Addr} (X:K.In h) (G:h.Ns mainGlobals mg) (hfa:mg "law" = some (.ref fa))
 {od0 an0 od1 an1 od2 an2 od3 an3 od4 an4 od5 an5 od6 an6 od7 an7 od8 an8 od9 an9 aiz anE aiy anD aix anC aiw anB aiv anA aiu anz ait anx ais anw air anv aiq anu aip ant aio anr ain anq ail anp aik ano aij anm aii anl aif ank aie anj aic ani aib anh aia ang ah' anf ah_ ane ah9 anc ah8 anb ah7 ana ah6 am' ah5 am_ ah4 am9 ah3 am8 ah2 am7 ah1 am6 ah0 am5 ahZ am4 ahY am3 ahX am2 ahW ad9:Option Addr} {sl0 sl1 sl2 sl3 sl4 sl5 sl6 sl7 sl8 sl9 ag4 ag3 ag2 ag1 ag0 agZ agY agX agW agV agU agT agS agR agQ agP agO agN agM agL agK agJ agI agH agG agF agE agD agC agB agA agz agy agx agw agv agu agt:Array (Option Value)} {oc0 kV0 dc0 pm0 cd0 ct0 oc1 kV1 dc1 pm1 cd1 ct1 oc2 kV2 dc2 pm2 cd2 ct2 oc3 kV3 dc3 pm3 cd3 ct3 oc4 kV4 dc4 pm4 cd4 ct4 oc5 kV5 dc5 pm5 cd5 ct5 oc6 kV6 dc6 pm6 cd6 ct6 oc7 kV7 dc7 pm7 cd7 ct7 oc8 kV8 dc8 pm8 cd8 ct8 oc9 kV9 dc9 pm9 cd9 ct9 ai' akH alQ ahV ad1 amq ai_ akG alP ahU ad0 amo ai9 akF alO ahT adZ amn ai8 akE alN ahS adY amm ai7 akD alM ahR adX aml ai6 akC alL ahQ adW amk ai5 akB alK ahP adV amj ai4 akA alJ ahO adU ami ai3 akz alI ahN adT amh ai2 aky alH ahM adS amg ai1 akx alG ahL adR amf ai0 akv alF ahK adQ ame aiZ aku alE ahJ adP amd aiY akt alD ahI adO amc aiX aks alC ahH adN amb aiW akr alB ahG adM ama aiV akq alA ahF adL al' aiU akp alz ahE adK al_ aiT ako aly ahD adJ al9 aiS akn alx ahC adI al8 aiR akm alw ahB adH al7 aiQ akl alv ahA adG al6 aiP akk alu ahz adF al5 aiO akj als ahy adE al4 aiN aki alr ahx adD al3 aiM akh alq ahw adC al2 aiL akg alp ahv adB al1 aiK akf alo ahu adA al0 aiJ ake aln aht adz alZ aiI akd alm ahs ady alY aiH akc alk ahr adx alX aiG akb alj ahq adw alW aiF aj' ali ahp adv alV aiE aj_ alh aho adu alU aiD aj9 alg ahn alT aiC aj8 alf ahm adt alS aiB aj7 ale ahl adq alR aiA acD adk acf aaK ado:Value}
 (a0:PySem.W.nsIn K mainGlobals "is_whole" = some (some (.ref f0))) (l0:K.lookup f0=some ⟨oc0,od0,.func (PySem.W.fnOf "is_whole" "is_whole" (aN gw) (aK gw) (ao gw) .none kV0 dc0 pm0 an0 cd0 ct0),sl0⟩) (c0:PySem.W.codeIn K cd0 "is_whole" = true) (k0:PySem.W.keepIn K (.ref f0)=true)
 (a1:PySem.W.nsIn K mainGlobals "is_below" = some (some (.ref f1))) (l1:K.lookup f1=some ⟨oc1,od1,.func (PySem.W.fnOf "is_below" "is_below" (aN gA) (aK gA) (ao gA) .none kV1 dc1 pm1 an1 cd1 ct1),sl1⟩) (c1:PySem.W.codeIn K cd1 "is_below" = true) (k1:PySem.W.keepIn K (.ref f1)=true)
 (a2:PySem.W.findIn K (.ref au) "__init__" = some (some (.ref f2))) (l2:K.lookup f2=some ⟨oc2,od2,.func (PySem.W.fnOf "__init__" "Hand.__init__" (aN fG) (aK fG) (ao fG) .none kV2 dc2 pm2 an2 cd2 ct2),sl2⟩) (c2:PySem.W.codeIn K cd2 "Hand.__init__" = true) (k2:PySem.W.keepIn K (.ref f2)=true) (n2:PySem.W.isFn K (.ref f2)=true)
 (a3:PySem.W.nsIn K mainGlobals "cell_of" = some (some (.ref f3))) (l3:K.lookup f3=some ⟨oc3,od3,.func (PySem.W.fnOf "cell_of" "cell_of" (aN iB) (aK iB) (ao iB) .none kV3 dc3 pm3 an3 cd3 ct3),sl3⟩) (c3:PySem.W.codeIn K cd3 "cell_of" = true) (k3:PySem.W.keepIn K (.ref f3)=true)
 (a4:PySem.W.findIn K (.ref au) "value_of" = some (some (.ref f4))) (l4:K.lookup f4=some ⟨oc4,od4,.func (PySem.W.fnOf "value_of" "Hand.value_of" (aN cB) (aK cB) (ao cB) .none kV4 dc4 pm4 an4 cd4 ct4),sl4⟩) (c4:PySem.W.codeIn K cd4 "Hand.value_of" = true) (k4:PySem.W.keepIn K (.ref f4)=true) (n4:PySem.W.isFn K (.ref f4)=true)
 (a5:PySem.W.findIn K (.ref au) "holds" = some (some (.ref f5))) (l5:K.lookup f5=some ⟨oc5,od5,.func (PySem.W.fnOf "holds" "Hand.holds" (aN eN) (aK eN) (ao eN) .none kV5 dc5 pm5 an5 cd5 ct5),sl5⟩) (c5:PySem.W.codeIn K cd5 "Hand.holds" = true) (k5:PySem.W.keepIn K (.ref f5)=true) (n5:PySem.W.isFn K (.ref f5)=true)
 (a6:PySem.W.findIn K (.ref au) "take" = some (some (.ref f6))) (l6:K.lookup f6=some ⟨oc6,od6,.func (PySem.W.fnOf "take" "Hand.take" (aN fB) (aK fB) (ao fB) .none kV6 dc6 pm6 an6 cd6 ct6),sl6⟩) (c6:PySem.W.codeIn K cd6 "Hand.take" = true) (k6:PySem.W.keepIn K (.ref f6)=true) (n6:PySem.W.isFn K (.ref f6)=true)
 (a7:PySem.W.findIn K (.ref au) "do" = some (some (.ref f7))) (l7:K.lookup f7=some ⟨oc7,od7,.func (PySem.W.fnOf "do" "Hand.do" (aN iC) (aK iC) (ao iC) .none kV7 dc7 pm7 an7 cd7 ct7),sl7⟩) (c7:PySem.W.codeIn K cd7 "Hand.do" = true) (k7:PySem.W.keepIn K (.ref f7)=true) (n7:PySem.W.isFn K (.ref f7)=true)
 (a8:PySem.W.findIn K (.ref au) "lead_on" = some (some (.ref f8))) (l8:K.lookup f8=some ⟨oc8,od8,.func (PySem.W.fnOf "lead_on" "Hand.lead_on" (aN cW) (aK cW) (ao cW) .none kV8 dc8 pm8 an8 cd8 ct8),sl8⟩) (c8:PySem.W.codeIn K cd8 "Hand.lead_on" = true) (k8:PySem.W.keepIn K (.ref f8)=true) (n8:PySem.W.isFn K (.ref f8)=true)
 (a9:PySem.W.nsIn K mainGlobals "check_numbers" = some (some (.ref f9))) (l9:K.lookup f9=some ⟨oc9,od9,.func (PySem.W.fnOf "check_numbers" "check_numbers" (aN cN) (aK cN) (ao cN) .none kV9 dc9 pm9 an9 cd9 ct9),sl9⟩) (c9:PySem.W.codeIn K cd9 "check_numbers" = true) (k9:PySem.W.keepIn K (.ref f9)=true)
 (a10:PySem.W.findIn K (.ref aq) "touch_by" = some (some (.ref f10))) (l10:K.lookup f10=some ⟨ai',aiz,.func (PySem.W.fnOf "touch_by" "Works.touch_by" (aN cF) (aK cF) (ao cF) .none akH alQ ahV anE ad1 amq),ag4⟩) (c10:PySem.W.codeIn K ad1 "Works.touch_by" = true) (k10:PySem.W.keepIn K (.ref f10)=true) (n10:PySem.W.isFn K (.ref f10)=true)
 (a11:PySem.W.findIn K (.ref aq) "hand_of" = some (some (.ref f11))) (l11:K.lookup f11=some ⟨ai_,aiy,.func (PySem.W.fnOf "hand_of" "Works.hand_of" (aN cO) (aK cO) (ao cO) .none akG alP ahU anD ad0 amo),ag3⟩) (c11:PySem.W.codeIn K ad0 "Works.hand_of" = true) (k11:PySem.W.keepIn K (.ref f11)=true) (n11:PySem.W.isFn K (.ref f11)=true)
 (a12:PySem.W.findIn K (.ref aq) "turn" = some (some (.ref f12))) (l12:K.lookup f12=some ⟨ai9,aix,.func (PySem.W.fnOf "turn" "Works.turn" (aN eG) (aK eG) (ao eG) .none akF alO ahT anC adZ amn),ag2⟩) (c12:PySem.W.codeIn K adZ "Works.turn" = true) (k12:PySem.W.keepIn K (.ref f12)=true) (n12:PySem.W.isFn K (.ref f12)=true)
 {T13:Addr} {agb:Value} {af_:Option Addr} {af7:Nat} {abD:Array (Option Value)} (a13:PySem.W.findIn K (.ref aq) "__init__" = some (some (.ref Yr))) (l13:K.lookup Yr=some ⟨ai8,aiw,.func (PySem.W.fnOf "__init__" "Works.__init__" (aN bW) (aK bW) (ao bW) (.ref T13) akE alN ahS anB adY amm),ag1⟩) (c13:PySem.W.codeIn K adY "Works.__init__" = true) (k13:PySem.W.keepIn K (.ref Yr)=true) (n13:PySem.W.isFn K (.ref Yr)=true) (d13:K.lookup T13=some ⟨agb,af_,.seq #[.none] af7,abD⟩)
 (a14:PySem.W.findIn K (.ref aq) "how" = some (some (.ref f14))) (l14:K.lookup f14=some ⟨ai7,aiv,.func (PySem.W.fnOf "how" "Works.how" (aN fu) (aK fu) (ao fu) .none akD alM ahR anA adX aml),ag0⟩) (c14:PySem.W.codeIn K adX "Works.how" = true) (k14:PySem.W.keepIn K (.ref f14)=true) (n14:PySem.W.isFn K (.ref f14)=true)
 (a15:PySem.W.findIn K (.ref aq) "counts" = some (some (.ref f15))) (l15:K.lookup f15=some ⟨ai6,aiu,.func (PySem.W.fnOf "counts" "Works.counts" (aN cV) (aK cV) (ao cV) .none akC alL ahQ anz adW amk),agZ⟩) (c15:PySem.W.codeIn K adW "Works.counts" = true) (k15:PySem.W.keepIn K (.ref f15)=true) (n15:PySem.W.isFn K (.ref f15)=true)
 (a16:PySem.W.findIn K (.ref au) "another" = some (some (.ref f16))) (l16:K.lookup f16=some ⟨ai5,ait,.func (PySem.W.fnOf "another" "Hand.another" (aN cX) (aK cX) (ao cX) .none akB alK ahP anx adV amj),agY⟩) (c16:PySem.W.codeIn K adV "Hand.another" = true) (k16:PySem.W.keepIn K (.ref f16)=true) (n16:PySem.W.isFn K (.ref f16)=true)
 (a17:PySem.W.findIn K (.ref aq) "twin" = some (some (.ref f17))) (l17:K.lookup f17=some ⟨ai4,ais,.func (PySem.W.fnOf "twin" "Works.twin" (aN eF) (aK eF) (ao eF) .none akA alJ ahO anw adU ami),agX⟩) (c17:PySem.W.codeIn K adU "Works.twin" = true) (k17:PySem.W.keepIn K (.ref f17)=true) (n17:PySem.W.isFn K (.ref f17)=true)
 (a18:PySem.W.nsIn K mainGlobals "is_note" = some (some (.ref f18))) (l18:K.lookup f18=some ⟨ai3,air,.func (PySem.W.fnOf "is_note" "is_note" (aN iz) (aK iz) (ao iz) .none akz alI ahN anv adT amh),agW⟩) (c18:PySem.W.codeIn K adT "is_note" = true) (k18:PySem.W.keepIn K (.ref f18)=true)
 (a19:PySem.W.nsIn K mainGlobals "is_between" = some (some (.ref f19))) (l19:K.lookup f19=some ⟨ai2,aiq,.func (PySem.W.fnOf "is_between" "is_between" (aN eE) (aK eE) (ao eE) .none aky alH ahM anu adS amg),agV⟩) (c19:PySem.W.codeIn K adS "is_between" = true) (k19:PySem.W.keepIn K (.ref f19)=true)
 (a20:PySem.W.nsIn K mainGlobals "check_notes" = some (some (.ref f20))) (l20:K.lookup f20=some ⟨ai1,aip,.func (PySem.W.fnOf "check_notes" "check_notes" (aN dI) (aK dI) (ao dI) .none akx alG ahL ant adR amf),agU⟩) (c20:PySem.W.codeIn K adR "check_notes" = true) (k20:PySem.W.keepIn K (.ref f20)=true)
 (a21:PySem.W.nsIn K mainGlobals "has" = some (some (.ref f21))) (l21:K.lookup f21=some ⟨ai0,aio,.func (PySem.W.fnOf "has" "has" (aN wg) (aK wg) (ao wg) .none akv alF ahK anr adQ ame),agT⟩) (c21:PySem.W.codeIn K adQ "has" = true) (k21:PySem.W.keepIn K (.ref f21)=true)
 (a22:PySem.W.nsIn K mainGlobals "firsts_of" = some (some (.ref f22))) (l22:K.lookup f22=some ⟨aiZ,ain,.func (PySem.W.fnOf "firsts_of" "firsts_of" (aN fj) (aK fj) (ao fj) .none aku alE ahJ anq adP amd),agS⟩) (c22:PySem.W.codeIn K adP "firsts_of" = true) (k22:PySem.W.keepIn K (.ref f22)=true)
 (a23:PySem.W.findIn K (.ref aC) "counts" = some (some (.ref f23))) (l23:K.lookup f23=some ⟨aiY,ail,.func (PySem.W.fnOf "counts" "Replay.counts" (aN cP) (aK cP) (ao cP) .none akt alD ahI anp adO amc),agR⟩) (c23:PySem.W.codeIn K adO "Replay.counts" = true) (k23:PySem.W.keepIn K (.ref f23)=true) (n23:PySem.W.isFn K (.ref f23)=true)
 (a24:PySem.W.findIn K (.ref aC) "done" = some (some (.ref f24))) (l24:K.lookup f24=some ⟨aiX,aik,.func (PySem.W.fnOf "done" "Replay.done" (aN dR) (aK dR) (ao dR) .none aks alC ahH ano adN amb),agQ⟩) (c24:PySem.W.codeIn K adN "Replay.done" = true) (k24:PySem.W.keepIn K (.ref f24)=true) (n24:PySem.W.isFn K (.ref f24)=true)
 (a25:PySem.W.findIn K (.ref aC) "is_over" = some (some (.ref f25))) (l25:K.lookup f25=some ⟨aiW,aij,.func (PySem.W.fnOf "is_over" "Replay.is_over" (aN cG) (aK cG) (ao cG) .none akr alB ahG anm adM ama),agP⟩) (c25:PySem.W.codeIn K adM "Replay.is_over" = true) (k25:PySem.W.keepIn K (.ref f25)=true) (n25:PySem.W.isFn K (.ref f25)=true)
 (a26:PySem.W.findIn K (.ref aC) "holding" = some (some (.ref f26))) (l26:K.lookup f26=some ⟨aiV,aii,.func (PySem.W.fnOf "holding" "Replay.holding" (aN cH) (aK cH) (ao cH) .none akq alA ahF anl adL al'),agO⟩) (c26:PySem.W.codeIn K adL "Replay.holding" = true) (k26:PySem.W.keepIn K (.ref f26)=true) (n26:PySem.W.isFn K (.ref f26)=true)
 (a27:PySem.W.findIn K (.ref aC) "free" = some (some (.ref f27))) (l27:K.lookup f27=some ⟨aiU,aif,.func (PySem.W.fnOf "free" "Replay.free" (aN dO) (aK dO) (ao dO) .none akp alz ahE ank adK al_),agN⟩) (c27:PySem.W.codeIn K adK "Replay.free" = true) (k27:PySem.W.keepIn K (.ref f27)=true) (n27:PySem.W.isFn K (.ref f27)=true)
 (a28:PySem.W.findIn K (.ref aC) "left" = some (some (.ref f28))) (l28:K.lookup f28=some ⟨aiT,aie,.func (PySem.W.fnOf "left" "Replay.left" (aN dM) (aK dM) (ao dM) .none ako aly ahD anj adJ al9),agM⟩) (c28:PySem.W.codeIn K adJ "Replay.left" = true) (k28:PySem.W.keepIn K (.ref f28)=true) (n28:PySem.W.isFn K (.ref f28)=true)
 (a29:PySem.W.findIn K (.ref aC) "__len__" = some (some (.ref f29))) (l29:K.lookup f29=some ⟨aiS,aic,.func (PySem.W.fnOf "__len__" "Replay.__len__" (aN cI) (aK cI) (ao cI) .none akn alx ahC ani adI al8),agL⟩) (c29:PySem.W.codeIn K adI "Replay.__len__" = true) (k29:PySem.W.keepIn K (.ref f29)=true) (n29:PySem.W.isFn K (.ref f29)=true)
 (a30:PySem.W.findIn K (.ref aC) "turn" = some (some (.ref f30))) (l30:K.lookup f30=some ⟨aiR,aib,.func (PySem.W.fnOf "turn" "Replay.turn" (aN dJ) (aK dJ) (ao dJ) .none akm alw ahB anh adH al7),agK⟩) (c30:PySem.W.codeIn K adH "Replay.turn" = true) (k30:PySem.W.keepIn K (.ref f30)=true) (n30:PySem.W.isFn K (.ref f30)=true)
 (a31:PySem.W.findIn K (.ref aC) "__init__" = some (some (.ref f31))) (l31:K.lookup f31=some ⟨aiQ,aia,.func (PySem.W.fnOf "__init__" "Replay.__init__" (aN dN) (aK dN) (ao dN) .none akl alv ahA ang adG al6),agJ⟩) (c31:PySem.W.codeIn K adG "Replay.__init__" = true) (k31:PySem.W.keepIn K (.ref f31)=true) (n31:PySem.W.isFn K (.ref f31)=true)
 (a32:PySem.W.nsIn K mainGlobals "played" = some (some (.ref f32))) (l32:K.lookup f32=some ⟨aiP,ah',.func (PySem.W.fnOf "played" "played" (aN jJ) (aK jJ) (ao jJ) .none akk alu ahz anf adF al5),agI⟩) (c32:PySem.W.codeIn K adF "played" = true) (k32:PySem.W.keepIn K (.ref f32)=true)
 (a33:PySem.W.nsIn K mainGlobals "_law_reel" = some (some (.ref f33))) (l33:K.lookup f33=some ⟨aiO,ah_,.func (PySem.W.fnOf "_law_reel" "_law_reel" (aN mQ) (aK mQ) (ao mQ) .none akj als ahy ane adE al4),agH⟩) (c33:PySem.W.codeIn K adE "_law_reel" = true) (k33:PySem.W.keepIn K (.ref f33)=true)
 (a34:PySem.W.nsIn K mainGlobals "_law_draw" = some (some (.ref f34))) (l34:K.lookup f34=some ⟨aiN,ah9,.func (PySem.W.fnOf "_law_draw" "_law_draw" (aN mW) (aK mW) (ao mW) .none aki alr ahx anc adD al3),agG⟩) (c34:PySem.W.codeIn K adD "_law_draw" = true) (k34:PySem.W.keepIn K (.ref f34)=true)
 (a35:PySem.W.nsIn K mainGlobals "_law_alike" = some (some (.ref f35))) (l35:K.lookup f35=some ⟨aiM,ah8,.func (PySem.W.fnOf "_law_alike" "_law_alike" (aN iV) (aK iV) (ao iV) .none akh alq ahw anb adC al2),agF⟩) (c35:PySem.W.codeIn K adC "_law_alike" = true) (k35:PySem.W.keepIn K (.ref f35)=true)
 (a36:PySem.W.nsIn K mainGlobals "_law_note" = some (some (.ref f36))) (l36:K.lookup f36=some ⟨aiL,ah7,.func (PySem.W.fnOf "_law_note" "_law_note" (aN mR) (aK mR) (ao mR) .none akg alp ahv ana adB al1),agE⟩) (c36:PySem.W.codeIn K adB "_law_note" = true) (k36:PySem.W.keepIn K (.ref f36)=true)
 (a37:PySem.W.nsIn K mainGlobals "_law_other" = some (some (.ref f37))) (l37:K.lookup f37=some ⟨aiK,ah6,.func (PySem.W.fnOf "_law_other" "_law_other" (aN jM) (aK jM) (ao jM) .none akf alo ahu am' adA al0),agD⟩) (c37:PySem.W.codeIn K adA "_law_other" = true) (k37:PySem.W.keepIn K (.ref f37)=true)
 (a38:PySem.W.nsIn K mainGlobals "_law_notes" = some (some (.ref f38))) (l38:K.lookup f38=some ⟨aiJ,ah5,.func (PySem.W.fnOf "_law_notes" "_law_notes" (aN jN) (aK jN) (ao jN) .none ake aln aht am_ adz alZ),agC⟩) (c38:PySem.W.codeIn K adz "_law_notes" = true) (k38:PySem.W.keepIn K (.ref f38)=true)
 (a39:PySem.W.nsIn K mainGlobals "_law_there" = some (some (.ref f39))) (l39:K.lookup f39=some ⟨aiI,ah4,.func (PySem.W.fnOf "_law_there" "_law_there" (aN jK) (aK jK) (ao jK) .none akd alm ahs am9 ady alY),agB⟩) (c39:PySem.W.codeIn K ady "_law_there" = true) (k39:PySem.W.keepIn K (.ref f39)=true)
 (a40:PySem.W.nsIn K mainGlobals "_law_due" = some (some (.ref f40))) (l40:K.lookup f40=some ⟨aiH,ah3,.func (PySem.W.fnOf "_law_due" "_law_due" (aN qC) (aK qC) (ao qC) .none akc alk ahr am8 adx alX),agA⟩) (c40:PySem.W.codeIn K adx "_law_due" = true) (k40:PySem.W.keepIn K (.ref f40)=true)
 (a41:PySem.W.nsIn K mainGlobals "_law_kind" = some (some (.ref f41))) (l41:K.lookup f41=some ⟨aiG,ah2,.func (PySem.W.fnOf "_law_kind" "_law_kind" (aN mV) (aK mV) (ao mV) .none akb alj ahq am7 adw alW),agz⟩) (c41:PySem.W.codeIn K adw "_law_kind" = true) (k41:PySem.W.keepIn K (.ref f41)=true)
 (a42:PySem.W.nsIn K mainGlobals "_law_made" = some (some (.ref f42))) (l42:K.lookup f42=some ⟨aiF,ah1,.func (PySem.W.fnOf "_law_made" "_law_made" (aN mU) (aK mU) (ao mU) .none aj' ali ahp am6 adv alV),agy⟩) (c42:PySem.W.codeIn K adv "_law_made" = true) (k42:PySem.W.keepIn K (.ref f42)=true)
 (a43:PySem.W.nsIn K mainGlobals "_law_asked" = some (some (.ref f43))) (l43:K.lookup f43=some ⟨aiE,ah0,.func (PySem.W.fnOf "_law_asked" "_law_asked" (aN jO) (aK jO) (ao jO) .none aj_ alh aho am5 adu alU),agx⟩) (c43:PySem.W.codeIn K adu "_law_asked" = true) (k43:PySem.W.keepIn K (.ref f43)=true)
 (a44:PySem.W.nsIn K mainGlobals "_law_played" = some (some (.ref f44))) (l44:K.lookup f44=some ⟨aiD,ahZ,.func (PySem.W.fnOf "_law_played" "_law_played" (aN dH) (aK dH) (ao dH) .none aj9 alg ahn am4 (.ref aaL) alT),agw⟩) (c44:PySem.W.codeIn K (.ref aaL) "_law_played" = true) (k44:PySem.W.keepIn K (.ref f44)=true) (h44:PySem.W.codeHdIn K aaL p=true) (hkp:K.lookup p=none)
 (a45:PySem.W.nsIn K mainGlobals "_law_right" = some (some (.ref f45))) (l45:K.lookup f45=some ⟨aiC,ahY,.func (PySem.W.fnOf "_law_right" "_law_right" (aN jL) (aK jL) (ao jL) .none aj8 alf ahm am3 adt alS),agv⟩) (c45:PySem.W.codeIn K adt "_law_right" = true) (k45:PySem.W.keepIn K (.ref f45)=true)
 (a46:PySem.W.nsIn K mainGlobals "_law_rows" = some (some (.ref f46))) (l46:K.lookup f46=some ⟨aiB,ahX,.func (PySem.W.fnOf "_law_rows" "_law_rows" (aN mO) (aK mO) (ao mO) .none aj7 ale ahl am2 adq alR),agu⟩) (c46:PySem.W.codeIn K adq "_law_rows" = true) (k46:PySem.W.keepIn K (.ref f46)=true)
 (a47:PySem.W.nsIn K mainGlobals "law" = some (some (.ref f47))) (l47:K.lookup f47=some ⟨aiA,ahW,.func (PySem.W.fnOf "law" "law" (aN rQ) (aK rQ) (ao rQ) .none acD adk acf ad9 aaK ado),agt⟩) (c47:PySem.W.codeIn K aaK "law" = true) (k47:PySem.W.keepIn K (.ref f47)=true)
 (Fb:PySem.W.nsIn K mainGlobals "Hand" = some (some (.ref au)))
 (zU:PySem.W.plainGet K au Str.empty=true)
 (zX:PySem.W.hasDictIn K au=true)
 (zT:PySem.W.plainOver K au=true)
 (zR:PySem.W.findIn K (.ref au) "__setattr__" = some (some (.builtin "object.__setattr__")))
 (zV:PySem.W.makesIn K au=true)
 (zW:PySem.W.keepIn K (.ref au)=true)
 (pW:PySem.W.findIn K (.ref au) "rows" = some none)
 (uD:PySem.W.findIn K (.ref au) "at" = some none)
 (j9:PySem.W.findIn K (.ref au) "in_boxes" = some none)
 (lO:PySem.W.findIn K (.ref au) "sayings" = some none)
 (oM:PySem.W.findIn K (.ref au) "state" = some none)
 (rG:PySem.W.nsIn K mainGlobals "Works" = some (some (.ref aq)))
 (xM:PySem.W.plainGet K aq Str.empty=true)
 (xO:PySem.W.hasDictIn K aq=true)
 (xK:PySem.W.plainOver K aq=true)
 (xJ:PySem.W.findIn K (.ref aq) "__setattr__" = some (some (.builtin "object.__setattr__")))
 (pF:PySem.W.makesIn K aq=true)
 (pG:PySem.W.keepIn K (.ref aq)=true)
 (j5:PySem.W.findIn K (.ref aq) "program" = some none)
 (j6:PySem.W.findIn K (.ref aq) "numbers" = some none)
 (m9:PySem.W.findIn K (.ref aq) "hands" = some none)
 (m7:PySem.W.findIn K (.ref aq) "turns" = some none)
 (xP:PySem.W.nsIn K mainGlobals "Replay" = some (some (.ref aC)))
 (uz:PySem.W.plainGet K aC Str.empty=true)
 (uG:PySem.W.hasDictIn K aC=true)
 (uy:PySem.W.plainOver K aC=true)
 (ux:PySem.W.findIn K (.ref aC) "__setattr__" = some (some (.builtin "object.__setattr__")))
 (uE:PySem.W.makesIn K aC=true)
 (uF:PySem.W.keepIn K (.ref aC)=true)
 (j7:PySem.W.findIn K (.ref aC) "record" = some none)
 (j8:PySem.W.findIn K (.ref aC) "firsts" = some none)
 (lN:PySem.W.findIn K (.ref aC) "stage" = some none)
 (jg:PySem.W.findIn K (.ref aC) "progress" = some none)
 (xU:PySem.W.nsIn K mainGlobals "NoNote" = some (some (.ref aM)))
 (ql:(PySem.W.clsIn K aM).isSome=true)
 (uJ:PySem.W.typeIn K (.ref aM)=some (.type "type"))
 (uY:PySem.W.subIn K (.ref aM) (.type "BaseException")=some true)
 (xV:PySem.W.nsIn K mainGlobals "NoHand" = some (some (.ref aH)))
 (qm:(PySem.W.clsIn K aH).isSome=true)
 (uK:PySem.W.typeIn K (.ref aH)=some (.type "type"))
 (uZ:PySem.W.subIn K (.ref aH) (.type "BaseException")=some true)
 (Fg:PySem.W.nsIn K mainGlobals "Over" = some (some (.ref bh)))
 (vI:(PySem.W.clsIn K bh).isSome=true)
 (z9:PySem.W.typeIn K (.ref bh)=some (.type "type"))
 (Ah:PySem.W.subIn K (.ref bh) (.type "BaseException")=some true)
 (rJ:PySem.W.nsIn K mainGlobals "NoNumber" = some (some (.ref aO)))
 (mK:(PySem.W.clsIn K aO).isSome=true)
 (p7:PySem.W.typeIn K (.ref aO)=some (.type "type"))
 (qt:PySem.W.subIn K (.ref aO) (.type "BaseException")=some true)
 (qu:PySem.W.nsIn K mainGlobals "NoteError" = some (some (.ref bD)))
 (oW:(PySem.W.clsIn K bD).isSome=true)
 (oN:PySem.W.typeIn K (.ref bD)=some (.type "type"))
 (oX:PySem.W.subIn K (.ref bD) (.type "BaseException")=some true)
 (Fi:PySem.W.nsIn K mainGlobals "Held" = some (some (.ref dg)))
 (Af:(PySem.W.clsIn K dg).isSome=true)
 (z_:PySem.W.typeIn K (.ref dg)=some (.type "type"))
 (Ai:PySem.W.subIn K (.ref dg) (.type "BaseException")=some true)
 (Aj:PySem.W.nsIn K mainGlobals "NoCut" = some (some (.ref cg)))
 (xR:(PySem.W.clsIn K cg).isSome=true)
 (xQ:PySem.W.typeIn K (.ref cg)=some (.type "type"))
 (xT:PySem.W.subIn K (.ref cg) (.type "BaseException")=some true)
 (jE:(Value.ref aH==Value.ref aM)=false)
 (jz:PySem.W.subIn K (.ref aH) (.ref aM)=some false)
 (lY:(Value.ref bh==Value.ref aM)=false)
 (lQ:PySem.W.subIn K (.ref bh) (.ref aM)=some false)
 (iM:(Value.ref aO==Value.ref aM)=false)
 (iH:PySem.W.subIn K (.ref aO) (.ref aM)=some false)
 (jD:(Value.ref aM==Value.ref aH)=false)
 (jy:PySem.W.subIn K (.ref aM) (.ref aH)=some false)
 (lZ:(Value.ref bh==Value.ref aH)=false)
 (lR:PySem.W.subIn K (.ref bh) (.ref aH)=some false)
 (iQ:(Value.ref aO==Value.ref aH)=false)
 (iI:PySem.W.subIn K (.ref aO) (.ref aH)=some false)
 (mj:(Value.ref aM==Value.ref bh)=false)
 (lU:PySem.W.subIn K (.ref aM) (.ref bh)=some false)
 (mC:(Value.ref aH==Value.ref bh)=false)
 (lW:PySem.W.subIn K (.ref aH) (.ref bh)=some false)
 (jB:(Value.ref aO==Value.ref bh)=false)
 (jw:PySem.W.subIn K (.ref aO) (.ref bh)=some false)
 (iR:(Value.ref aM==Value.ref aO)=false)
 (iJ:PySem.W.subIn K (.ref aM) (.ref aO)=some false)
 (iT:(Value.ref aH==Value.ref aO)=false)
 (iK:PySem.W.subIn K (.ref aH) (.ref aO)=some false)
 (jA:(Value.ref bh==Value.ref aO)=false)
 (ju:PySem.W.subIn K (.ref bh) (.ref aO)=some false)
 (gY:(Value.ref aM==Value.ref bD)=false)
 (gU:PySem.W.subIn K (.ref aM) (.ref bD)=some true)
 (gZ:(Value.ref aH==Value.ref bD)=false)
 (gW:PySem.W.subIn K (.ref aH) (.ref bD)=some true)
 (jm:(Value.ref bh==Value.ref bD)=false)
 (jh:PySem.W.subIn K (.ref bh) (.ref bD)=some true)
 (gq:(Value.ref aO==Value.ref bD)=false)
 (gn:PySem.W.subIn K (.ref aO) (.ref bD)=some true)
 (mz:(Value.ref aM==Value.ref dg)=false)
 (lV:PySem.W.subIn K (.ref aM) (.ref dg)=some false)
 (mD:(Value.ref aH==Value.ref dg)=false)
 (lX:PySem.W.subIn K (.ref aH) (.ref dg)=some false)
 (oU:(Value.ref bh==Value.ref dg)=false)
 (oO:PySem.W.subIn K (.ref bh) (.ref dg)=some false)
 (jC:(Value.ref aO==Value.ref dg)=false)
 (jx:PySem.W.subIn K (.ref aO) (.ref dg)=some false)
 (kj:(Value.ref aM==Value.ref cg)=false)
 (j_:PySem.W.subIn K (.ref aM) (.ref cg)=some false)
 (kJ:(Value.ref aH==Value.ref cg)=false)
 (kh:PySem.W.subIn K (.ref aH) (.ref cg)=some false)
 (ni:(Value.ref bh==Value.ref cg)=false)
 (m_:PySem.W.subIn K (.ref bh) (.ref cg)=some false)
 (jo:(Value.ref aO==Value.ref cg)=false)
 (jk:PySem.W.subIn K (.ref aO) (.ref cg)=some false)
 (xcg:PySem.W.specialIn K (.builtin "object.__class__") "__get__" = some (some (.builtin "getset_descriptor.__get__")))
 (xct:PySem.W.takesIn K (.builtin "object.__class__")=some true)
 (uR:PySem.W.findIn K (.ref aM) "__getattribute__" = some (some (.builtin "BaseException.__getattribute__")))
 (uP:PySem.W.findIn K (.ref aM) "__getattr__" = some none)
 (uN:PySem.W.mroIn K aM (.type "BaseException")=some true)
 (uW:PySem.W.findIn K (.ref aM) "__class__" = some (some (.builtin "object.__class__")))
 (uL:PySem.W.mroIn K aM (.type "object")=some true)
 (uH:PySem.W.subIn K (.ref aM) (.type "ValueError")=some true)
 (uU:PySem.W.excIn K aM [.type "ValueError",.type "Exception",.type "BaseException",.type "object"] "ValueError.__new__" = true)
 (uT:PySem.W.findIn K (.ref aH) "__getattribute__" = some (some (.builtin "BaseException.__getattribute__")))
 (uQ:PySem.W.findIn K (.ref aH) "__getattr__" = some none)
 (uO:PySem.W.mroIn K aH (.type "BaseException")=some true)
 (uX:PySem.W.findIn K (.ref aH) "__class__" = some (some (.builtin "object.__class__")))
 (uM:PySem.W.mroIn K aH (.type "object")=some true)
 (uI:PySem.W.subIn K (.ref aH) (.type "ValueError")=some true)
 (uV:PySem.W.excIn K aH [.type "ValueError",.type "Exception",.type "BaseException",.type "object"] "ValueError.__new__" = true)
 (Ad:PySem.W.findIn K (.ref bh) "__getattribute__" = some (some (.builtin "BaseException.__getattribute__")))
 (Ac:PySem.W.findIn K (.ref bh) "__getattr__" = some none)
 (Ab:PySem.W.mroIn K bh (.type "BaseException")=some true)
 (Ag:PySem.W.findIn K (.ref bh) "__class__" = some (some (.builtin "object.__class__")))
 (Aa:PySem.W.mroIn K bh (.type "object")=some true)
 (zZ:PySem.W.subIn K (.ref bh) (.type "ValueError")=some true)
 (Ae:PySem.W.excIn K bh [.type "ValueError",.type "Exception",.type "BaseException",.type "object"] "ValueError.__new__" = true)
 (qg:PySem.W.findIn K (.ref aO) "__getattribute__" = some (some (.builtin "BaseException.__getattribute__")))
 (qe:PySem.W.findIn K (.ref aO) "__getattr__" = some none)
 (qd:PySem.W.mroIn K aO (.type "BaseException")=some true)
 (qp:PySem.W.findIn K (.ref aO) "__class__" = some (some (.builtin "object.__class__")))
 (p8:PySem.W.mroIn K aO (.type "object")=some true)
 (pZ:PySem.W.subIn K (.ref aO) (.type "ValueError")=some true)
 (qj:PySem.W.excIn K aO [.type "ValueError",.type "Exception",.type "BaseException",.type "object"] "ValueError.__new__" = true)
 {Tr:Tok} (GD:PySem.W.nsIn K mainGlobals "BOXES" = some (some (.str "abcdefgh" Tr)))
 {Tq:Tok} (GC:PySem.W.nsIn K mainGlobals "ROUND" = some (some (.int 1000 Tq)))
 {vq:Tok} (jR:PySem.W.nsIn K mainGlobals "MOST_UNTOUCHING" = some (some (.int 60 vq)))
 (pY:PySem.W.nsIn K mainGlobals "ValueError" = some none) (QH:PySem.W.nsIn K mainGlobals "all" = some none) (JW:PySem.W.nsIn K mainGlobals "bool" = some none) (rH:PySem.W.nsIn K mainGlobals "enumerate" = some none) (QG:PySem.W.nsIn K mainGlobals "int" = some none) (pX:PySem.W.nsIn K mainGlobals "isinstance" = some none) (QF:PySem.W.nsIn K mainGlobals "len" = some none) (JV:PySem.W.nsIn K mainGlobals "list" = some none) (QD:PySem.W.nsIn K mainGlobals "max" = some none) (QC:PySem.W.nsIn K mainGlobals "min" = some none) (Fe:PySem.W.nsIn K mainGlobals "range" = some none) (zY:PySem.W.nsIn K mainGlobals "sorted" = some none) (QB:PySem.W.nsIn K mainGlobals "str" = some none) (Qz:PySem.W.nsIn K mainGlobals "sum" = some none) (Fd:PySem.W.nsIn K mainGlobals "tuple" = some none) (Qy:PySem.W.nsIn K mainGlobals "zip" = some none):
 (K.lookup p=none /\ ∃c,PySem.W.codeHdIn K c p=true) /\ ∃fd:FuncData,(∀(s:Shared) (v:Value),BindsTo s fd ⟨[v],[]⟩ [("script",v)]) /\ ∀base:Heap,K.In base->base.Ns mainGlobals mg->Bm mg base->bV l.prog w K mg base j4 15 fa fd ["script"] (Mf p K):=by
 have e:=hfa.symm.trans (PySem.W.mg_of X G a47);cases e;have Bt:rC mg:=⟨PySem.W.mg_none_of X G pY,PySem.W.mg_none_of X G QH,PySem.W.mg_none_of X G JW,PySem.W.mg_none_of X G rH,PySem.W.mg_none_of X G QG,PySem.W.mg_none_of X G pX,PySem.W.mg_none_of X G QF,PySem.W.mg_none_of X G JV,PySem.W.mg_none_of X G QD,PySem.W.mg_none_of X G QC,PySem.W.mg_none_of X G Fe,PySem.W.mg_none_of X G zY,PySem.W.mg_none_of X G QB,PySem.W.mg_none_of X G Qz,PySem.W.mg_none_of X G Fd,PySem.W.mg_none_of X G Qy⟩;have aP:iG K au:=⟨⟨zU,zX,zT,zR⟩,pW,uD,j9,lO,oM⟩;have aU:gK K aq:=⟨⟨xM,xO,xK,xJ⟩,j5,j6,m9,m7⟩;have aQ:eV K aC:=⟨⟨uz,uG,uy,ux⟩,j7,j8,lN,jg⟩;have iD:Gv mg "BOXES" (.str "abcdefgh"):=⟨_,PySem.W.mg_of X G GD,⟨_,rfl⟩⟩;have jV:Gv mg "ROUND" (.int 1000):=⟨_,PySem.W.mg_of X G GC,⟨_,rfl⟩⟩;have gR:Gv mg "MOST_UNTOUCHING" (.int 60):=⟨_,PySem.W.mg_of X G jR,⟨_,rfl⟩⟩;have cZ:Xr K mg aM "NoNote" :=⟨PySem.W.mg_of X G xU,⟨ql,uJ,uY⟩,⟨uR,uP,uN,ql,uW,xcg,xct,uL⟩,uU,uH⟩;have bT:Xr K mg aH "NoHand" :=⟨PySem.W.mg_of X G xV,⟨qm,uK,uZ⟩,⟨uT,uQ,uO,qm,uX,xcg,xct,uM⟩,uV,uI⟩;have lC:Xr K mg bh "Over" :=⟨PySem.W.mg_of X G Fg,⟨vI,z9,Ah⟩,⟨Ad,Ac,Ab,vI,Ag,xcg,xct,Aa⟩,Ae,zZ⟩;have iu:Xr K mg aO "NoNumber" :=⟨PySem.W.mg_of X G rJ,⟨mK,p7,qt⟩,⟨qg,qe,qd,mK,qp,xcg,xct,p8⟩,qj,pZ⟩;have dj:Xo K mg aM bD "NoteError" true:=⟨PySem.W.mg_of X G qu,⟨oW,oN,oX⟩,⟨gY,gU⟩⟩;have vD:Xo K mg aM dg "Held" false:=⟨PySem.W.mg_of X G Fi,⟨Af,z_,Ai⟩,⟨mz,lV⟩⟩;have qP:Xo K mg aM cg "NoCut" false:=⟨PySem.W.mg_of X G Aj,⟨xR,xQ,xT⟩,⟨kj,j_⟩⟩;have gH:bZ K aM aH false:=⟨jD,jy⟩;have iY:bZ K aM bh false:=⟨mj,lU⟩;have oG:bZ K aM aO false:=⟨iR,iJ⟩;have gJ:bZ K aH aM false:=⟨jE,jz⟩;have iZ:bZ K aH bh false:=⟨mC,lW⟩;have oH:bZ K aH aO false:=⟨iT,iK⟩;have cA:bZ K aH bD true:=⟨gZ,gW⟩;have i_:bZ K aH dg false:=⟨mD,lX⟩;have iw:bZ K aH cg false:=⟨kJ,kh⟩;have uo:bZ K bh aM false:=⟨lY,lQ⟩;have uq:bZ K bh aH false:=⟨lZ,lR⟩;have qW:bZ K bh aO false:=⟨jA,ju⟩;have pP:bZ K bh bD true:=⟨jm,jh⟩;have zx:bZ K bh dg false:=⟨oU,oO⟩;have xq:bZ K bh cg false:=⟨ni,m_⟩;have oE:bZ K aO aM false:=⟨iM,iH⟩;have oF:bZ K aO aH false:=⟨iQ,iI⟩;have qX:bZ K aO bh false:=⟨jB,jw⟩;have lJ:bZ K aO bD true:=⟨gq,gn⟩;have qY:bZ K aO dg false:=⟨jC,jx⟩;have pQ:bZ K aO cg false:=⟨jo,jk⟩;have F0:=bO (st:=gw) l0 c0 k0;have F1:=bO (st:=gA) l1 c1 k1;have F2:=bO (st:=fG) l2 c2 k2;have F3:=bO (st:=iB) l3 c3 k3;have F4:=bO (st:=cB) l4 c4 k4;have F5:=bO (st:=eN) l5 c5 k5;have F6:=bO (st:=fB) l6 c6 k6;have F7:=bO (st:=iC) l7 c7 k7;have F8:=bO (st:=cW) l8 c8 k8;have F9:=bO (st:=cN) l9 c9 k9;have F10:=bO (st:=cF) l10 c10 k10;have F11:=bO (st:=cO) l11 c11 k11;have F12:=bO (st:=eG) l12 c12 k12;have F13:Xy K "__init__" "Works.__init__" bW [.none] Yr _:=⟨⟨_,_,_,_,_,_,_,_,_,_,_,_,_,_,rfl,l13,c13,d13⟩,k13⟩;have F14:=bO (st:=fu) l14 c14 k14;have F15:=bO (st:=cV) l15 c15 k15;have F16:=bO (st:=cX) l16 c16 k16;have F17:=bO (st:=eF) l17 c17 k17;have F18:=bO (st:=iz) l18 c18 k18;have F19:=bO (st:=eE) l19 c19 k19;have F20:=bO (st:=dI) l20 c20 k20;have F21:=bO (st:=wg) l21 c21 k21;have F22:=bO (st:=fj) l22 c22 k22;have F23:=bO (st:=cP) l23 c23 k23;have F24:=bO (st:=dR) l24 c24 k24;have F25:=bO (st:=cG) l25 c25 k25;have F26:=bO (st:=cH) l26 c26 k26;have F27:=bO (st:=dO) l27 c27 k27;have F28:=bO (st:=dM) l28 c28 k28;have F29:=bO (st:=cI) l29 c29 k29;have F30:=bO (st:=dJ) l30 c30 k30;have F31:=bO (st:=dN) l31 c31 k31;have F32:=bO (st:=jJ) l32 c32 k32;have F33:=bO (st:=mQ) l33 c33 k33;have F34:=bO (st:=mW) l34 c34 k34;have F35:=bO (st:=iV) l35 c35 k35;have F36:=bO (st:=mR) l36 c36 k36;have F37:=bO (st:=jM) l37 c37 k37;have F38:=bO (st:=jN) l38 c38 k38;have F39:=bO (st:=jK) l39 c39 k39;have F40:=bO (st:=qC) l40 c40 k40;have F41:=bO (st:=mV) l41 c41 k41;have F42:=bO (st:=mU) l42 c42 k42;have F43:=bO (st:=jO) l43 c43 k43;have L44:=W6 (st:=dH) l44 c44 k44 h44;have F44:=L44.fun;have F45:=bO (st:=jL) l45 c45 k45;have F46:=bO (st:=mO) l46 c46 k46;have F47:=bO (st:=rQ) l47 c47 k47;refine ⟨⟨hkp,_,h44⟩, ?_⟩;refine ⟨PySem.W.fnOf "law" "law" (aN rQ) (aK rQ) (ao rQ) .none acD adk acf ad9 aaK ado,fun s v=> .of_eq rfl,fun base _ _ BM=> ?_⟩;have A0:FnAt l.prog w K mg base 1 "is_whole" ["value"] (Vw K):=⟨f0,_,Il F0 Bt,PySem.W.mg_of X G a0,k0,F0.binds (ps:=["value"]) JC⟩;have A1:FnAt l.prog w K mg base 2 "is_below" ["value","count"] (tO K):=⟨f1,_,Im F1 A0,PySem.W.mg_of X G a1,k1,F1.binds (ps:=["value","count"]) JD⟩;have A2:sW l.prog w K mg base 1 au "Hand" ["self","rows"] [] (zL au K):=⟨f2,_,[],Sv F2 aP iD,⟨zV,a2,n2,zW⟩,PySem.W.mg_of X G Fb,F2.binds (ps:=["self","rows"]) Hi,.nil⟩;have A3:FnAt l.prog w K mg base 1 "cell_of" ["row"] (vU K):=⟨f3,_,Ov F3,PySem.W.mg_of X G a3,k3,F3.binds (ps:=["row"]) Lh⟩;have anN:MethAt l.prog w K mg base 1 au "value_of" ["self","part"] (vN au 0 K):=⟨f4,_,Wf F4,⟨a4,n4,k4⟩,F4.binds (ps:=["self","part"]) lu⟩;have anM:MethAt l.prog w K mg base 2 au "value_of" ["self","part"] (vN au 1 K):=⟨f4,_,Ms (n:=0) F4 anN aP iD jV,⟨a4,n4,k4⟩,F4.binds (ps:=["self","part"]) lu⟩;have A4:MethAt l.prog w K mg base 3 au "value_of" ["self","part"] (vN au 2 K):=⟨f4,_,Ms (n:=1) F4 anM aP iD jV,⟨a4,n4,k4⟩,F4.binds (ps:=["self","part"]) lu⟩;have A5:MethAt l.prog w K mg base 4 au "holds" ["self","row"] (Fz au K):=⟨f5,_,Ss F5 A4 aP,⟨a5,n5,k5⟩,F5.binds (ps:=["self","row"]) Dw⟩;have A6:MethAt l.prog w K mg base 1 au "take" ["self","box","number"] (Fp au K):=⟨f6,_,Wj F6 aP iD,⟨a6,n6,k6⟩,F6.binds (ps:=["self","box","number"]) Hh⟩;have A7:MethAt l.prog w K mg base 5 au "do" ["self","row"] (Zg au K):=⟨f7,_,acn F7 A4 A6 A5 aP,⟨a7,n7,k7⟩,F7.binds (ps:=["self","row"]) Lj⟩;have A8:MethAt l.prog w K mg base 6 au "lead_on" ["self"] (Fx au K):=⟨f8,_,Wo F8 A3 A7 aP gR Bt,⟨a8,n8,k8⟩,F8.binds (ps:=["self"]) zF⟩;have A9:xr l.prog w K mg base 3 "check_numbers" ["cells","count"] (u9 aO K):=⟨f9,_,Io F9 A1 jV Bt iu,PySem.W.mg_of X G a9,k9,F9.binds (ps:=["cells","count"]) yK⟩;have A10:MethAt l.prog w K mg base 4 aq "touch_by" ["self","one"] (xY aq au K):=⟨f10,_,Kv F10 A3 A4 A6 aU aP,⟨a10,n10,k10⟩,F10.binds (ps:=["self","one"]) wU⟩;have A11:jU l.prog w K mg base 3 aq "hand_of" ["self","hand"] (vQ aq au aH K):=⟨f11,_,Oq F11 A1 aU Bt bT,⟨a11,n11,k11⟩,F11.binds (ps:=["self","hand"]) yL⟩;have A12:jU l.prog w K mg base 7 aq "turn" ["self","hand"] (J5 aq au aH bh K):=⟨f12,_,Wh F12 A11 A10 A8 aU aP lC,⟨a12,n12,k12⟩,F12.binds (ps:=["self","hand"]) Dv⟩;have G13:=R7 F13 aU aP A9 A2 A8 Bt;have A13:oJ l.prog w K mg base 7 aq "Works" ["self","program","cells"] [] (tK aq au aO K):=⟨Yr,_,_,G13,⟨pF,a13,n13,pG⟩,PySem.W.mg_of X G rG,CK d13,.nil⟩;have aen:oJ l.prog w K mg base 7 aq "Works" ["self","program","cells"] [.non] (tK aq au aO K):=⟨Yr,_,_,G13,⟨pF,a13,n13,pG⟩,PySem.W.mg_of X G rG,CJ d13,.cons rfl .nil⟩;have apz:Xw l.prog w K mg base 7 aq "Works" ["self","program","cells"] "cells" (tK aq au aO K):=⟨Yr,_,G13,⟨pF,a13,n13,pG⟩,PySem.W.mg_of X G rG,CG d13⟩;have A14:jU l.prog w K mg base 4 aq "how" ["self","hand"] (Rf aq au aH K):=⟨f14,_,ZV F14 A11 aU aP,⟨a14,n14,k14⟩,F14.binds (ps:=["self","hand"]) G_⟩;have A15:MethAt l.prog w K mg base 1 aq "counts" ["self"] (vR aq au K):=⟨f15,_,Ou F15 aU Bt,⟨a15,n15,k15⟩,F15.binds (ps:=["self"]) zE⟩;have A16:MethAt l.prog w K mg base 3 au "another" ["self"] (yp au K):=⟨f16,_,KN F16 aP A2 Bt,⟨a16,n16,k16⟩,F16.binds (ps:=["self"]) zG⟩;have A17:MethAt l.prog w K mg base 9 aq "twin" ["self"] (J3 aq au K):=⟨f17,_,Wg F17 aU aP A13.calm A16 Bt,⟨a17,n17,k17⟩,F17.binds (ps:=["self"]) Du⟩;have A18:FnAt l.prog w K mg base 2 "is_note" ["value"] (Aw K):=⟨f18,_,KD F18 A0 Bt,PySem.W.mg_of X G a18,k18,F18.binds (ps:=["value"]) Lg⟩;have A19:FnAt l.prog w K mg base 3 "is_between" ["counts","note"] (u_ K):=⟨f19,_,Bw F19 A1 A18 Bt,PySem.W.mg_of X G a19,k19,F19.binds (ps:=["counts","note"]) Dt⟩;have A20:xr l.prog w K mg base 4 "check_notes" ["record"] (yj aM K):=⟨f20,_,zA F20 A19 Bt cZ,PySem.W.mg_of X G a20,k20,F20.binds (ps:=["record"]) Cr⟩;have A21:FnAt l.prog w K mg base 1 "has" ["done","touch"] (Rg K):=⟨f21,_,ZW F21,PySem.W.mg_of X G a21,k21,F21.binds (ps:=["done","touch"]) aaP⟩;have A22:FnAt l.prog w K mg base 1 "firsts_of" ["record"] (Ax K):=⟨f22,_,Ot F22,PySem.W.mg_of X G a22,k22,F22.binds (ps:=["record"]) G9⟩;have A23:MethAt l.prog w K mg base 1 aC "counts" ["self"] (yc aC aq au K):=⟨f23,_,Ky F23 aQ Bt,⟨a23,n23,k23⟩,F23.binds (ps:=["self"]) yM⟩;have A24:MethAt l.prog w K mg base 1 aC "done" ["self"] (Fw aC aq au K):=⟨f24,_,Sq F24 aQ Bt,⟨a24,n24,k24⟩,F24.binds (ps:=["self"]) Cz⟩;have A25:MethAt l.prog w K mg base 5 aC "is_over" ["self","hand"] (vP aC aq au K):=⟨f25,_,Oo F25 aQ aU A14.calm Bt,⟨a25,n25,k25⟩,F25.binds (ps:=["self","hand"]) wV⟩;have A26:MethAt l.prog w K mg base 2 aC "holding" ["self","hand"] (FJ aC aq au K):=⟨f26,_,KJ F26 aQ A21 Bt,⟨a26,n26,k26⟩,F26.binds (ps:=["self","hand"]) wW⟩;have A27:MethAt l.prog w K mg base 6 aC "free" ["self"] (Fv aC aq au K):=⟨f27,_,Sg F27 aQ A25 A26 Bt,⟨a27,n27,k27⟩,F27.binds (ps:=["self"]) Cy⟩;have A28:MethAt l.prog w K mg base 1 aC "left" ["self"] (J_ aC aq au K):=⟨f28,_,Wn F28 aQ Bt,⟨a28,n28,k28⟩,F28.binds (ps:=["self"]) Cv⟩;have A29:MethAt l.prog w K mg base 2 aC "__len__" ["self"] (J8 aC aq au K):=⟨f29,_,Wk F29 aQ A28 Bt,⟨a29,n29,k29⟩,F29.binds (ps:=["self"]) wX⟩;have A30:jU l.prog w K mg base 8 aC "turn" ["self","hand"] (Ft aC aq au aH bh K):=⟨f30,_,R_ F30 cZ bT lC iu dj vD qP gH iY oG gJ iZ oH cA i_ iw uo uq qW pP zx xq oE oF qX lJ qY pQ aQ aU A1 A25 A26 A12 Bt,⟨a30,n30,k30⟩,F30.binds (ps:=["self","hand"]) Cu⟩;have A31:oJ l.prog w K mg base 10 aC "Replay" ["self","works","record"] [] (vO aC aq au aH aM K):=⟨f31,_,[],Sd F31 bT aQ aU A20 A15 A22 A17 Bt,⟨uE,a31,n31,uF⟩,PySem.W.mg_of X G xP,F31.binds (ps:=["self","works","record"]) Cw,.nil⟩;have A32:xr l.prog w K mg base 12 "played" ["works","record","choose"] (Ar l.prog w mg base 2 aq au aH aM K):=⟨f32,_,Ol F32 bT aQ A31 A27 A30 Bt,PySem.W.mg_of X G a32,k32,F32.binds (ps:=["works","record","choose"]) Qf⟩;have A33:FnAt l.prog w K mg base 1 "_law_reel" ["script"] (Fq K):=⟨f33,_,Sh F33 Bt,PySem.W.mg_of X G a33,k33,F33.binds (ps:=["script"]) Ut⟩;have A34:FnAt l.prog w K mg base 1 "_law_draw" ["reel","many"] (tM K):=⟨f34,_,Sx F34 Bt,PySem.W.mg_of X G a34,k34,F34.binds (ps:=["reel","many"]) Ux⟩;have aeb:FnAt l.prog w K mg base 1 "_law_alike" ["found","due"] (qy 0 K):=⟨f35,_,Ow F35,PySem.W.mg_of X G a35,k35,F35.binds (ps:=["found","due"]) yN⟩;have aea:FnAt l.prog w K mg base 2 "_law_alike" ["found","due"] (qy 1 K):=⟨f35,_,D_ (n:=0) F35 aeb Bt,PySem.W.mg_of X G a35,k35,F35.binds (ps:=["found","due"]) yN⟩;have A35:FnAt l.prog w K mg base 3 "_law_alike" ["found","due"] (qy 2 K):=⟨f35,_,D_ (n:=1) F35 aea Bt,PySem.W.mg_of X G a35,k35,F35.binds (ps:=["found","due"]) yN⟩;have A36:FnAt l.prog w K mg base 2 "_law_note" ["reel","counts"] (Av K):=⟨f36,_,Om F36 A34 Bt,PySem.W.mg_of X G a36,k36,F36.binds (ps:=["reel","counts"]) Uu⟩;have A37:FnAt l.prog w K mg base 2 "_law_other" ["reel","note","counts","place"] (yd K):=⟨f37,_,Kz F37 A34 Bt,PySem.W.mg_of X G a37,k37,F37.binds (ps:=["reel","note","counts","place"]) Qi⟩;have A38:FnAt l.prog w K mg base 3 "_law_notes" ["reel","counts"] (yg K):=⟨f38,_,KC F38 A34 A36 A37 Bt,PySem.W.mg_of X G a38,k38,F38.binds (ps:=["reel","counts"]) Qj⟩;have A39:FnAt l.prog w K mg base 1 "_law_there" ["counts","hand","k"] (Fo K):=⟨f39,_,R8 F39 Bt,PySem.W.mg_of X G a39,k39,F39.binds (ps:=["counts","hand","k"]) Qg⟩;have A40:FnAt l.prog w K mg base 2 "_law_due" ["counts","some","hands"] (FN K):=⟨f40,_,Sw F40 A39 Bt,PySem.W.mg_of X G a40,k40,F40.binds (ps:=["counts","some","hands"]) Xl⟩;have A41:FnAt l.prog w K mg base 1 "_law_kind" ["caught"] (Fy aM aH K):=⟨f41,_,Wq F41 cZ bT lC vD qP gH iY gJ iZ i_ iw Bt,PySem.W.mg_of X G a41,k41,F41.binds (ps:=["caught"]) Uw⟩;have A42:FnAt l.prog w K mg base 12 "_law_made" ["works","record"] (J9 aq au K):=⟨f42,_,Wm F42 cZ bT dj cA aQ A31 A41 Bt,PySem.W.mg_of X G a42,k42,F42.binds (ps:=["works","record"]) Uv⟩;have A43:FnAt l.prog w K mg base 1 "_law_asked" ["seen","free"] (zM K):=⟨f43,_,Sy F43 Bt,PySem.W.mg_of X G a43,k43,F43.binds (ps:=["seen","free"]) Qk⟩;have A44:FnAt l.prog w K mg base 13 "_law_played" ["works","record"] (yh p aq au K):=⟨f44,_,KQ L44 cZ bT dj cA A43 A32 A41 BM Bt,PySem.W.mg_of X G a44,k44,F44.binds (ps:=["works","record"]) Li⟩;have A45:FnAt l.prog w K mg base 14 "_law_right" ["works","counts","some","hands"] (xZ p aq au K):=⟨f45,_,Kw F45 aQ aU A40 A42 A44 A31.calm A23 A24 A29 A15 A35 Bt,PySem.W.mg_of X G a45,k45,F45.binds (ps:=["works","counts","some","hands"]) Qh⟩;have A46:FnAt l.prog w K mg base 1 "_law_rows" ["many","last"] (Aq K):=⟨f46,_,Oj F46 Bt,PySem.W.mg_of X G a46,k46,F46.binds (ps:=["many","last"]) Us⟩;exact ZS F47 A33 A34 A46 aen.calm A38 A45 Bt
theorem walk {l:PySem.W.OpenLaw} {p:Addr} {q:Program} {loose:List Str} {XP:(Str->Option Value)->Heap->Prop} {YP:World->Heap->Prop} {d:DefRec} {K:Params->PySem.W.Frag} (hn:l.most=some 63) (hdf:d.params.defaults=[])
 (hY:∀(w:World) (h:Heap),YP w h->(K w.params).In h) (hT:∀(w:World) (h:Heap),YP w h->h.get? p=some (PySem.W.tabObj #[]))
 (F:∀(w:World) (mg:Str->Option Value) (fa:Addr) (h:Heap),(K w.params).In h->h.Ns mainGlobals mg->mg d.name=some (.ref fa) ->
   ((K w.params).lookup p=none /\ ∃c,PySem.W.codeHdIn (K w.params) c p=true) /\ ∃fd:FuncData,(∀(s:Shared) (u:Value),BindsTo s fd ⟨[u],[]⟩ [("script",u)]) /\ ∀base:Heap,(K w.params).In base->base.Ns mainGlobals mg->Bm mg base->bV l.prog w (K w.params) mg base j4 15 fa fd ["script"] (Mf p (K w.params))):
 PySem.W.WalkO q loose XP YP l.row.toRowW d [] (fun f vs=>PySem.call f vs):=
 L2.QL (n:=63) (k:=15) (x:= "script") (CX:=fun _=>j4) (sp:=fun w=>Mf p (K w.params)) hn (by decide) hdf ⟨rfl,by decide,by decide⟩ hY hT F (fun _ _ a ns hl _ hS hH=>⟨a,ns,rfl,hS,hl,hH,fun _=>rfl⟩) fun _ _ _ _ _ z=>z
end Prf
namespace PySem.W.Fast
def tw12738480683618521582:=()
def tw17796846401011666834:=()
def tw4633419102374687812:=()
def tw2870829318083395034:=()
def tw18205631780334444430:=()
def tw863893856666351767:=()
def tw3737041566818826281:=()
def tw10968915197096930696:=()
def tw12525410805279937390:=()
def tw5889842515603888410:=()
def tw8707791883652316754:=()
def tw5496919371758902667:=()
def tw6970154024747533182:=()
def tw5538445913000437006:=()
def tw18208217115624930661:=()
def tw16397605081358157958:=()
def tw3605450159181910895:=()
def tw9288197811363636089:=()
def tw10487598544531438243:=()
def tw192996043173224563:=()
def tw2940379599618489605:=()
def tw4864940717505415258:=()
def tw3810621022760456805:=()
def tw6392990674977383050:=()
def tw3904697543732277242:=()
def tw13190906706339544717:=()
def tw10748310632199242299:=()
def tw9994083468285534302:=()
def tw11352460702634957316:=()
def tw5034232965159026698:=()
def tw12946576047204469481:=()
def tw6133336342691696993:=()
def tw17241276740864700821:=()
def tw8066798425172686573:=()
def tw9448869064849458540:=()
def tw3926365554046937133:=()
def tw3272053600122398275:=()
def tw1633092096850205635:=()
def tw12469281798840901994:=()
def tw3894045957297798161:=()
def tw10942751952128802442:=()
def tw12615997252787714917:=()
def tw12925251716561456980:=()
def tw17786882809361033261:=()
def tw12163984544771156032:=()
def tw3933855081200724686:=()
def tw14406642183307033687:=()
def tw3363714943436772694:=()
def tw16889861170427152090:=()
def tw5732475884954617562:=()
def tw14785579466256084016:=()
def tw2518280748957174763:=()
def tw10467868709875900915:=()
def tw709662427584607436:=()
def tw2246611307572126645:=()
def tw7862929479522917127:=()
def tw14152883689622175791:=()
def tw13357866037617176355:=()
def tw17358132101912740625:=()
def tw4963305949478773483:=()
def tw5619360217663219601:=()
def tw13914828984277322567:=()
def tw16996620701934107692:=()
def tw2808579408333445096:=()
def tw6822325194784113699:=()
def tw18081667184032687991:=()
def tw14841593483413559591:=()
def tw15547688801733481674:=()
def tw14499093270545845983:=()
def tw13095570262055971605:=()
def tw6943357392222118068:=()
def tw14462698474430824672:=()
def tw2593280154693818241:=()
def tw14261956370951894601:=()
def tw12508886768469912435:=()
def tw12583028981898143852:=()
def tw8375843394932363842:=()
def tw12513591477892884160:=()
def tw17076657830661608582:=()
def tw13210219670092708866:=()
def tw5863795883217999095:=()
def tw18158068787547917892:=()
def tw146769449142931118:=()
def tw5420673868952165417:=()
def tw3841021662772411911:=()
def tw13531163367403296246:=()
def tw4057693917754857805:=()
def tw8986994559965814826:=()
def tw14878489321783477192:=()
def tw14626062199296323578:=()
def tw18251826677520339543:=()
def tw1241644492883532989:=()
def tw9612019811081971252:=()
def tw10664340406551430822:=()
def tw11576395303175565278:=()
def tw2190156230018502765:=()
def tw4125195226274784358:=()
def tw3554765841291536314:=()
def tw666582447402841874:=()
def tw10671796414092433708:=()
def tw4746861780941150892:=()
def tw3361011075374382297:=()
def tw7730916203195264243:=()
def tw6541702454034678369:=()
def tw6016148934839640781:=()
def tw12951466712315091233:=()
def tw1633993108364541034:=()
def tw2981537669046977317:=()
def tw4658259824165082515:=()
def tw5509105294814980757:=()
def tw2175416436220915856:=()
def tw10695228899206095001:=()
def tw15790427850998612076:=()
def tw13511869923399347754:=()
def tw1536486346882302231:=()
def tw3075709626264261691:=()
def tw12944822862175976358:=()
def tw15144940214365136267:=()
def tw18080236865314628643:=()
def tw201402152233271167:=()
def tw1028379579473872467:=()
def tw16430048282661252911:=()
def tw15966269266530563431:=()
def tw11494459851904095547:=()
def tw14122637594370041049:=()
def tw3083972940248924731:=()
def tw9363771455495216031:=()
def tw350906632654188475:=()
def tw14009715444443604792:=()
def tw1197176518808672120:=()
def tw10371897975205020132:=()
def tw8886354362911071694:=()
def tw16236044420898154833:=()
def tw7576384855779271060:=()
def tw2483767439902196310:=()
def tw269597281325470587:=()
def tw1610485873896771505:=()
def tw12598182159792189551:=()
def tw13849135291344296013:=()
def tw16035311394921161923:=()
def tw14721171023572324794:=()
def tw11822597435202029489:=()
def tw8919334361246919015:=()
def tw8714181756397759995:=()
def tw16794112671098250058:=()
def tw14300440605481262944:=()
def tw16167301069268819019:=()
def tw1978716468045546261:=()
def tw18431633165255539056:=()
def tw10284902125836760143:=()
def tw10035483846451411342:=()
def tw2024368778657651539:=()
def tw7629029842312237569:=()
def tw4431557720542084782:=()
def tw17230315175847850519:=()
def tw17476236984214277234:=()
def tw18274125320145415513:=()
def tw15807044414298287671:=()
def tw2261323431086810343:=()
def tw2419226970902216831:=()
def tw13950499043876825586:=()
def tw1906245677141868922:=()
def tw7985690014220776272:=()
def tw6986551334668298605:=()
def tw6046820954272867993:=()
def tw724837299948751437:=()
def tw4557991160242428716:=()
def tw16379970289030477532:=()
def tw5643684499187553009:=()
def tw16993686126088631137:=()
def tw4575123978908501895:=()
def tw17879853292298078444:=()
def tw16352521188085104761:=()
def tw4940528814657677778:=()
def tw15230973360904328363:=()
def tw9565170136239602037:=()
def tw2816458310109746711:=()
def tw1094269014931705420:=()
def tw3639010521386322224:=()
def tw10304661220299775607:=()
def tw7118425466985579887:=()
def tw3870019385747739630:=()
def tw4122045766086723387:=()
def tw727151059179322392:=()
def tw18400338246142972205:=()
def tw8531009366281070140:=()
def tw221178460551727448:=()
def tw15489634124927211874:=()
def tw13685620737737717397:=()
def tw3646289790544560752:=()
def tw13613163733257329824:=()
def tw15981177070035941881:=()
def tw10464684454149062:=()
def tw444296661311961249:=()
def tw15895522175166258218:=()
def tw17771106561015180693:=()
def tw17109809727823304163:=()
def tw8253636112622687672:=()
def tw16511644901943425116:=()
def tw1276842817604635847:=()
def tw9486764367988625106:=()
def tw7511652909797938530:=()
def tw5990559255346399967:=()
def tw18325435481224735467:=()
def tw1845378202173796102:=()
def tw6832899664798671211:=()
def tw12596066903768988903:=()
def tw7368088110892203764:=()
def tw9645808230519701069:=()
def tw10923287575915243505:=()
def tw5945092959293730148:=()
def tw6139667389457898061:=()
def tw15414765527918842057:=()
def tw18132057561765648772:=()
def tw4258670681529427754:=()
def tw1251937984098353732:=()
def tw16177771727054004033:=()
def tw17830391829118905958:=()
def tw5870364568641298157:=()
def tw3921756261809428321:=()
def tw2616924887511566663:=()
def tw13621593607275193879:=()
def tw8466449789419367448:=()
def tw17165706173567918463:=()
def tw5887436924191722300:=()
def tw7681266414726894869:=()
def tw2521459542611666139:=()
def tw7391038485805447672:=()
def tw3317564929609641323:=()
def tw4706723080832879583:=()
def tw4386055342392603052:=()
def tw14622262695720589115:=()
def tw10766173644599593485:=()
def tw2263764801889789988:=()
def tw9287211924054192694:=()
def tw689485990464543130:=()
def tw16870353472912010582:=()
def tw3705382107085016487:=()
def tw1453188042504756527:=()
def tw14473011420787944137:=()
def tw15930191747242824816:=()
def tw3964133194131731453:=()
def tw11563628399441840009:=()
def tw9588471751744447230:=()
def tw8367824673166509756:=()
def tw5261546036328882220:=()
def tw525792779473396740:=()
def tw2795009307418299786:=()
def tw55970373622801103:=()
def tw6178308408527502097:=()
def tw14664239003665891967:=()
def tw13741992929160299648:=()
def tw2509463898717404112:=()
def tw653358266394332791:=()
def tw5577939970404041282:=()
def tw5715591745076756170:=()
def tw1673563387220589718:=()
def tw6345607506015151666:=()
def tw9044361239439305817:=()
def tw973041002797545681:=()
def tw10020620241915726852:=()
def tw1416185563088027468:=()
def tw10564252136905818128:=()
def tw2858344573392321072:=()
def tw13478389514040226715:=()
def tw10676901811894248995:=()
def tw2206468325270927287:=()
def tw4306943334415499731:=()
def tw3883221155120028279:=()
def tw2223214271051713725:=()
def tw27566324020257396:=()
def tw13215402833470985129:=()
def tw2635185284066117002:=()
def tw466446141296394781:=()
def tw14212951549561338151:=()
def tw532654705541763928:=()
def tw11048169835654680295:=()
def tw17926481177509858142:=()
def tw10440702494916368378:=()
def tw15575249932939650809:=()
def tw16111788832129042865:=()
def tw14007425501251582018:=()
def tw16213053942486108941:=()
def tw6660952005960500132:=()
def tw10113744843867468133:=()
def tw17850691700065955671:=()
def tw12989232586865973945:=()
def tw5596570930101674487:=()
def tw1268046782179915263:=()
def tw12671823889542194725:=()
def tw15852336642524700316:=()
def tw5297714956218706754:=()
def tw2700401803483718655:=()
def tw6998260383854056638:=()
def tw8373840643322526629:=()
def tw3810668501500421555:=()
def tw18426551804740497528:=()
def tw118100070454895223:=()
def tw12744627945868544963:=()
def tw12682042276861857626:=()
def tw6815684954459131135:=()
def tw15817801254647964690:=()
def tw10240078633217990523:=()
def tw5607258621647903121:=()
def tw4671348470536594093:=()
def tw17647783167007418118:=()
def tw17412922290516963196:=()
def tw9816359209003375227:=()
def tw4695847912073691011:=()
def tw14283391670010137000:=()
def tw4035799993417484161:=()
def tw5906828611672083933:=()
def tw17548973643789252489:=()
def tw14640891882661276525:=()
def tw9444117784600538329:=()
def tw10031386926454821719:=()
def tw8549778249826946753:=()
def tw13948383244923006192:=()
def tw5303044894135870934:=()
def tw1110278508899884547:=()
def tw10177755459405701397:=()
def tw5603841168627011343:=()
def tw15764040557962798188:=()
def tw13698316926651237830:=()
def tw5043443247941007875:=()
def tw5513518048497246068:=()
def tw7749810158935666219:=()
def tw10883505032590967120:=()
def tw7848453771260931179:=()
def tw7948219915443648439:=()
def tw8354517050239851259:=()
def tw5747057170701118003:=()
def tw2598857120207939800:=()
def tw7017783935180316033:=()
def tw491148193507460741:=()
def tw3013335139184780298:=()
def tw13288645270516121756:=()
def tw17734760008339209198:=()
def tw17611055518007927671:=()
def tw1210606285004931378:=()
def tw7429860938879814667:=()
def tw160730999325264174:=()
def tw787322405831517608:=()
def tw6124651518093558299:=()
def tw3995620184773205617:=()
def tw6623251498551930960:=()
def tw4903682914335055719:=()
def tw18394727683014319223:=()
def tw3508773114736711116:=()
def tw1794855743328045363:=()
def tw4876262703520459054:=()
def tw2355995157523653264:=()
def tw3426403246181674194:=()
def tw10114251565980008620:=()
def tw3631957305296597248:=()
def tw3408389111492734712:=()
def tw14815595321431149061:=()
def tw4048706575346610354:=()
def tw9342779321063015561:=()
def tw3046032648387812358:=()
def tw16504396808191154089:=()
def tw2708963595135462132:=()
def tw8516073932358549484:=()
def tw16808868521440078883:=()
def tw11006853851392816291:=()
def tw14495796617304718212:=()
def tw1560450774738217218:=()
def tw14337928142398052519:=()
def tw6664091711336063872:=()
def tw3419996110798567585:=()
def tw7593813166645754286:=()
def tw14555384977761647119:=()
def tw16290520592608008733:=()
def tw1994100110296207104:=()
def tw16134193662896874947:=()
def tw2062233244695091142:=()
def tw11996117311442077265:=()
def tw15520609185843065141:=()
def tw3159340589157154194:=()
def tw14412587264081094951:=()
def tw14137922685838644690:=()
def tw17188281678741139055:=()
def tw3807768026624198305:=()
def tw16026690571842938026:=()
def tw11089728080453211344:=()
def tw5342720085018150105:=()
def tw9896041362752659349:=()
def tw15199383450023736113:=()
def tw9601539316647556379:=()
def tw12219348019344505414:=()
def tw12035952081942715335:=()
def tw10833591700790916518:=()
def tw18034630007173436971:=()
def tw15915222653312728498:=()
def tw2263071384532436037:=()
def tw2054881649030264246:=()
def tw4817322663352112220:=()
def tw5464059628617501572:=()
def tw13678423518993551632:=()
def tw13586628562121611983:=()
def tw9664100698153371900:=()
def tw1760356612720897628:=()
def tw5615865238948673381:=()
def tw13396665726000381168:=()
def tw9175985561859296876:=()
def tw2955553353327721962:=()
def tw3440519830019673959:=()
def tw16696130997298620211:=()
def tw4724075621242463213:=()
def tw9987681142393546415:=()
def tw3783161440523220190:=()
def tw7516616503112005474:=()
def tw2879514148954479018:=()
def tw202548408799471986:=()
def tw2841618586082520231:=()
def tw6297164931605620276:=()
def tw17944420473838544897:=()
def tw15351106665189112122:=()
def tw11741856832293652828:=()
def tw3676255323141585863:=()
def tw13139704066947064715:=()
def tw6816060119506981088:=()
def tw4132331823429461930:=()
def tw7654318855595511084:=()
def tw7075355524469209572:=()
def tw6626537503531330285:=()
def tw6465121302208189106:=()
def tw16635189309426618216:=()
def tw7882741602429328125:=()
def tw6752432713940442769:=()
def tw4939580607880658327:=()
def tw17377071629139136342:=()
def tw6440371724246782668:=()
def tw518504602248865591:=()
def tw7214221376221326901:=()
def tw11308267303031294820:=()
def tw12489494117448934385:=()
def tw10818378448228773284:=()
def tw2309609798529851803:=()
def tw2901763916047760656:=()
def tw11282479616679906211:=()
def tw15395296423335541434:=()
def tw14207586522667341349:=()
def tw1960426578465442758:=()
def tw3697125508544298568:=()
def tw11841276245885410158:=()
def tw17505231003855076818:=()
def tw3595062477812922324:=()
def tw2679716798521736170:=()
def tw8137280108294632831:=()
def tw10368593674449308510:=()
def tw2517930964193096662:=()
def tw675245759052734279:=()
def tw11325155592121807534:=()
def tw7782304432911979426:=()
def tw9494429718178792562:=()
def tw1716802018549899878:=()
def tw1674928308213458741:=()
def tw14039384401782713946:=()
def tw8534507539753356398:=()
def tw2115404837357103312:=()
def tw6907791139679765228:=()
def tw4647948670331897690:=()
def tw8777349939502826495:=()
def tw9868271876185604389:=()
def tw16609822461550379437:=()
def tw17633906769784670217:=()
def tw669150089317410620:=()
def tw1651751694906919189:=()
def tw14429317366288674339:=()
def tw17991759484063391001:=()
def tw4854072115787477156:=()
def tw17531131142523478532:=()
def tw3006471193838864513:=()
def tw9417696827369482379:=()
def tw18020400420171533692:=()
def tw11627752725619804186:=()
def tw15553415815607836264:=()
def tw16741877423994275128:=()
def tw3200159324909711212:=()
def tw484476755654129360:=()
def tw15679122717890201804:=()
def tw9888549075368755846:=()
def tw17758671754014663477:=()
def tw17748424349092599425:=()
def tw11046705091240314024:=()
def tw8670525657238252582:=()
def tw13488950055198907757:=()
def tw7642075393031967752:=()
def tw15748175762980753689:=()
def tw10401990444215337394:=()
def tw8892953920554645747:=()
def tw8190460380159397088:=()
def tw2519645908706548411:=()
def tw227337978634053019:=()
def tw4311131172438664134:=()
def tw4016734452111008321:=()
def tw15721343221105069513:=()
def tw11286567639076580911:=()
def tw4861529928719627760:=()
def tw13299739328868960586:=()
def tw12439460234106171928:=()
def tw14339009072883590751:=()
def tw4872587566987342133:=()
def tw11448558643818335923:=()
def tw13093407066891435171:=()
def tw4903534797500273190:=()
def tw7152040665562818401:=()
def tw9470176323397078577:=()
def tw17594955712997195354:=()
def tw11520987272304350674:=()
def tw7551442121624824135:=()
def tw4446643239510115099:=()
def tw14723457817801894969:=()
def tw3734603832790514633:=()
def tw7802551568149594057:=()
def tw3072523674236163858:=()
def tw2883469736319929035:=()
def tw12695144172715651165:=()
def tw10172558259663416418:=()
def tw12619893376255607903:=()
def tw9438413704534804828:=()
def tw1137571407847253822:=()
def tw12902784193348185028:=()
def tw6979427600128563467:=()
def tw10292749703153365517:=()
def tw2494073767504836660:=()
def tw14583806465638390680:=()
def tw7340200824104718009:=()
def tw929493424006259399:=()
def tw12555832519681783517:=()
def tw16424153345674417384:=()
def tw628643820769934213:=()
def tw6232398561854174074:=()
def tw2580705295148834804:=()
def tw6298928346524454417:=()
def tw1180667553145774105:=()
def tw12804217456068188157:=()
def tw791104531200218755:=()
def tw17545027454620747825:=()
def tw7263775370949442071:=()
def tw8512357134050430461:=()
def tw7660058858728037662:=()
def tw8906008829911674915:=()
def tw2667887834878868117:=()
def tw11453173142205776600:=()
def tw13185239002326325569:=()
def tw10451118518173799778:=()
def tw5305626409885080627:=()
def tw2325823660257490078:=()
def tw5804402874496250059:=()
def tw11773342209104465172:=()
def tw13002156517833653266:=()
def tw11218749574474968357:=()
def tw7729365664580681244:=()
def tw9883101632313714866:=()
def tw2244689259750869723:=()
def tw14203100804749410586:=()
def tw16446472075088417117:=()
def tw3658994335624336710:=()
def tw10916351019376084651:=()
end PySem.W.Fast
open PySem PySem.W PyProof.Rows
set_option maxRecDepth 100000 in
set_option maxHeartbeats 0 in
theorem PySem.Challenge.cw_fewnotes_k50_replays_made_holds : PySem.Challenge.rw_fewnotes_k50_replays_made.Holds := by
 w_on;o_law;k_head;(case hw=>w_witness2)
 k_fill
 refine Prf.walk (l:=PySem.Challenge.rw_fewnotes_k50_replays_made) rfl rfl (fun w h Y=>PySem.W.km_in_of Y) (fun w h Y=>PySem.W.km_tabs_of Y _ (List.Mem.head _)) ?F
 case F=>
  intro w mg fa h KX G hmg
  replace hmg:mg (Str.ofString "law")=some (.ref fa):=hmg
  refine' Prf.all_mk KX G hmg ?a0 ?l0 ?c0 ?k0 ?a1 ?l1 ?c1 ?k1 ?a2 ?l2 ?c2 ?k2 ?n2 ?a3 ?l3 ?c3 ?k3 ?a4 ?l4 ?c4 ?k4 ?n4 ?a5 ?l5 ?c5 ?k5 ?n5 ?a6 ?l6 ?c6 ?k6 ?n6 ?a7 ?l7 ?c7 ?k7 ?n7 ?a8 ?l8 ?c8 ?k8 ?n8 ?a9 ?l9 ?c9 ?k9 ?a10 ?l10 ?c10 ?k10 ?n10 ?a11 ?l11 ?c11 ?k11 ?n11 ?a12 ?l12 ?c12 ?k12 ?n12 ?a13 ?l13 ?c13 ?k13 ?n13 ?d13 ?a14 ?l14 ?c14 ?k14 ?n14 ?a15 ?l15 ?c15 ?k15 ?n15 ?a16 ?l16 ?c16 ?k16 ?n16 ?a17 ?l17 ?c17 ?k17 ?n17 ?a18 ?l18 ?c18 ?k18 ?a19 ?l19 ?c19 ?k19 ?a20 ?l20 ?c20 ?k20 ?a21 ?l21 ?c21 ?k21 ?a22 ?l22 ?c22 ?k22 ?a23 ?l23 ?c23 ?k23 ?n23 ?a24 ?l24 ?c24 ?k24 ?n24 ?a25 ?l25 ?c25 ?k25 ?n25 ?a26 ?l26 ?c26 ?k26 ?n26 ?a27 ?l27 ?c27 ?k27 ?n27 ?a28 ?l28 ?c28 ?k28 ?n28 ?a29 ?l29 ?c29 ?k29 ?n29 ?a30 ?l30 ?c30 ?k30 ?n30 ?a31 ?l31 ?c31 ?k31 ?n31 ?a32 ?l32 ?c32 ?k32 ?a33 ?l33 ?c33 ?k33 ?a34 ?l34 ?c34 ?k34 ?a35 ?l35 ?c35 ?k35 ?a36 ?l36 ?c36 ?k36 ?a37 ?l37 ?c37 ?k37 ?a38 ?l38 ?c38 ?k38 ?a39 ?l39 ?c39 ?k39 ?a40 ?l40 ?c40 ?k40 ?a41 ?l41 ?c41 ?k41 ?a42 ?l42 ?c42 ?k42 ?a43 ?l43 ?c43 ?k43 ?a44 ?l44 ?c44 ?k44 ?h44 ?hkp ?a45 ?l45 ?c45 ?k45 ?a46 ?l46 ?c46 ?k46 ?a47 ?l47 ?c47 ?k47 ?Fb ?zU ?zX ?zT ?zR ?zV ?zW ?pW ?uD ?j9 ?lO ?oM ?rG ?xM ?xO ?xK ?xJ ?pF ?pG ?j5 ?j6 ?m9 ?m7 ?xP ?uz ?uG ?uy ?ux ?uE ?uF ?j7 ?j8 ?lN ?jg ?xU ?ql ?uJ ?uY ?xV ?qm ?uK ?uZ ?Fg ?vI ?z9 ?Ah ?rJ ?mK ?p7 ?qt ?qu ?oW ?oN ?oX ?Fi ?Af ?z_ ?Ai ?Aj ?xR ?xQ ?xT ?jE ?jz ?lY ?lQ ?iM ?iH ?jD ?jy ?lZ ?lR ?iQ ?iI ?mj ?lU ?mC ?lW ?jB ?jw ?iR ?iJ ?iT ?iK ?jA ?ju ?gY ?gU ?gZ ?gW ?jm ?jh ?gq ?gn ?mz ?lV ?mD ?lX ?oU ?oO ?jC ?jx ?kj ?j_ ?kJ ?kh ?ni ?m_ ?jo ?jk ?xcg ?xct ?uR ?uP ?uN ?uW ?uL ?uH ?uU ?uT ?uQ ?uO ?uX ?uM ?uI ?uV ?Ad ?Ac ?Ab ?Ag ?Aa ?zZ ?Ae ?qg ?qe ?qd ?qp ?p8 ?pZ ?qj ?GD ?GC ?jR ?pY ?QH ?JW ?rH ?QG ?pX ?QF ?JV ?QD ?QC ?Fe ?zY ?QB ?Qz ?Fd ?Qy
  (case Fb=>k_is)
  (case zU=>k_is)
  (case zX=>k_is)
  (case zT=>k_is)
  (case zR=>k_is)
  (case zV=>k_is)
  (case zW=>k_is)
  (case pW=>k_is)
  (case uD=>k_is)
  (case j9=>k_is)
  (case lO=>k_is)
  (case oM=>k_is)
  (case rG=>k_is)
  (case xM=>k_is)
  (case xO=>k_is)
  (case xK=>k_is)
  (case xJ=>k_is)
  (case pF=>k_is)
  (case pG=>k_is)
  (case j5=>k_is)
  (case j6=>k_is)
  (case m9=>k_is)
  (case m7=>k_is)
  (case xP=>k_is)
  (case uz=>k_is)
  (case uG=>k_is)
  (case uy=>k_is)
  (case ux=>k_is)
  (case uE=>k_is)
  (case uF=>k_is)
  (case j7=>k_is)
  (case j8=>k_is)
  (case lN=>k_is)
  (case jg=>k_is)
  (case xU=>k_is)
  (case ql=>rfl)
  (case uJ=>k_is)
  (case uY=>k_is)
  (case xV=>k_is)
  (case qm=>rfl)
  (case uK=>k_is)
  (case uZ=>k_is)
  (case Fg=>k_is)
  (case vI=>rfl)
  (case z9=>k_is)
  (case Ah=>k_is)
  (case rJ=>k_is)
  (case mK=>rfl)
  (case p7=>k_is)
  (case qt=>k_is)
  (case qu=>k_is)
  (case oW=>rfl)
  (case oN=>k_is)
  (case oX=>k_is)
  (case Fi=>k_is)
  (case Af=>rfl)
  (case z_=>k_is)
  (case Ai=>k_is)
  (case Aj=>k_is)
  (case xR=>rfl)
  (case xQ=>k_is)
  (case xT=>k_is)
  (case jE=>rfl)
  (case jz=>k_is)
  (case lY=>rfl)
  (case lQ=>k_is)
  (case iM=>rfl)
  (case iH=>k_is)
  (case jD=>rfl)
  (case jy=>k_is)
  (case lZ=>rfl)
  (case lR=>k_is)
  (case iQ=>rfl)
  (case iI=>k_is)
  (case mj=>rfl)
  (case lU=>k_is)
  (case mC=>rfl)
  (case lW=>k_is)
  (case jB=>rfl)
  (case jw=>k_is)
  (case iR=>rfl)
  (case iJ=>k_is)
  (case iT=>rfl)
  (case iK=>k_is)
  (case jA=>rfl)
  (case ju=>k_is)
  (case gY=>rfl)
  (case gU=>k_is)
  (case gZ=>rfl)
  (case gW=>k_is)
  (case jm=>rfl)
  (case jh=>k_is)
  (case gq=>rfl)
  (case gn=>k_is)
  (case mz=>rfl)
  (case lV=>k_is)
  (case mD=>rfl)
  (case lX=>k_is)
  (case oU=>rfl)
  (case oO=>k_is)
  (case jC=>rfl)
  (case jx=>k_is)
  (case kj=>rfl)
  (case j_=>k_is)
  (case kJ=>rfl)
  (case kh=>k_is)
  (case ni=>rfl)
  (case m_=>k_is)
  (case jo=>rfl)
  (case jk=>k_is)
  (case xcg=>k_is)
  (case xct=>k_is)
  (case uR=>k_is)
  (case uP=>k_is)
  (case uN=>k_is)
  (case uW=>k_is)
  (case uL=>k_is)
  (case uH=>k_is)
  (case uU=>k_exc)
  (case uT=>k_is)
  (case uQ=>k_is)
  (case uO=>k_is)
  (case uX=>k_is)
  (case uM=>k_is)
  (case uI=>k_is)
  (case uV=>k_exc)
  (case Ad=>k_is)
  (case Ac=>k_is)
  (case Ab=>k_is)
  (case Ag=>k_is)
  (case Aa=>k_is)
  (case zZ=>k_is)
  (case Ae=>k_exc)
  (case qg=>k_is)
  (case qe=>k_is)
  (case qd=>k_is)
  (case qp=>k_is)
  (case p8=>k_is)
  (case pZ=>k_is)
  (case qj=>k_exc)
  (case GD=>k_is)
  (case GC=>k_is)
  (case jR=>k_is)
  (case a0=>k_is)
  (case l0=>k_is)
  (case c0=>k_is)
  (case k0=>k_is)
  (case a1=>k_is)
  (case l1=>k_is)
  (case c1=>k_is)
  (case k1=>k_is)
  (case a2=>k_is)
  (case l2=>k_is)
  (case c2=>k_is)
  (case k2=>k_is)
  (case n2=>k_is)
  (case a3=>k_is)
  (case l3=>k_is)
  (case c3=>k_is)
  (case k3=>k_is)
  (case a4=>k_is)
  (case l4=>k_is)
  (case c4=>k_is)
  (case k4=>k_is)
  (case n4=>k_is)
  (case a5=>k_is)
  (case l5=>k_is)
  (case c5=>k_is)
  (case k5=>k_is)
  (case n5=>k_is)
  (case a6=>k_is)
  (case l6=>k_is)
  (case c6=>k_is)
  (case k6=>k_is)
  (case n6=>k_is)
  (case a7=>k_is)
  (case l7=>k_is)
  (case c7=>k_is)
  (case k7=>k_is)
  (case n7=>k_is)
  (case a8=>k_is)
  (case l8=>k_is)
  (case c8=>k_is)
  (case k8=>k_is)
  (case n8=>k_is)
  (case a9=>k_is)
  (case l9=>k_is)
  (case c9=>k_is)
  (case k9=>k_is)
  (case a10=>k_is)
  (case l10=>k_is)
  (case c10=>k_is)
  (case k10=>k_is)
  (case n10=>k_is)
  (case a11=>k_is)
  (case l11=>k_is)
  (case c11=>k_is)
  (case k11=>k_is)
  (case n11=>k_is)
  (case a12=>k_is)
  (case l12=>k_is)
  (case c12=>k_is)
  (case k12=>k_is)
  (case n12=>k_is)
  (case a13=>k_is)
  (case l13=>k_is)
  (case c13=>k_is)
  (case k13=>k_is)
  (case n13=>k_is)
  (case d13=>k_is)
  (case a14=>k_is)
  (case l14=>k_is)
  (case c14=>k_is)
  (case k14=>k_is)
  (case n14=>k_is)
  (case a15=>k_is)
  (case l15=>k_is)
  (case c15=>k_is)
  (case k15=>k_is)
  (case n15=>k_is)
  (case a16=>k_is)
  (case l16=>k_is)
  (case c16=>k_is)
  (case k16=>k_is)
  (case n16=>k_is)
  (case a17=>k_is)
  (case l17=>k_is)
  (case c17=>k_is)
  (case k17=>k_is)
  (case n17=>k_is)
  (case a18=>k_is)
  (case l18=>k_is)
  (case c18=>k_is)
  (case k18=>k_is)
  (case a19=>k_is)
  (case l19=>k_is)
  (case c19=>k_is)
  (case k19=>k_is)
  (case a20=>k_is)
  (case l20=>k_is)
  (case c20=>k_is)
  (case k20=>k_is)
  (case a21=>k_is)
  (case l21=>k_is)
  (case c21=>k_is)
  (case k21=>k_is)
  (case a22=>k_is)
  (case l22=>k_is)
  (case c22=>k_is)
  (case k22=>k_is)
  (case a23=>k_is)
  (case l23=>k_is)
  (case c23=>k_is)
  (case k23=>k_is)
  (case n23=>k_is)
  (case a24=>k_is)
  (case l24=>k_is)
  (case c24=>k_is)
  (case k24=>k_is)
  (case n24=>k_is)
  (case a25=>k_is)
  (case l25=>k_is)
  (case c25=>k_is)
  (case k25=>k_is)
  (case n25=>k_is)
  (case a26=>k_is)
  (case l26=>k_is)
  (case c26=>k_is)
  (case k26=>k_is)
  (case n26=>k_is)
  (case a27=>k_is)
  (case l27=>k_is)
  (case c27=>k_is)
  (case k27=>k_is)
  (case n27=>k_is)
  (case a28=>k_is)
  (case l28=>k_is)
  (case c28=>k_is)
  (case k28=>k_is)
  (case n28=>k_is)
  (case a29=>k_is)
  (case l29=>k_is)
  (case c29=>k_is)
  (case k29=>k_is)
  (case n29=>k_is)
  (case a30=>k_is)
  (case l30=>k_is)
  (case c30=>k_is)
  (case k30=>k_is)
  (case n30=>k_is)
  (case a31=>k_is)
  (case l31=>k_is)
  (case c31=>k_is)
  (case k31=>k_is)
  (case n31=>k_is)
  (case a32=>k_is)
  (case l32=>k_is)
  (case c32=>k_is)
  (case k32=>k_is)
  (case a33=>k_is)
  (case l33=>k_is)
  (case c33=>k_is)
  (case k33=>k_is)
  (case a34=>k_is)
  (case l34=>k_is)
  (case c34=>k_is)
  (case k34=>k_is)
  (case a35=>k_is)
  (case l35=>k_is)
  (case c35=>k_is)
  (case k35=>k_is)
  (case a36=>k_is)
  (case l36=>k_is)
  (case c36=>k_is)
  (case k36=>k_is)
  (case a37=>k_is)
  (case l37=>k_is)
  (case c37=>k_is)
  (case k37=>k_is)
  (case a38=>k_is)
  (case l38=>k_is)
  (case c38=>k_is)
  (case k38=>k_is)
  (case a39=>k_is)
  (case l39=>k_is)
  (case c39=>k_is)
  (case k39=>k_is)
  (case a40=>k_is)
  (case l40=>k_is)
  (case c40=>k_is)
  (case k40=>k_is)
  (case a41=>k_is)
  (case l41=>k_is)
  (case c41=>k_is)
  (case k41=>k_is)
  (case a42=>k_is)
  (case l42=>k_is)
  (case c42=>k_is)
  (case k42=>k_is)
  (case a43=>k_is)
  (case l43=>k_is)
  (case c43=>k_is)
  (case k43=>k_is)
  (case a44=>k_is)
  (case l44=>k_is)
  (case c44=>k_is)
  (case k44=>k_is)
  (case h44=>kernel_rfl)
  (case hkp=>kernel_rfl)
  (case a45=>k_is)
  (case l45=>k_is)
  (case c45=>k_is)
  (case k45=>k_is)
  (case a46=>k_is)
  (case l46=>k_is)
  (case c46=>k_is)
  (case k46=>k_is)
  (case a47=>k_is)
  (case l47=>k_is)
  (case c47=>k_is)
  (case k47=>k_is)
  (case pY=>k_is)
  (case QH=>k_is)
  (case JW=>k_is)
  (case rH=>k_is)
  (case QG=>k_is)
  (case pX=>k_is)
  (case QF=>k_is)
  (case JV=>k_is)
  (case QD=>k_is)
  (case QC=>k_is)
  (case Fe=>k_is)
  (case zY=>k_is)
  (case QB=>k_is)
  (case Qz=>k_is)
  (case Fd=>k_is)
  (case Qy=>k_is)
#print axioms PySem.Challenge.cw_fewnotes_k50_replays_made_holds
