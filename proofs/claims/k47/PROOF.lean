import PyProof.Rows.All
import Wide.All
import OpenK.AllK
import Wide.FinOn
import Lean
import PyProof.EqAt
import PyProof.EqKinds
import PyProof.TupleCall
import PyProof.EqLayable
import PyProof.ExcArgsOwn
import PyProof.ExcAttrAll.Exception
import PyProof.RulesAs
import PyProof.ExcBaseAll.ValueError
import PyProof.NsDelKeeps
import KE.KRevSl
import OpenK.KOps
import OpenK.KWalk
import KE.KCallOwn
import PyProof.InstNe
import PyProof.FactsAll.object_2
import KE.KSortedM
import PySem.Challenge.RW_fewnotes_k47_recorders_and_twins
set_option Elab.async false
set_option linter.all false
set_option maxRecDepth 100000
namespace L2
open PySem PySem.Spec PyProof.Rows
abbrev Key:=Sum Int Str
def yG:Key->Value->Bool
 | .inl k,v=>Value.isInt k v
 | .inr x,v=>Value.isStrOf x v
def ahu (w:World):Key->Int
 | .inl k=>hashInt k
 | .inr x=>hashStr w x
theorem dU:∀{k:Key} {v:Value},yG k v=true->(∃i t,k=Sum.inl i/\v=Value.int i t)\/(∃x t,k=Sum.inr x/\v=Value.str x t)
 | .inl i,v,h=>by
   obtain ⟨t,e⟩:=Value.isInt_shape (k:=i) (v:=v) h;exact .inl ⟨i,t,rfl,e⟩
 | .inr x,v,h=>by
   obtain ⟨t,e⟩:=Value.isStrOf_shape (x:=x) (v:=v) h;exact .inr ⟨x,t,rfl,e⟩
theorem L_ (i:Int) (t:Tok):yG (.inl i) (.int i t)=true:=by simp [yG,Value.isInt]
theorem LR (x:Str) (t:Tok):yG (.inr x) (.str x t)=true:=by simp [yG,Value.isStrOf]
theorem Yj (a b:Int):decide ((Sum.inl a:Key)=Sum.inl b)=(a==b):=by
 by_cases e:a=b
 ·subst e;simp
 ·have h:¬(Sum.inl a:Key)=Sum.inl b:=fun q=>e (Sum.inl.inj q)
  rw [decide_eq_false h];exact (beq_eq_false_iff_ne.mpr e).symm
theorem Yg (a b:Str):decide ((Sum.inr a:Key)=Sum.inr b)=decide (a=b):=by
 by_cases e:a=b
 ·subst e;simp
 ·have h:¬(Sum.inr a:Key)=Sum.inr b:=fun q=>e (Sum.inr.inj q)
  rw [decide_eq_false h,decide_eq_false e]
theorem Yi (a:Int) (b:Str):decide ((Sum.inl a:Key)=Sum.inr b)=false:=decide_eq_false (fun q=>nomatch q)
theorem Yh (a:Str) (b:Int):decide ((Sum.inr a:Key)=Sum.inl b)=false:=decide_eq_false (fun q=>nomatch q)
def cY (prog:Program) (w:World):PySem.KeyKind prog w Key where
 is:=yG
 hash:=ahu w
 inj:=fun v a b ha hb=>by
  rcases dU ha with ⟨i,t,rfl,rfl⟩|⟨x,t,rfl,rfl⟩
  ·rcases dU hb with ⟨j,u,rfl,e⟩|⟨y,u,rfl,e⟩
   ·injection e with e1 _;rw [e1]
   ·exact nomatch e
  ·rcases dU hb with ⟨j,u,rfl,e⟩|⟨y,u,rfl,e⟩
   ·exact nomatch e
   ·injection e with e1 _;rw [e1]
 byValue:=fun k v h=>by
  rcases dU h with ⟨i,t,rfl,rfl⟩|⟨x,t,rfl,rfl⟩<;>rfl
 pyHash:=fun hv h=>by
  rcases dU hv with ⟨i,t,rfl,rfl⟩|⟨x,t,rfl,rfl⟩
  ·exact wpAny_pyHash_int h
  ·exact wpAny_pyHash_str h
 eqBool:=fun hu hv h=>by
  rcases dU hu with ⟨i,t,rfl,rfl⟩|⟨x,t,rfl,rfl⟩
  ·rcases dU hv with ⟨j,u,rfl,rfl⟩|⟨y,u,rfl,rfl⟩
   ·rw [Yj] at h;exact wpAny_eqBool_int h
   ·rw [Yi] at h;exact SeqAt.EqAt.int_str i t y u _ _ _ _ h
  ·rcases dU hv with ⟨j,u,rfl,rfl⟩|⟨y,u,rfl,rfl⟩
   ·rw [Yh] at h;exact SeqAt.EqAt.str_int x t j u _ _ _ _ h
   ·rw [Yg] at h;exact wpAny_eqBool_str h
 «strs» :=fun k x t v h=>by
  rcases dU h with ⟨i,u,rfl,e⟩|⟨y,u,rfl,e⟩
  ·exact nomatch e
  ·injection e with e1 _
   subst e1;cases v<;>rfl
theorem Ii (prog:Program) (w:World) (k:Key) (v:Value):(cY prog w).is k v=yG k v:=rfl
theorem E_ (prog:Program) (w:World) (i:Int) (t:Tok):(cY prog w).is (.inl i) (.int i t)=true:=L_ i t
theorem EY (prog:Program) (w:World) (x:Str) (t:Tok):(cY prog w).is (.inr x) (.str x t)=true:=LR x t
end L2
namespace L2
open PySem PySem.Spec PyProof.Rows
inductive V where
 | non|bl (b:Bool)|int (i:Int)|str (x:Str)|Jd (b:Array UInt8)|flt (b:UInt64)|ref (a:Addr)|ty (n:String)
 deriving DecidableEq
def RelV:V->Value->Prop
 | .non,u=>u=Value.none
 | .bl b,u=>u=Value.bool b
 | .int i,u=>∃t,u=Value.int i t
 | .str x,u=>∃t,u=Value.str x t
 | .Jd b,u=>∃t,u=Value.bytes b t
 | .flt b,u=>∃t,u=Value.float b t
 | .ref a,u=>u=Value.ref a
 | .ty n,u=>u=Value.type n
abbrev Vals:List V->List Value->Prop:=Paired RelV
theorem Vals.length {xs:List V} {us:List Value} (r:Vals xs us):xs.length=us.length:=Paired.length r
theorem Vals.get:∀{xs:List V} {us:List Value} {i:Nat} {x:V},Vals xs us->xs[i]? = some x -> ∃u,us[i]? = some u/\RelV x u
 | _,_,_,_,.nil,e=>by simp at e
 | _,_,0,_,.cons r _,e=>by simp at e;subst e;exact ⟨_,rfl,r⟩
 | _,_,i+1,x,.cons _ t,e=>by
   obtain ⟨u,h1,h2⟩:=Vals.get (i:=i) (x:=x) t (by simpa using e);exact ⟨u,by simpa using h1,h2⟩
theorem Vals.set {x:V} {u:Value} (r:RelV x u):∀{xs:List V} {us:List Value} (i:Nat),Vals xs us->Vals (xs.set i x) (us.set i u)
 | _,_,_,.nil=> .nil
 | _,_,0,.cons _ t=> .cons r t
 | _,_,i+1,.cons q t=> .cons q (Vals.set r i t)
theorem Vals.append {xs ys:List V} {us ws:List Value} (h:Vals xs us) (s:Vals ys ws):Vals (xs++ys) (us++ws):=by
 induction h with
 | nil=>exact s
 | cons r t ih=>exact .cons r ih
theorem Vals.take:∀{xs:List V} {us:List Value} (n:Nat),Vals xs us->Vals (xs.take n) (us.take n)
 | _,_,0,_=> .nil
 | _,_,_+1,.nil=> .nil
 | _,_,n+1,.cons r t=> .cons r (Vals.take n t)
theorem Vals.drop:∀{xs:List V} {us:List Value} (n:Nat),Vals xs us->Vals (xs.drop n) (us.drop n)
 | _,_,0,r=>r
 | _,_,_+1,.nil=> .nil
 | _,_,n+1,.cons _ t=>Vals.drop n t
def oM:Option V->Option Value->Prop
 | some v,some u=>RelV v u
 | none,none=>True
 | _,_=>False
def KV {κ:Type}:List (κ×V)->List (κ×Value)->Prop:=Paired fun (p:κ×V) (q:κ×Value)=>p.1=q.1/\RelV p.2 q.2
def kV:Key->V
 | .inl i=> .int i
 | .inr x=> .str x
inductive HO where
 | lst (xs:List V)
 | tup (xs:List V)
 | dK (kvs:List (Key×V))|dT (kvs:List (List Key×V))
 | set (S:Int->Bool) (n:Nat)
 | ins (C dx:Addr) (fs:List (Str×V))
 | own (x:Addr)
 | xd (fs:List (Str×V))
 | met (f x:Addr)
 | rng (lo hi:Int)
 | oF (o:Obj) (u:HO)
 | VB (ps:Array Value)
 | ext (φ:Heap->Prop)
abbrev Hp:=Addr->Option HO
def upd (H:Hp) (a:Addr) (o:HO):Hp:=fun b=>if b=a then some o else H b
theorem aq {H:Hp} {a:Addr} {o:HO}:upd H a o a=some o:=by unfold upd;rw [if_pos rfl]
theorem aO {H:Hp} {a b:Addr} {o:HO} (h:b≠a):upd H a o b=H b:=by unfold upd;rw [if_neg h]
theorem Ss {H:Hp} {a:Addr} {o u:HO}:upd (upd H a o) a u=upd H a u:=by
 funext b;unfold upd;split<;>rfl
theorem jx {H:Hp} {a b:Addr} {o u:HO} (h:H a=some o) (h':H b=some u) (d:o≠u):a≠b:=by
 intro e;subst e;rw [h] at h';exact d (Option.some.inj h')
theorem aB {H:Hp} {a b:Addr} {o:HO} (h:H a=some o) (h':H b=none):a≠b:=by
 intro e;subst e;rw [h] at h';cases h'
section
variable (P:Program) (w:World)
def cU (H:Hp) (h:Heap) (a:Addr):HO->Prop
 | .lst xs=>xs.length<=sizeLine /\ ∃(its:List Value) (n:Nat),Vals xs its/\h.get? a=some {cls:= .type "list",data:= .seq its.toArray n}
 | .tup xs=>xs.length<=sizeLine /\ ∃its:List Value,Vals xs its/\IsTup h a its.toArray
 | .dK kvs=>kvs.length<=sizeLine/\(a==sysModules)=false /\ ∃vs,KV kvs vs/\h.DictOf (cY P w) a vs
 | .dT kvs=>kvs.length<=sizeLine/\(a==sysModules)=false /\ ∃xs:List (List Key×Addr×Value),
    Paired (fun (p:List Key×V) (q:List Key×Addr×Value)=>p.1=q.1/\H q.2.1=some (.tup (p.1.map kV))/\RelV p.2 q.2.2) kvs xs /\
    ∃o es ep,h.get? a=some o/\o.ExactDict/\o.data = .dict es ep/\es.toList=xs.map (entryOfKey (tupleKind (cY P w)))/\(xs.map (·.1)).Nodup
 | .set S n=>h.SetOf (intKind P w) a S n
 | .ins C dx fs=>H dx=some (.own a)/\fs.length<=1000/\dx≠a/\h.get? a=some (PySem.W.instObj C dx) /\
    ∃mA,h.Ns1 dx mA/\(∀f,oM (fs.lookup f) (mA f))/\PySem.Within mA (fs.map (·.1))
 | .own _=>∃o,h.get? a=some o
 | .xd fs=>∃mA,h.Ns1 a mA /\ ∀f,oM (fs.lookup f) (mA f)
 | .rng lo hi=>∃t u v,h.get? a=some {cls:= .type "range",data:= .fields #[.int lo t,.int hi u,.int 1 v]}
 | .oF o u=>h.get? a=some o/\cU H h a u
 | .VB ps=>h.get? a=some {cls:= .none,data:= .fields ps}
 | .met f x=>h.get? a=some (PySem.W.methodObj (.ref f) (.ref x))
 | .ext φ=>φ h/\(∃o,h.get? a=some o) /\ ∀h1 h2:Heap,φ h1->(∀o,h1.get? a=some o->h2.get? a=some o)->φ h2
def sH (H:Hp) (h:Heap):Prop:=∀a o,H a=some o->cU P w H h a o
end
section
variable {P:Program} {w:World} {H H':Hp} {h h':Heap} {a:Addr} {o:HO}
theorem cU.lt (x:cU P w H h a o):a<h.objs.size:=by
 cases o with
 | lst xs=>obtain ⟨_,_,_,_,e⟩:=x;exact Heap.lt_size e
 | tup xs=>obtain ⟨_,_,_,p⟩:=x;exact p.lt
 | dK kvs=>obtain ⟨_,_,_,_,o,_,_,e,_⟩:=x;exact Heap.lt_size e
 | dT kvs=>obtain ⟨_,_,_,_,o,_,_,e,_⟩:=x;exact Heap.lt_size e
 | set S n=>obtain ⟨o,_,_,_,e,_⟩:=x;exact Heap.lt_size e
 | ins C dx fs=>obtain ⟨_,_,_,e,_⟩:=x;exact Heap.lt_size e
 | own y=>obtain ⟨_,e⟩:=x;exact Heap.lt_size e
 | xd fs=>obtain ⟨_,⟨_,_,_,e,_⟩,_⟩:=x;exact Heap.lt_size e
 | rng lo hi=>obtain ⟨_,_,_,e⟩:=x;exact Heap.lt_size e
 | oF ob u=>obtain ⟨e,_⟩:=x;exact Heap.lt_size e
 | VB ps=>exact Heap.lt_size (show h.get? a=some _ from x)
 | met f y=>exact Heap.lt_size (show h.get? a=some _ from x)
 | ext φ=>obtain ⟨_,⟨_,e⟩,_⟩:=x;exact Heap.lt_size e
theorem Paired.aax {α β:Type} {F G:α->β->Prop}:∀{l₁:List α} {l₂:List β},Paired F l₁ l₂->(∀a b,F a b->G a b)->Paired G l₁ l₂
 :=by
 intro l₁ l₂ h f
 induction h with
 | nil=>exact .nil
 | cons r t ih=>exact .cons (f _ _ r) ih
theorem cU.stay (x:cU P w H h a o) (k:∀b u,(b=a\/H b=some (.own a))->h.get? b=some u->h'.get? b=some u)
 (ho:∀b,H b=some (.own a)->H' b=some (.own a)) (ht:∀b xs,H b=some (.tup xs)->H' b=some (.tup xs)):cU P w H' h' a o:=by
 induction o with
 | lst xs=>obtain ⟨z,its,n,r,e⟩:=x;exact ⟨z,its,n,r,k _ _ (.inl rfl) e⟩
 | tup xs=>obtain ⟨z,its,r,ob,e,c⟩:=x;exact ⟨z,its,r,ob,k _ _ (.inl rfl) e,c⟩
 | dK kvs=>obtain ⟨z,y,vs,r,ob,es,ep,e,c⟩:=x;exact ⟨z,y,vs,r,ob,es,ep,k _ _ (.inl rfl) e,c⟩
 | dT kvs=>
   obtain ⟨z,y,xs,r,ob,es,ep,e,c⟩:=x;exact ⟨z,y,xs,Paired.aax r fun p q z=>⟨z.1,ht _ _ z.2.1,z.2.2⟩,ob,es,ep,k _ _ (.inl rfl) e,c⟩
 | set S n=>obtain ⟨ob,es,ep,t,e,c⟩:=x;exact ⟨ob,es,ep,t,k _ _ (.inl rfl) e,c⟩
 | ins C dx fs=>
   obtain ⟨d,z,ne,e,mA,⟨od,es,ep,e2,c⟩,r⟩:=x;exact ⟨ho _ d,z,ne,k _ _ (.inl rfl) e,mA,⟨od,es,ep,k _ _ (.inr d) e2,c⟩,r⟩
 | own y=>obtain ⟨ob,e⟩:=x;exact ⟨ob,k _ _ (.inl rfl) e⟩
 | xd fs=>obtain ⟨mA,⟨od,es,ep,e,c⟩,r⟩:=x;exact ⟨mA,⟨od,es,ep,k _ _ (.inl rfl) e,c⟩,r⟩
 | rng lo hi=>obtain ⟨t,u,v,e⟩:=x;exact ⟨t,u,v,k _ _ (.inl rfl) e⟩
 | oF ob u ih=>obtain ⟨e,q⟩:=x;exact ⟨k _ _ (.inl rfl) e,ih q⟩
 | VB ps=>
   have e:h.get? a=some {cls:= .none,data:= .fields ps}:=x;show h'.get? a=some {cls:= .none,data:= .fields ps};exact k a _ (.inl rfl) e
 | met f y=>
   have e:h.get? a=some (PySem.W.methodObj (.ref f) (.ref y)):=x;show h'.get? a=some (PySem.W.methodObj (.ref f) (.ref y));exact k a _ (.inl rfl) e
 | ext φ=>obtain ⟨p,⟨o,e⟩,st⟩:=x;exact ⟨st _ _ p fun o q=>k _ _ (.inl rfl) q,⟨o,k _ _ (.inl rfl) e⟩,st⟩
theorem sH.lt (x:sH P w H h) (e:H a=some o):a<h.objs.size:=(x a o e).lt
theorem sH.fresh (x:sH P w H h) (e:h.objs.size<=a):H a=none:=by
 cases q:H a with
 | none=>rfl
 | some u=>exact absurd (Nat.lt_of_lt_of_le (x.lt q) e) (Nat.lt_irrefl _)
theorem sH.kept (x:sH P w H h) (k:∀b u,h.get? b=some u->h'.get? b=some u):sH P w H h':=fun a o e=>
 (x a o e).stay (fun b u _ q=>k b u q) (fun _ q=>q) fun _ _ q=>q
theorem sH.laid (x:sH P w H h) (k:∀b u,h.get? b=some u->h'.get? b=some u) (hp:h.objs.size<=a) (new:cU P w (upd H a o) h' a o):sH P w (upd H a o) h':=fun b u e=>by
 have hn:=x.fresh hp
 by_cases hb:b=a
 ·subst hb;rw [aq] at e;cases e;exact new
 ·rw [aO hb] at e
  exact (x b u e).stay (fun c v _ q=>k c v q) (fun c q=>by rw [aO (aB q hn)];exact q) fun c xs q=>by rw [aO (aB q hn)];exact q
end
def Rd (H:Hp) (a:Addr) (u:HO):Prop:=H a=some u \/ ∃o,H a=some (.oF o u)
theorem Rd.ok {P:Program} {w:World} {H:Hp} {h:Heap} {a:Addr} {u:HO} (r:Rd H a u) (x:sH P w H h):cU P w H h a u:=by
 rcases r with r|⟨o,r⟩
 ·exact x a u r
 ·obtain ⟨_,q⟩:=x a _ r
  exact q
def Mut:Option HO->Prop
 | some (.lst _)=>True
 | some (.dK _)=>True
 | some (.dT _)=>True
 | some (.set _ _)=>True
 | some (.ins _ _ _)=>True
 | some (.ext _)=>True
 | _=>False
section
variable {P:Program} {w:World} {H:Hp} {h h':Heap} {x e:Addr} {o':HO}
theorem sH.write (ok:sH P w H h) (mu:Mut (H x)) (he:e=x\/H e=some (.own x)) (k:∀b u,b≠e->h.get? b=some u->h'.get? b=some u) (heo:∃u,h'.get? e=some u)
 (new:cU P w (upd H x o') h' x o'):sH P w (upd H x o') h':=fun b u q=>by
 have aaq:∀c y,H c=some (.own y)->c≠x:=fun c y r z=>by subst z;rw [r] at mu;exact mu
 have agG:∀c xs,H c=some (.tup xs)->c≠x:=fun c xs r z=>by subst z;rw [r] at mu;exact mu
 by_cases hb:b=x
 ·subst hb;rw [aq] at q;cases q;exact new
 ·rw [aO hb] at q
  by_cases hbe:b=e
  ·have q':H b=some (.own x):=by
    rcases he with z|z
    ·exact absurd (hbe.trans z) hb
    ·rw [hbe];exact z
   rw [q] at q';cases q';obtain ⟨v,hv⟩:=heo;exact ⟨v,by rw [hbe];exact hv⟩
  ·refine (ok b u q).stay (fun c v hc r=>k c v ?_ r) (fun c r=>by rw [aO (aaq c b r)];exact r) fun c xs r=>by rw [aO (agG c xs r)];exact r
   rcases hc with rfl|hc
   ·exact hbe
   ·rintro rfl
    rcases he with z|z
    ·exact aaq c b hc z
    ·rw [hc] at z;cases z;exact hb rfl
end
structure Un (fs ex:List Addr) (H H':Hp) (h h':Heap):Prop where
 keep:∀b o,h.get? b=some o->H b=none->b∉fs->b∉ex->h'.get? b=some o
 slot:∀b o,h.get? b=some o->H b=none->b∈fs->b∉ex -> ∃sl,h'.get? b=some {o with slots:=sl}
 free:∀b o,h.get? b=some o->H b=none->b∉ex->H' b=none
 there:∀b o,h.get? b=some o->b∉ex -> ∃o',h'.get? b=some o'
 tups:∀b xs,H b=some (.tup xs)->H' b=some (.tup xs)
 u_:∀b o u,H b=some (.oF o u)->H' b=some (.oF o u)
 xG:∀b ps,H b=some (.VB ps) -> ∃more,H' b=some (.VB (ps++more))
section
variable {fs fs' ex ex':List Addr} {H H1 H2:Hp} {h h1 h2 h':Heap} {a x e:Addr} {o:HO}
theorem Un.any (u:Un fs ex H H1 h h1) {b:Addr} {ob:Obj} (q:h.get? b=some ob) (n:H b=none) (hx:b∉ex):∃sl,h1.get? b=some {ob with slots:=sl}:=by
 by_cases hb:b∈fs
 ·exact u.slot b ob q n hb hx
 ·exact ⟨ob.slots,u.keep b ob q n hb hx⟩
theorem Un.kept (k:∀b u,h.get? b=some u->h'.get? b=some u):Un fs ex H H h h':=
 ⟨fun b ob q _ _ _=>k b ob q,fun b ob q _ _ _=>⟨ob.slots,k b ob q⟩,fun _ _ _ n _=>n,fun b ob q _=>⟨ob,k b ob q⟩,fun _ _ q=>q,fun _ _ _ q=>q,fun _ ps q=>⟨#[],by rw [q];simp⟩⟩
theorem Un.refl:Un fs ex H H h h:=Un.kept fun _ _ q=>q
theorem Un.laid (k:∀b u,h.get? b=some u->h'.get? b=some u) (hp:h.objs.size<=a) (hn:H a=none):Un fs ex H (upd H a o) h h' where
 keep:=fun b u q _ _ _=>k b u q
 slot:=fun b u q _ _ _=>⟨u.slots,k b u q⟩
 free:=fun b u q n _=>by rw [aO (Nat.ne_of_lt (Nat.lt_of_lt_of_le (Heap.lt_size q) hp))];exact n
 there:=fun b u q _=>⟨u,k b u q⟩
 tups:=fun b xs q=>by rw [aO (aB q hn)];exact q
 u_:=fun b u xs q=>by rw [aO (aB q hn)];exact q
 xG:=fun b ps q=>⟨#[],by rw [aO (aB q hn),q];simp⟩
theorem Un.write (mu:Mut (H x)) (he:e=x\/H e=some (.own x)) (k:∀b u,b≠e->h.get? b=some u->h'.get? b=some u) (heo:∃u,h'.get? e=some u):Un fs ex H (upd H x o) h h':=by
 have hx:∀b,H b=none->b≠x:=fun b n z=>by subst z;rw [n] at mu;exact mu
 have hb:∀b,H b=none->b≠e:=fun b n z=>by
  subst z;rcases he with r|r
  ·exact hx b n r
  ·rw [n] at r;cases r
 have hm:∀b u,H b=some u -> ¬Mut (some u)->b≠x:=fun b u q nm z=>by subst z;rw [q] at mu;exact nm mu
 refine ⟨fun b u q n _ _=>k b u (hb b n) q,fun b u q n _ _=>⟨u.slots,k b u (hb b n) q⟩,fun b u q n _=>by rw [aO (hx b n)];exact n,fun b u q _=> ?_,
  fun b xs q=>by rw [aO (hm b _ q fun z=>z)];exact q,fun b u xs q=>by rw [aO (hm b _ q fun z=>z)];exact q,fun b ps q=>⟨#[],by rw [aO (hm b _ q fun z=>z),q];simp⟩⟩
 by_cases hbe:b=e
 ·subst hbe;exact heo
 ·exact ⟨u,k b u hbe q⟩
end
def trk (h:Heap) (H:Hp):List Addr:=(List.range h.objs.size).filter fun a=>(H a).isSome
def Cu (h:Heap) (H:Hp):Heap:=PySem.W.hideAll h (trk h H)
theorem Mr (h:Heap) (H:Hp):(Cu h H).objs.size=h.objs.size:=PySem.W.hideAll_size _ _
theorem QF {h:Heap} {H:Hp} {b:Addr} {o:Obj} (e:h.get? b=some o) (n:H b=none):(Cu h H).get? b=some o:=
 PySem.W.hideAll_get _ e fun hm=>by
  have q:(H b).isSome=true:=(List.mem_filter.mp hm).2;rw [n] at q;simp at q
theorem Uh {h:Heap} {H:Hp} {b:Addr} {o:Obj} (e:(Cu h H).get? b=some o):h.get? b=some o/\H b=none:=by
 have e':h.get? b=some o:=PySem.W.of_hideAll (trk h H) e;refine ⟨e', ?_⟩;cases q:H b with
 | none=>rfl
 | some x=>
   have hm:b∈trk h H:=List.mem_filter.mpr ⟨List.mem_range.mpr (Heap.lt_size e'),by simp [q]⟩;have z:(Cu h H).get? b=none:=PySem.W.hideAll_none (trk h H) hm;rw [z] at e;cases e
def Vp (g h:Heap) (L:Addr):List (Addr×Obj):=(List.range h.objs.size).filterMap fun a=>if a=L\/(g.get? a).isSome=true then none else (h.get? a).map fun o=>(a,o)
def rest (g h:Heap) (L d:Addr):List (Addr×Obj):=(Vp g h L).filter fun p=>decide (p.1≠d)
end L2
namespace L2
open PySem PySem.Spec PyProof.Rows
structure Mod (K:PySem.W.Frag) (mg:Str->Option Value) (base:Heap):Prop where
 Qw:K.In base
 glob:base.Ns mainGlobals mg
 blt:∃mb,base.Ns builtinsNs mb /\ ∀x:Str,x ≠ "__name__" -> mb x=bootBuiltins x
 nolimit:base.NoLimit
structure Cx where
 prog:Program
 w:World
 K:PySem.W.Frag
 mg:Str->Option Value
 base:Heap
 A:Around
 N:List Str
 s₀:Shared
 H₀:Hp
 env:Env
 outer:List Env
 stack:List Env
 ex:List Addr
 fn:Str->Bool
 calm:Bool
 pn:List (Addr×Obj)
 xe:Value->Shared->Prop
def frs (l:List Env):List Addr:=l.filterMap (·.frame)
abbrev Cx.fs (X:Cx):List Addr:=frs X.outer
def Vis (sc:Scope) (x:Str):Prop:=sc.names.lookup x=some .local\/sc.names.lookup x=some .cell\/sc.names.lookup x=some .free
def Loc (sc:Scope) (x:Str):Prop:=sc.names.lookup x=some .local\/sc.names.lookup x=some .cell
def Look (env:Env) (h:Heap) (m:Str->Option Value) (x:Str) (u:Value):Prop:=
 (env.kindOf x=some .local/\m x=some u)\/((env.kindOf x=some .cell\/env.kindOf x=some .free) /\ ∃c,env.cells.lookup x=some c/\h.IsCell c (some u))
structure Cx.Ok (X:Cx):Prop where
 mod:Mod X.K X.mg X.base
 kind:X.env.scope.kind = .function
 glob:X.env.globals=mainGlobals
 blt:X.env.builtins=builtinsNs
 above:X.s₀.heap.objs.size<=X.env.locals
 inj:∀x y c,X.env.cells.lookup x=some c->X.env.cells.lookup y=some c->x=y
 has:∀x,(X.env.kindOf x=some .cell\/X.env.kindOf x=some .free) -> ∃c,X.env.cells.lookup x=some c
 cab:∀x c,X.fn x=true->X.env.cells.lookup x=some c->X.s₀.heap.objs.size<=c
 hd:X.calm=true->X.A.handled=none
 frames:X.A.frames=some X.stack
 stk:X.stack=X.outer\/(X.stack=X.env::X.outer/\X.env.frame=some X.env.locals)
 exf:∀b∈X.ex,b≠X.env.locals /\ ∀x c,X.env.cells.lookup x=some c->c≠b
 bs:∀b o,X.base.get? b=some o->X.s₀.heap.get? b=some o/\X.H₀ b=none
 M5:X.base.objs.size<=X.s₀.heap.objs.size
 Lw:∀b o,X.base.get? b=some o->b∉X.ex
 U_:∀b∈X.ex,b∉X.fs
 u9:X.s₀.heap.FunFrames X.base X.outer
 V8:∀b∈X.fs,X.H₀ b=none
structure Inv (X:Cx) (pins:List (Addr×Obj)) (σ:List (Option V)) (H:Hp) (s:Shared):Prop where
 ok:X.Ok
 os:s.os=X.s₀.os
 bare:AllBare s.gens
 base:Un X.fs X.ex X.H₀ H X.s₀.heap s.heap
 loc:∃m,s.heap.Ns X.env.locals m /\ ∀(i:Nat) (x:Str) (v:V),X.N[i]? = some x->σ[i]? = some (some v)->Vis X.env.scope x -> ∃u,RelV v u/\Look X.env s.heap m x u
 cell:∀x c,X.env.cells.lookup x=some c -> ∃v,s.heap.IsCell c v
 free:H X.env.locals=none
 mV:∀x c,X.env.cells.lookup x=some c->H c=none
 pin:∀p∈X.pn++pins,s.heap.get? p.1=some p.2/\H p.1=none/\p.1≠X.env.locals/\p.1∉X.fs /\ ∀v,p.2.data ≠ .cell v
 hok:sH X.prog X.w H s.heap
 len:σ.length=X.N.length
section
variable {X:Cx} {pins:List (Addr×Obj)} {σ:List (Option V)} {H H':Hp} {s:Shared} {h':Heap}
theorem Cx.Ok.agP (ok:X.Ok) {b:Addr} {o:Obj} (e:X.base.get? b=some o):b∉X.fs:=fun hb=>by
 have:=(ok.u9.mem hb).1;rw [e] at this;cases this
theorem Inv.bs (I:Inv X pins σ H s):∀b o,X.base.get? b=some o->s.heap.get? b=some o/\H b=none:=fun b o e=>
 ⟨I.base.keep b o (I.ok.bs b o e).1 (I.ok.bs b o e).2 (I.ok.agP e) (I.ok.Lw b o e),I.base.free b o (I.ok.bs b o e).1 (I.ok.bs b o e).2 (I.ok.Lw b o e)⟩
theorem Inv.bk (I:Inv X pins σ H s):∀b o,X.base.get? b=some o->s.heap.get? b=some o:=fun b o e=>(I.bs b o e).1
theorem Inv.mod (I:Inv X pins σ H s):Mod X.K X.mg X.base:=I.ok.mod
theorem Inv.rJ (I:Inv X pins σ H s):X.K.In s.heap:=I.ok.mod.Qw.keeps I.bk
theorem Inv.fr (I:Inv X pins σ H s):∃m,Fr X.base X.env.locals s.heap m:=
 let ⟨m,hn,_⟩:=I.loc
 ⟨m,hn,I.bk,Nat.le_trans I.ok.M5 I.ok.above⟩
theorem Inv.lt (I:Inv X pins σ H s):X.env.locals<s.heap.objs.size:=let ⟨_,hn,_⟩:=I.loc;hn.lt
theorem Inv.sz (I:Inv X pins σ H s):X.s₀.heap.objs.size<=s.heap.objs.size:=Nat.le_trans I.ok.above (Nat.le_of_lt I.lt)
theorem Inv.agO (I:Inv X pins σ H s) {a:Addr} (h:s.heap.objs.size<=a):a∉X.fs:=fun hb=>by
 obtain ⟨_,o,ho,_⟩:=I.ok.u9.mem hb;exact absurd (Nat.lt_of_lt_of_le (Heap.lt_size ho) (Nat.le_trans I.sz h)) (Nat.lt_irrefl _)
theorem Inv.YX (I:Inv X pins σ H s):∀x c,X.env.cells.lookup x=some c->c≠X.env.locals:=fun x c e z=>by
 obtain ⟨v,o,ho,hd⟩:=I.cell x c e;obtain ⟨m,⟨o',es,ep,ho',hd',_⟩,_⟩:=I.loc;rw [z,ho'] at ho;cases ho;rw [hd'] at hd;cases hd
theorem Inv.u9 (I:Inv X pins σ H s):s.heap.FunFrames X.base X.outer:=by
 have all:∀(l:List Env),(∀b∈frs l,b∈X.fs)->X.s₀.heap.FunFrames X.base l->s.heap.FunFrames X.base l:=by
  intro l
  induction l with
  | nil=>intro _ _;trivial
  | cons env r ih=>
    intro hs hl;obtain ⟨hk,⟨L,o,hf,hn,ho,hd⟩,hr⟩:=hl;have hL:L∈X.fs:=hs L (by unfold frs;rw [List.filterMap_cons,hf];exact List.mem_cons_self);obtain ⟨sl,e⟩:=I.base.slot L o ho (I.ok.V8 L hL) hL fun z=>I.ok.U_ L z hL;exact ⟨hk,⟨L,_,hf,hn,e,hd⟩,ih (fun b hb=>hs b (by unfold frs;rw [List.filterMap_cons,hf];exact List.mem_cons_of_mem _ hb)) hr⟩
 exact all X.outer (fun _ hb=>hb) I.ok.u9
theorem Inv.stack (I:Inv X pins σ H s):s.heap.FunFrames X.base X.stack:=by
 rcases I.ok.stk with e|⟨e,hf⟩
 ·rw [e];exact I.u9
 ·rw [e]
  obtain ⟨m,hn,_⟩:=I.loc;refine .cons (by rw [I.ok.kind];decide) hf hn ?_ I.u9;exact Heap.get?_none_of_le (Nat.le_trans I.ok.M5 I.ok.above)
theorem Inv.uH (I:Inv X pins σ H s):∀b∈frs X.stack,b∈X.env.locals::X.fs:=fun b hb=>by
 rcases I.ok.stk with e|⟨e,hf⟩
 ·rw [e] at hb;exact List.mem_cons_of_mem _ hb
 ·rw [e] at hb
  unfold frs at hb;rw [List.filterMap_cons,hf] at hb;exact hb
theorem Inv.Bm (I:Inv X pins σ H s):∀b∈frs X.stack,H b=none:=fun b hb=>by
 rcases List.mem_cons.mp (I.uH b hb) with e|hb
 ·rw [e];exact I.free
 ·obtain ⟨_,o,ho,_⟩:=I.ok.u9.mem hb
  exact I.base.free b o ho (I.ok.V8 b hb) fun z=>I.ok.U_ b z hb
theorem Inv.step {g':Array GenState} {t':Nat} {d':Drawn} {ch:List Addr} (I:Inv X pins σ H s)
 (hch:∀b∈ch,(b∈X.ex\/X.s₀.heap.objs.size<=b)/\b≠X.env.locals/\(∀x c,X.env.cells.lookup x=some c->c≠b) /\ ∀p∈X.pn++pins,p.1≠b)
 (keep:∀b o,b≠X.env.locals->b∉X.fs->b∉ch->s.heap.get? b=some o->H b=none->h'.get? b=some o)
 (slot:∀b o,b≠X.env.locals->b∈X.fs->b∉ch->s.heap.get? b=some o->H b=none -> ∃sl,h'.get? b=some {o with slots:=sl}) (free:∀b o,b∉ch->s.heap.get? b=some o->H b=none->H' b=none)
 (there:∀b o,b∉ch->s.heap.get? b=some o -> ∃o',h'.get? b=some o')
 (tups:∀b xs,H b=some (.tup xs)->H' b=some (.tup xs)) (u_:∀b o u,H b=some (.oF o u)->H' b=some (.oF o u)) (xG:∀b ps,H b=some (.VB ps) -> ∃more,H' b=some (.VB (ps++more)))
 (ns:∀m,s.heap.Ns X.env.locals m->h'.Ns X.env.locals m) (hok:sH X.prog X.w H' h') (hg:AllBare g'):
 Inv X pins σ H' {s with heap:=h',gens:=g',drawn:=d',toks:=t'}:=by
 have neL:∀b o,X.s₀.heap.get? b=some o->b≠X.env.locals:=fun b o e=>Nat.ne_of_lt (Nat.lt_of_lt_of_le (Heap.lt_size e) I.ok.above)
 have neC:∀b o,X.s₀.heap.get? b=some o->b∉X.ex->b∉ch:=fun b o e hx hb=>by
  rcases (hch b hb).1 with z|z
  ·exact hx z
  ·exact absurd (Nat.lt_of_lt_of_le (Heap.lt_size e) z) (Nat.lt_irrefl _)
 have cellK:∀x c,X.env.cells.lookup x=some c -> ∀v,s.heap.IsCell c v->h'.IsCell c v:=fun x c e v ⟨o,ho,hd⟩=>by
  have nch:c∉ch:=fun z=>(hch c z).2.2.1 x c e rfl
  by_cases hc:c∈X.fs
  ·obtain ⟨sl,q⟩:=slot c o (I.YX x c e) hc nch ho (I.mV x c e)
   exact ⟨_,q,hd⟩
  ·exact ⟨o,keep c o (I.YX x c e) hc nch ho (I.mV x c e),hd⟩
 refine ⟨I.ok,I.os,hg,⟨fun b o e n hb hx=> ?_,fun b o e n hb hx=> ?_,fun b o e n hx=> ?_,fun b o e hx=> ?_,fun b xs e=>tups b xs (I.base.tups b xs e),fun b o xs e=>u_ b o xs (I.base.u_ b o xs e),fun b ps e=> ?_⟩, ?_,fun x c e=> ?_, ?_,fun x c e=> ?_,fun p hp=> ?_,hok,I.len⟩
 ·exact keep b o (neL b o e) hb (neC b o e hx) (I.base.keep b o e n hb hx) (I.base.free b o e n hx)
 ·obtain ⟨sl,e1⟩:=I.base.slot b o e n hb hx
  obtain ⟨sl',e2⟩:=slot b _ (neL b o e) hb (neC b o e hx) e1 (I.base.free b o e n hx);exact ⟨sl',e2⟩
 ·obtain ⟨o',e1⟩:=I.base.there b o e hx
  exact free b o' (neC b o e hx) e1 (I.base.free b o e n hx)
 ·obtain ⟨o',e1⟩:=I.base.there b o e hx
  exact there b o' (neC b o e hx) e1
 ·obtain ⟨m1,e1⟩:=I.base.xG b ps e
  obtain ⟨m2,e2⟩:=xG b _ e1;exact ⟨m1++m2,by rw [e2,Array.append_assoc]⟩
 ·obtain ⟨m,hn,hl⟩:=I.loc
  refine ⟨m,ns m hn,fun i x v e1 e2 e3=> ?_⟩;obtain ⟨u,r,l⟩:=hl i x v e1 e2 e3;refine ⟨u,r, ?_⟩;rcases l with l|⟨k,c,e,z⟩
  ·exact .inl l
  ·exact .inr ⟨k,c,e,cellK x c e _ z⟩
 ·obtain ⟨v,z⟩:=I.cell x c e
  exact ⟨v,cellK x c e v z⟩
 ·obtain ⟨m,⟨o,_,_,ho,_⟩,_⟩:=I.loc
  exact free _ o (fun z=>(hch _ z).2.1 rfl) ho I.free
 ·obtain ⟨v,o,ho,hd⟩:=I.cell x c e
  exact free c o (fun z=>(hch c z).2.2.1 x c e rfl) ho (I.mV x c e)
 ·obtain ⟨e,n,ne,nf,d⟩:=I.pin p hp
  have nch:p.1∉ch:=fun z=>(hch p.1 z).2.2.2 p hp rfl;exact ⟨keep p.1 p.2 ne nf nch e n,free p.1 p.2 nch e n,ne,nf,d⟩
theorem Inv.un {t':Nat} (I:Inv X pins σ H s) (u:Un X.fs [] H H' s.heap h') (hok:sH X.prog X.w H' h'):Inv X pins σ H' {s with heap:=h',toks:=t'}:=by
 obtain ⟨m,⟨o,es,ep,ho,r⟩,_⟩:=id I.loc;obtain ⟨sl,hL⟩:=u.any ho I.free (by simp)
 exact I.step (g':=s.gens) (d':=s.drawn) (ch:=[]) (fun _ z=>nomatch z) (fun b o _ hb _ e n=>u.keep b o e n hb (by simp)) (fun b o _ hb _ e n=>u.slot b o e n hb (by simp)) (fun b o _ e n=>u.free b o e n (by simp)) (fun b o _ e=>u.there b o e (by simp)) u.tups u.u_ u.xG (fun m' hm=>by
  obtain ⟨o',es',ep',ho',r'⟩:=hm;rw [ho] at ho';cases ho';exact ⟨_,es',ep',hL,r'⟩) hok I.bare
theorem Inv.call {g':Array GenState} {t':Nat} {d':Drawn} {ch:List Addr} (I:Inv X pins σ H s) (u:Un (frs X.stack) ch H H' s.heap h') (hok:sH X.prog X.w H' h') (hg:AllBare g')
 (hch:∀b∈ch,(b∈X.ex\/X.s₀.heap.objs.size<=b)/\b≠X.env.locals/\(∀x c,X.env.cells.lookup x=some c->c≠b) /\ ∀p∈X.pn++pins,p.1≠b):
 Inv X pins σ H' {s with heap:=h',gens:=g',drawn:=d',toks:=t'}:=by
 obtain ⟨m,⟨o,es,ep,ho,r⟩,_⟩:=id I.loc;obtain ⟨sl,hL⟩:=u.any ho I.free fun z=>(hch _ z).2.1 rfl
 exact I.step (ch:=ch) hch (fun b o hL hb hc e n=>u.keep b o e n (fun z=>(List.mem_cons.mp (I.uH b z)).elim hL hb) hc) (fun b o _ _ hc e n=>u.any e n hc) (fun b o hc e n=>u.free b o e n hc) (fun b o hc e=>u.there b o e hc) u.tups u.u_ u.xG (fun m' hm=>by
  obtain ⟨o',es',ep',ho',r'⟩:=hm;rw [ho] at ho';cases ho';exact ⟨_,es',ep',hL,r'⟩) hok hg
theorem Inv.turned {t':Nat} {it:Addr} (I:Inv X pins σ H s) (k:∀b o,b≠it->s.heap.get? b=some o->h'.get? b=some o) (hn:H it=none) (hL:it≠X.env.locals)
 (h1:it∈X.ex\/X.s₀.heap.objs.size<=it) (h2:∀x c,X.env.cells.lookup x=some c->c≠it) (h3:∀p∈X.pn++pins,p.1≠it):Inv X pins σ H {s with heap:=h',toks:=t'}:=by
 have Xz:∀b u,H b=some u->b≠it:=fun b u e z=>by rw [z,hn] at e;cases e
 refine I.step (g':=s.gens) (d':=s.drawn) (ch:=[it]) (fun b hb=> ?_) (fun b o _ _ hc e _=>k b o (fun z=>hc (by simp [z])) e) (fun b o _ _ hc e _=>⟨o.slots,k b o (fun z=>hc (by simp [z])) e⟩) (fun _ _ _ _ n=>n)
  (fun b o hc e=>⟨o,k b o (fun z=>hc (by simp [z])) e⟩) (fun _ _ e=>e) (fun _ _ _ e=>e) (fun b ps e=>⟨#[],by rw [e];simp⟩) (fun m hm=> ?_) (fun b u e=> ?_) I.bare
 ·have e:b=it:=by simpa using hb
  subst e;exact ⟨h1,hL,h2,h3⟩
 ·obtain ⟨o,es,ep,ho,r⟩:=hm
  exact ⟨o,es,ep,k _ o (Ne.symm hL) ho,r⟩
 ·refine (I.hok b u e).stay (fun c v hc q=>k c v ?_ q) (fun _ q=>q) fun _ _ q=>q
  rcases hc with z|z
  ·rw [z];exact Xz b u e
  ·exact Xz c _ z
theorem Inv.tok (I:Inv X pins σ H s) (t:Nat):Inv X pins σ H {s with toks:=t}:=I.un (h':=s.heap) (t':=t) Un.refl I.hok
theorem Inv.kept {t':Nat} (I:Inv X pins σ H s) (k:∀b u,s.heap.get? b=some u->h'.get? b=some u):Inv X pins σ H {s with heap:=h',toks:=t'}:=I.un (Un.kept k) (I.hok.kept k)
theorem Inv.laid {a:Addr} {o:HO} {t':Nat} (I:Inv X pins σ H s) (k:∀b u,s.heap.get? b=some u->h'.get? b=some u) (hp:s.heap.objs.size<=a) (new:cU X.prog X.w (upd H a o) h' a o):
 Inv X pins σ (upd H a o) {s with heap:=h',toks:=t'}:=I.un (Un.laid k hp (I.hok.fresh hp)) (I.hok.laid k hp new)
theorem Inv.write {x e:Addr} {o:HO} {t':Nat} (I:Inv X pins σ H s) (mu:Mut (H x)) (he:e=x\/H e=some (.own x)) (k:∀b u,b≠e->s.heap.get? b=some u->h'.get? b=some u) (heo:∃u,h'.get? e=some u)
 (new:cU X.prog X.w (upd H x o) h' x o):Inv X pins σ (upd H x o) {s with heap:=h',toks:=t'}:=I.un (Un.write mu he k heo) (I.hok.write mu he k heo new)
theorem Inv.JL {Ag:List (Addr×Obj)} (I:Inv X pins σ H s) (h:∀p∈Ag,s.heap.get? p.1=some p.2/\H p.1=none/\p.1≠X.env.locals/\p.1∉X.fs /\ ∀v,p.2.data ≠ .cell v):Inv X Ag σ H s:=
 ⟨I.ok,I.os,I.bare,I.base,I.loc,I.cell,I.free,I.mV,fun p hp=>(List.mem_append.mp hp).elim (fun z=>I.pin p (List.mem_append_left _ z)) (h p),I.hok,I.len⟩
theorem Eu {N:List Str} (hN:N.Nodup) {i j:Nat} {x:Str} (a:N[i]? = some x) (b:N[j]? = some x):i=j:=by
 obtain ⟨h1,e1⟩:=List.getElem?_eq_some_iff.mp a;obtain ⟨h2,e2⟩:=List.getElem?_eq_some_iff.mp b;exact (List.getElem_inj hN).mp (e1.trans e2.symm)
theorem uG {M:Model} {A:Around} {E:Value->Shared->Prop} {i:Nat} {x:Str} {v:V} {u:Value} {Q:Unit->Shared->Prop} (I:Inv X pins σ H s) (hN:X.N.Nodup) (hi:X.N[i]? = some x) (hx:Loc X.env.scope x) (r:RelV v u)
 (h:∀s',Inv X pins (σ.set i (some v)) H s'->(∃a,Heap.SameBut a s.heap s'.heap/\(a=X.env.locals\/X.env.cells.lookup x=some a))->Q () s') (hf:X.fn x=true\/X.env.scope.names.lookup x=some .local:=by first |exact .inl rfl|exact .inr rfl|assumption):wpAny M A (storeName X.env x u) Q E s:=by
 obtain ⟨m,hn,hl⟩:=id I.loc;have hcls:(X.env.scope.kind == .class||(X.env.scope.kind == .module&&X.env.locals != X.env.globals))=false:=by rw [I.ok.kind];rfl
 have alQ:i<σ.length:=by rw [I.len];exact (List.getElem?_eq_some_iff.mp hi).1
 have YX:=I.YX
 have tracked:∀{a:Addr} {h':Heap},(∃o,s.heap.get? a=some o/\H a=none)->Heap.SameBut a s.heap h'->sH X.prog X.w H h':=fun {a h'} ha hs b ob e=>by
  obtain ⟨_,_,hfree⟩:=ha;refine (I.hok b ob e).stay (fun c w' hc q=>(hs.2 c ?_).trans q) (fun _ q=>q) fun _ _ q=>q;rintro rfl;rcases hc with rfl|hc
  ·rw [hfree] at e;cases e
  ·rw [hfree] at hc;cases hc
 rcases hx with hk|hk
 ·refine wpAny_storeName_local hk hn (fun h' hn' hs=> ?_) hcls
  obtain ⟨oL,_,_,hoL,_⟩:=id hn;refine h _ ⟨I.ok,I.os,I.bare,⟨fun b o e n hb hx=> ?_,fun b o e n hb hx=> ?_,I.base.free,fun b o e hx=> ?_,I.base.tups,I.base.u_,I.base.xG⟩,⟨_,hn',fun j y v' e1 e2 e3=> ?_⟩,fun y c e=> ?_,I.free,I.mV,fun p hp=> ?_,tracked ⟨oL,hoL,I.free⟩ hs,by simpa using I.len⟩ ⟨_,hs,.inl rfl⟩
  ·exact (hs.2 b (Nat.ne_of_lt (Nat.lt_of_lt_of_le (Heap.lt_size e) I.ok.above))).trans (I.base.keep b o e n hb hx)
  ·obtain ⟨sl,e1⟩:=I.base.slot b o e n hb hx
   exact ⟨sl,(hs.2 b (Nat.ne_of_lt (Nat.lt_of_lt_of_le (Heap.lt_size e) I.ok.above))).trans e1⟩
  ·obtain ⟨o',e1⟩:=I.base.there b o e hx
   exact ⟨o',(hs.2 b (Nat.ne_of_lt (Nat.lt_of_lt_of_le (Heap.lt_size e) I.ok.above))).trans e1⟩
  ·by_cases hj:j=i
   ·subst hj
    rw [hi] at e1;cases e1;rw [List.getElem?_set_self alQ] at e2;cases e2;exact ⟨u,r,.inl ⟨hk,by simp⟩⟩
   ·rw [List.getElem?_set_ne (Ne.symm hj)] at e2
    obtain ⟨u',r',q⟩:=hl j y v' e1 e2 e3;refine ⟨u',r', ?_⟩;rcases q with ⟨k,e⟩|⟨k,c,e,z⟩
    ·refine .inl ⟨k, ?_⟩
     have:y≠x:=fun e=>hj (Eu hN e1 (e▸hi));simp [this,e]
    ·exact .inr ⟨k,c,e,z.sameBut hs (YX y c e)⟩
  ·obtain ⟨w',z⟩:=I.cell y c e
   exact ⟨w',z.sameBut hs (YX y c e)⟩
  ·obtain ⟨e,n,ne,nf,d⟩:=I.pin p hp
   exact ⟨(hs.2 p.1 ne).trans e,n,ne,nf,d⟩
 ·have hfn:X.fn x=true:=by
   rcases hf with z|z
   ·exact z
   ·rw [z] at hk;cases hk
  obtain ⟨c,hc⟩:=I.ok.has x (.inl hk);obtain ⟨w',z⟩:=I.cell x c hc;refine wpAny_storeName_cell I.ok.kind hk hc z (fun h' hc' hs=> ?_);obtain ⟨oc,hoc,aij⟩:=id z;refine h {s with heap:=h'} ⟨I.ok,I.os,I.bare,⟨fun b o e n hb hx=> ?_,fun b o e n hb hx=> ?_,I.base.free,fun b o e hx=> ?_,I.base.tups,I.base.u_,I.base.xG⟩,⟨m,hn.sameBut hs (Ne.symm (YX x c hc)),fun j y v' e1 e2 e3=> ?_⟩,fun y c' e=> ?_,I.free,I.mV,fun p hp=> ?_,tracked ⟨oc,hoc,I.mV x c hc⟩ hs,by simpa using I.len⟩ ⟨c,hs,.inr hc⟩
  ·exact (hs.2 b (Nat.ne_of_lt (Nat.lt_of_lt_of_le (Heap.lt_size e) (I.ok.cab x c hfn hc)))).trans (I.base.keep b o e n hb hx)
  ·obtain ⟨sl,e1⟩:=I.base.slot b o e n hb hx
   exact ⟨sl,(hs.2 b (Nat.ne_of_lt (Nat.lt_of_lt_of_le (Heap.lt_size e) (I.ok.cab x c hfn hc)))).trans e1⟩
  ·obtain ⟨o',e1⟩:=I.base.there b o e hx
   exact ⟨o',(hs.2 b (Nat.ne_of_lt (Nat.lt_of_lt_of_le (Heap.lt_size e) (I.ok.cab x c hfn hc)))).trans e1⟩
  ·by_cases hj:j=i
   ·subst hj
    rw [hi] at e1;cases e1;rw [List.getElem?_set_self alQ] at e2;cases e2;exact ⟨u,r,.inr ⟨.inl hk,c,hc,hc'⟩⟩
   ·rw [List.getElem?_set_ne (Ne.symm hj)] at e2
    obtain ⟨u',r',q⟩:=hl j y v' e1 e2 e3;refine ⟨u',r', ?_⟩;rcases q with q|⟨k,c',e,z'⟩
    ·exact .inl q
    ·refine .inr ⟨k,c',e,z'.sameBut hs ?_⟩
     rintro rfl;exact hj (Eu hN e1 (I.ok.inj _ _ _ e hc▸hi))
  ·by_cases hcc:c'=c
   ·subst hcc;exact ⟨_,hc'⟩
   ·obtain ⟨w2,z2⟩:=I.cell y c' e
    exact ⟨w2,z2.sameBut hs hcc⟩
  ·obtain ⟨e,n,ne,nf,d⟩:=I.pin p hp
   refine ⟨(hs.2 p.1 ?_).trans e,n,ne,nf,d⟩;intro q;rw [q,hoc] at e;have q':oc=p.2:=Option.some.inj e;exact d w' (by rw [←q'];exact aij)
theorem xJ {M:Model} {A:Around} {E:Value->Shared->Prop} {i:Nat} {x:Str} {v:V} {u:Value} {Q:Unit->Shared->Prop} (I:Inv X pins σ H s) (hN:X.N.Nodup) (hi:X.N[i]? = some x) (hx:Loc X.env.scope x) (r:RelV v u)
 (h:∀s',Inv X pins (σ.set i (some v)) H s'->Q () s') (hf:X.fn x=true\/X.env.scope.names.lookup x=some .local:=by first |exact .inl rfl|exact .inr rfl|assumption):wpAny M A (storeName X.env x u) Q E s:=
 uG I hN hi hx r (fun s' I' _=>h s' I') hf
theorem Inv.call' {s':Shared} {ch:List Addr} (I:Inv X pins σ H s) (ho:s'.os=s.os) (u:Un (frs X.stack) ch H H' s.heap s'.heap) (hok:sH X.prog X.w H' s'.heap) (hg:AllBare s'.gens)
 (hch:∀b∈ch,(b∈X.ex\/X.s₀.heap.objs.size<=b)/\b≠X.env.locals/\(∀x c,X.env.cells.lookup x=some c->c≠b) /\ ∀p∈X.pn++pins,p.1≠b):Inv X pins σ H' s':=by
 obtain ⟨h',g',d',t',o'⟩:=s';have e:o'=s.os:=ho;subst e;exact I.call (g':=g') (t':=t') (d':=d') u hok hg hch
end
abbrev XK:=Value->Option Addr->Hp->Prop
abbrev St:=List (Option V)
abbrev VK:=V->Hp->Prop
abbrev TE:=St->Hp->VK->Prop
abbrev TT:=St->Hp->(Bool->Hp->Prop)->Prop
abbrev TA:=St->Hp->(List V->Hp->Prop)->Prop
structure Ends where
 nx:St->Hp->Prop
 rt:VK
 bk:St->Hp->Prop:=fun _ _=>False
 ct:St->Hp->Prop:=fun _ _=>False
abbrev TS:=Ends->St->Hp->Prop
def EP (X:Cx) (pins:List (Addr×Obj)) (σ:St) (Q:VK) (u:Value) (s':Shared):Prop:=∃v H',Inv X pins σ H' s'/\RelV v u/\Q v H'
def TP (X:Cx) (pins:List (Addr×Obj)) (σ:St) (Q:Bool->Hp->Prop) (b:Bool) (s':Shared):Prop:=∃H',Inv X pins σ H' s'/\Q b H'
def AP (X:Cx) (pins:List (Addr×Obj)) (σ:St) (Q:List V->Hp->Prop) (us:List Value) (s':Shared):Prop:=∃vs H',Inv X pins σ H' s'/\Vals vs us/\Q vs H'
def SP (X:Cx) (pins:List (Addr×Obj)) (D:Ends) (f:Flow) (s':Shared):Prop:=
 match f with
 | .next=>∃σ' H',Inv X pins σ' H' s'/\D.nx σ' H'
 | .brk=>∃σ' H',Inv X pins σ' H' s'/\D.bk σ' H'
 | .cont=>∃σ' H',Inv X pins σ' H' s'/\D.ct σ' H'
 | .ret u=>∃v σ' H',Inv X pins σ' H' s'/\RelV v u/\D.rt v H'
def PE (X:Cx) (e:Expr) (t:TE):Prop:=
 ∀(pins:List (Addr×Obj)) (s:Shared) (σ:St) (H:Hp) (Q:VK),Inv X pins σ H s->t σ H Q->wpAny (model X.prog X.w) X.A (eval e X.env) (EP X pins σ Q) X.xe s
def PT (X:Cx) (e:Expr) (t:TT):Prop:=
 ∀(pins:List (Addr×Obj)) (s:Shared) (σ:St) (H:Hp) (Q:Bool->Hp->Prop),Inv X pins σ H s->t σ H Q->wpAny (model X.prog X.w) X.A (isTrue e X.env (eval e X.env)) (TP X pins σ Q) X.xe s
def PW (X:Cx) (e:Expr) (t:TT):Prop:=
 ∀(whole:Sem Value) (pins:List (Addr×Obj)) (s:Shared) (σ:St) (H:Hp) (Q:Bool->Hp->Prop),Inv X pins σ H s->t σ H Q->wpAny (model X.prog X.w) X.A (isTrue e X.env whole) (TP X pins σ Q) X.xe s
theorem PW.pt {X:Cx} {e:Expr} {t:TT} (h:PW X e t):PT X e t:=h _
def PA (X:Cx) (es:List Expr) (t:TA):Prop:=
 ∀(pos:Pos) (pins:List (Addr×Obj)) (s:Shared) (σ:St) (H:Hp) (Q:List V->Hp->Prop),Inv X pins σ H s->t σ H Q->wpAny (model X.prog X.w) X.A (spliced (backTo pos (starEach es X.env))) (AP X pins σ Q) X.xe s
def PS (X:Cx) (st:Stmt) (t:TS):Prop:=
 ∀(pins:List (Addr×Obj)) (s:Shared) (σ:St) (H:Hp) (D:Ends),Inv X pins σ H s->t D σ H->wpAny (model X.prog X.w) X.A (exec st X.env) (SP X pins D) X.xe s
def Ku (X:Cx) (st:List Stmt) (t:TS):Prop:=
 ∀(pins:List (Addr×Obj)) (s:Shared) (σ:St) (H:Hp) (D:Ends),Inv X pins σ H s->t D σ H->wpAny (model X.prog X.w) X.A (execs st X.env) (SP X pins D) X.xe s
theorem dj {α:Type} {t:Sem α} {Q Q':α->Shared->Prop} {M:Model} {A:Around} {E:Value->Shared->Prop} {s:Shared} (h:wpAny M A t Q E s) (hQ:∀a s,Q a s->Q' a s):wpAny M A t Q' E s:=wpAny_mono h hQ fun _ _ x=>x
end L2
namespace L2
open PySem PySem.Spec PyProof.Rows
section
variable {X:Cx}
def xH (i:Nat):TE:=fun σ H Q=>∃v,σ[i]? = some (some v)/\Q v H
def tC (v:V):TE:=fun _ H Q=>Q v H
theorem Xe {i:Nat} {x:Str} {pos:Pos} (hN:X.N[i]? = some x) (hv:Vis X.env.scope x) (hd:(x==("__debug__" :Str))=false:=by decide) (hcd:(x==("__classdict__" :Str))=false:=by decide):PE X (.Name x pos) (xH i):=by
 intro pins s σ H Q I h;obtain ⟨v,e,h⟩:=h;obtain ⟨m,hn,hl⟩:=I.loc;obtain ⟨u,r,l⟩:=hl i x v hN e hv;have fin:EP X pins σ Q u s:=⟨v,H,I,r,h⟩;rcases l with ⟨hk,hm⟩|⟨hk,c,hc,hcell⟩
 ·exact wpAny_Name (wpAny_loadName_local I.ok.kind hk hn hm fin) hd
 ·rcases hk with hk|hk
  ·exact wpAny_Name (wpAny_loadName_cell I.ok.kind hk hc hcell fin) hd
  ·exact wpAny_Name (wpAny_loadName_free I.ok.kind hk hc hcell fin hcd) hd
theorem aG {i j pos}:PE X (.Constant (.int i) j pos) (tC (.int i)):=fun _ _ _ H _ I h=>wpAny_Constant_int ⟨.int i,H,I.tok _,⟨_,rfl⟩,h⟩
theorem fj {b j pos}:PE X (.Constant (.bool b) j pos) (tC (.bl b)):=fun _ _ _ H _ I h=>Constant_bool ⟨.bl b,H,I,rfl,h⟩
theorem Hw {j pos}:PE X (.Constant .none j pos) (tC .non):=fun _ _ _ H _ I h=>Constant_none ⟨.non,H,I,rfl,h⟩
theorem cN {x j pos}:PE X (.Constant (.str x) j pos) (tC (.str x)):=fun _ _ _ H _ I h=>Calls.Constant_str ⟨.str x,H,I.tok _,⟨_,rfl⟩,h⟩
def Gl (X:Cx) (x:Str):Prop:=X.env.kindOf x=some .globalImplicit
theorem Ck {E:Value->Shared->Prop} {pins:List (Addr×Obj)} {s:Shared} {σ:St} {H:Hp} {x:Str} {u:Value} {pos:Pos} {Q:Value->Shared->Prop} (I:Inv X pins σ H s) (hg:Gl X x) (hm:X.mg x=some u) (h:Q u s)
 (hd:(x==("__debug__" :Str))=false:=by decide):wpAny (model X.prog X.w) X.A (eval (.Name x pos) X.env) Q E s:=
 Calls.Name_function_global I.ok.kind hg (Calls.loadGlobal_global (by rw [I.ok.glob];exact I.mod.glob.keeps I.bk) hm h) hd
theorem uY {E:Value->Shared->Prop} {pins:List (Addr×Obj)} {s:Shared} {σ:St} {H:Hp} {x:Str} {u:Value} {pos:Pos} {Q:Value->Shared->Prop} (I:Inv X pins σ H s) (hg:Gl X x) (hm:X.mg x=none) (hv:bootBuiltins x=some u) (h:Q u s)
 (hn:x ≠ "__name__" :=by decide) (hd:(x==("__debug__" :Str))=false:=by decide):wpAny (model X.prog X.w) X.A (eval (.Name x pos) X.env) Q E s:=by
 obtain ⟨mb,h1,h2⟩:=I.mod.blt;exact Calls.Name_function_global I.ok.kind hg (Calls.loadGlobal_builtin (by rw [I.ok.glob];exact I.mod.glob.keeps I.bk) hm (by rw [I.ok.blt];exact h1.keeps I.bk) ((h2 x hn).trans hv) h) hd
theorem tQ {x:Str} {v:V} {u:Value} {pos:Pos} (hg:Gl X x) (hm:X.mg x=some u) (r:RelV v u) (hd:(x==("__debug__" :Str))=false:=by decide):PE X (.Name x pos) (tC v):=
 fun _ _ _ H _ I h=>Ck I hg hm ⟨v,H,I,r,h⟩ hd
theorem iK {x:Str} {v:V} {u:Value} {pos:Pos} (hg:Gl X x) (hm:X.mg x=none) (hv:bootBuiltins x=some u) (r:RelV v u) (hn:x ≠ "__name__" :=by decide) (hd:(x==("__debug__" :Str))=false:=by decide):PE X (.Name x pos) (tC v):=
 fun _ _ _ H _ I h=>uY I hg hm hv ⟨v,H,I,r,h⟩ hn hd
variable {a b:Expr} {ta tb:TE} {pos:Pos}
def tB (t:TE):TT:=fun σ H Q=>t σ H fun x H1=>∃c,x = .bl c/\Q c H1
theorem fB {e:Expr} {t:TE} (h:PE X e t) (he:∀whole,isTrue e X.env whole=(do let v ←whole;standAt e.pos;holding [v] (truthy v)):=by intro _;rfl):PT X e (tB t):=by
 intro pins s σ H Q I hw;refine isTrue_plain (dj (h pins s σ H _ I hw) fun v s1 ⟨x,H1,I1,r1,q1⟩=> ?_) (he _);obtain ⟨d,rfl,q⟩:=q1;cases r1;exact wpAny_truthy_bool ⟨H1,I1,q⟩
variable {tA tB':TT} {rest:List Expr}
def ad2 (t u:TT):TT:=fun σ H Q=>t σ H fun c H1=>if c=true then u σ H1 Q else Q false H1
def tOr (t u:TT):TT:=fun σ H Q=>t σ H fun c H1=>if c=true then Q true H1 else u σ H1 Q
def adW (t:TT):TT:=fun σ H Q=>t σ H fun c H1=>Q (!c) H1
theorem wJ (ha:PT X a tA):PW X (.BoolOp .And [a] pos) tA:=by
 intro wh pins s σ H Q I h;refine isTrue_and (dj (ha pins s σ H Q I h) fun c s1 e=> ?_);cases c with
 | true=>exact isTrue_and_nil e
 | false=>exact e
theorem jg (ha:PT X a tA):PW X (.BoolOp .Or [a] pos) tA:=by
 intro wh pins s σ H Q I h;refine isTrue_or (dj (ha pins s σ H Q I h) fun c s1 e=> ?_);cases c with
 | false=>exact isTrue_or_nil e
 | true=>exact e
theorem BX (ha:PT X a tA) (hb:PW X (.BoolOp .And (b::rest) pos) tB'):PW X (.BoolOp .And (a::b::rest) pos) (ad2 tA tB'):=by
 intro wh pins s σ H Q I h;refine isTrue_and (dj (ha pins s σ H _ I h) fun c s1 ⟨H1,I1,q1⟩=> ?_);cases c with
 | true=>exact hb wh pins s1 σ H1 Q I1 q1
 | false=>exact ⟨H1,I1,q1⟩
theorem jU (ha:PT X a tA) (hb:PW X (.BoolOp .Or (b::rest) pos) tB'):PW X (.BoolOp .Or (a::b::rest) pos) (tOr tA tB'):=by
 intro wh pins s σ H Q I h;refine isTrue_or (dj (ha pins s σ H _ I h) fun c s1 ⟨H1,I1,q1⟩=> ?_);cases c with
 | true=>exact ⟨H1,I1,q1⟩
 | false=>exact hb wh pins s1 σ H1 Q I1 q1
theorem fZ (ha:PT X a tA):PT X (.UnaryOp .Not a pos) (adW tA):=by
 intro pins s σ H Q I h;exact isTrue_not (ha pins s σ H (fun c H1=>Q (!c) H1) I h)
def ZW (ta tb:TE):TE:=fun σ H Q=>ta σ H fun x H1=>∃c,x = .bl c/\if c=true then tb σ H1 Q else Q (.bl false) H1
def ZL (ta tb:TE):TE:=fun σ H Q=>ta σ H fun x H1=>∃c,x = .bl c/\if c=true then Q (.bl true) H1 else tb σ H1 Q
def ZM (ta:TE):TE:=fun σ H Q=>ta σ H fun x H1=>∃c,x = .bl c/\Q (.bl (!c)) H1
theorem pC {op} {t:TE} (h:PE X a t):PE X (.BoolOp op [a] pos) t:=fun pins s σ H Q I hw=>BoolOp_one (h pins s σ H Q I hw)
theorem rC (ha:PE X a ta) (hb:PE X (.BoolOp .And (b::rest) pos) tb):PE X (.BoolOp .And (a::b::rest) pos) (ZW ta tb):=by
 intro pins s σ H Q I h;refine BoolOp_and (dj (ha pins s σ H _ I h) fun v s1 ⟨x,H1,I1,r1,q1⟩=> ?_);obtain ⟨c,rfl,q1⟩:=q1;cases r1;refine wpAny_truthy_bool ?_;cases c with
 | true=>exact hb pins s1 σ H1 Q I1 q1
 | false=>exact ⟨.bl false,H1,I1,rfl,q1⟩
theorem Pk (ha:PE X a ta) (hb:PE X (.BoolOp .Or (b::rest) pos) tb):PE X (.BoolOp .Or (a::b::rest) pos) (ZL ta tb):=by
 intro pins s σ H Q I h;refine BoolOp_or (dj (ha pins s σ H _ I h) fun v s1 ⟨x,H1,I1,r1,q1⟩=> ?_);obtain ⟨c,rfl,q1⟩:=q1;cases r1;refine wpAny_truthy_bool ?_;cases c with
 | false=>exact hb pins s1 σ H1 Q I1 q1
 | true=>exact ⟨.bl true,H1,I1,rfl,q1⟩
theorem Pn (ha:PE X a ta):PE X (.UnaryOp .Not a pos) (ZM ta):=by
 intro pins s σ H Q I h;refine UnaryOp_ (dj (ha pins s σ H _ I h) fun v s1 ⟨x,H1,I1,r1,q1⟩=> ?_);obtain ⟨c,rfl,q1⟩:=q1;cases r1;exact not_of (wpAny_truthy_bool ⟨.bl (!c),H1,I1,rfl,q1⟩)
def tIf (t:TT) (ta tb:TE):TE:=fun σ H Q=>t σ H fun c H1=>if c=true then ta σ H1 Q else tb σ H1 Q
theorem Ed {c:Expr} (hc:PT X c tA) (ha:PE X a ta) (hb:PE X b tb):PE X (.IfExp c a b pos) (tIf tA ta tb):=by
 intro pins s σ H Q I h;refine wpAny_IfExp (dj (hc pins s σ H _ I h) fun d s1 ⟨H1,I1,q1⟩=> ?_);cases d with
 | true=>exact ha pins s1 σ H1 Q I1 q1
 | false=>exact hb pins s1 σ H1 Q I1 q1
end
end L2
namespace L2
open PySem PySem.Spec PyProof.Rows
def aV (K:PySem.W.Frag) (H:Hp) (a:Addr) (xs:List V):Prop:=
 Rd H a (.lst xs) \/
  ∃(o:Obj) (its:Array Value) (n:Nat),K.lookup a=some o/\o.cls = .type "list" /\ o.dict=none/\o.data = .seq its n/\its.size<=sizeLine/\Vals xs its.toList
def fY (K:PySem.W.Frag) (H:Hp) (a:Addr) (xs:List V):Prop:=
 Rd H a (.tup xs) \/
  ∃(o:Obj) (its:Array Value) (n:Nat),K.lookup a=some o/\o.cls = .type "tuple" /\ o.data = .seq its n/\its.size<=sizeLine/\Vals xs its.toList
def akX:Value->Option V
 | .none=>some .non
 | .bool b=>some (.bl b)
 | .int i _=>some (.int i)
 | .str x _=>some (.str x)
 | .bytes b _=>some (.Jd b)
 | .float b _=>some (.flt b)
 | .ref a=>some (.ref a)
 | .type n=>some (.ty n)
 | _=>none
theorem RelV.abs {x:V} {u:Value} (r:RelV x u):akX u=some x:=by
 cases x with
 | non=>cases r;rfl
 | bl _=>cases r;rfl
 | int _=>obtain ⟨t,rfl⟩:=r;rfl
 | str _=>obtain ⟨t,rfl⟩:=r;rfl
 | Jd _=>obtain ⟨t,rfl⟩:=r;rfl
 | flt _=>obtain ⟨t,rfl⟩:=r;rfl
 | ref _=>cases r;rfl
 | ty _=>cases r;rfl
theorem RelV.inj {x y:V} {u:Value} (r:RelV x u) (q:RelV y u):x=y:=Option.some.inj (r.abs.symm.trans q.abs)
theorem Vals.inj {xs ys:List V} {us:List Value} (h:Vals xs us) (h':Vals ys us):xs=ys:=by
 induction h generalizing ys with
 | nil=>cases h';rfl
 | cons r t ih=>cases h' with
   | cons r' t'=>rw [r.inj r',ih t']
section
variable {X:Cx} {pins:List (Addr×Obj)} {σ:St} {H:Hp} {s:Shared} {a:Addr} {xs ys:List V}
theorem aV.of {K:PySem.W.Frag} (h:H a=some (.lst xs)):aV K H a xs:= .inl (.inl h)
theorem fY.of {K:PySem.W.Frag} (h:H a=some (.tup xs)):fY K H a xs:= .inl (.inl h)
theorem Inv.list (I:Inv X pins σ H s) (h:aV X.K H a xs):∃its:List Value,Vals xs its/\PlainL s.heap a its.toArray/\xs.length<=sizeLine:=by
 rcases h with h|⟨o,its,n,hk,hc,hd,hs,hz,r⟩
 ·obtain ⟨z,its,n,r,e⟩:=h.ok I.hok
  exact ⟨its,r,⟨_,n,e,rfl,rfl,rfl⟩,z⟩
 ·refine ⟨its.toList,r,⟨o,n,I.rJ a o hk,hc,hd,by simpa using hs⟩, ?_⟩
  have e:=r.length;simp only [Array.length_toList] at e;omega
theorem Inv.tuple (I:Inv X pins σ H s) (h:fY X.K H a xs):∃its:List Value,Vals xs its/\IsTup s.heap a its.toArray/\xs.length<=sizeLine:=by
 rcases h with h|⟨o,its,n,hk,hc,hs,hz,r⟩
 ·obtain ⟨z,its,r,p⟩:=h.ok I.hok
  exact ⟨its,r,p,z⟩
 ·refine ⟨its.toList,r,⟨o,I.rJ a o hk,hc,n,by simpa using hs⟩, ?_⟩
  have e:=r.length;simp only [Array.length_toList] at e;omega
theorem Inv.yF (I:Inv X pins σ H s) (h:aV X.K H a xs) (h':aV X.K H a ys):xs=ys:=by
 obtain ⟨its,r,⟨o,n,e,_,_,d⟩,_⟩:=I.list h;obtain ⟨its',r',⟨o',n',e',_,_,d'⟩,_⟩:=I.list h';rw [e] at e';cases e';rw [d] at d';injection d' with d1 _
 have:its=its':=by simpa using congrArg Array.toList d1
 subst this;exact r.inj r'
theorem Inv.KQ (I:Inv X pins σ H s) (h:fY X.K H a xs) (h':fY X.K H a ys):xs=ys:=by
 obtain ⟨its,r,⟨o,e,_,n,d⟩,_⟩:=I.tuple h;obtain ⟨its',r',⟨o',e',_,n',d'⟩,_⟩:=I.tuple h';rw [e] at e';cases e';rw [d] at d';injection d' with d1 _
 have:its=its':=by simpa using congrArg Array.toList d1
 subst this;exact r.inj r'
end
abbrev Cx.wish (X:Cx) (E:Value->Shared->Prop):Cx:={X with xe:=E}
abbrev Cx.Zn (X:Cx):Cx:=X.wish fun _ _=>False
theorem Cx.Ok.wish {X:Cx} (ok:X.Ok) (E:Value->Shared->Prop):(X.wish E).Ok:=
 ⟨ok.mod,ok.kind,ok.glob,ok.blt,ok.above,ok.inj,ok.has,ok.cab,ok.hd,ok.frames,ok.stk,ok.exf,ok.bs,ok.M5,ok.Lw,ok.U_,ok.u9,ok.V8⟩
theorem Cx.Ok.oV {X:Cx} {E:Value->Shared->Prop} (ok:(X.wish E).Ok):X.Ok:=
 ⟨ok.mod,ok.kind,ok.glob,ok.blt,ok.above,ok.inj,ok.has,ok.cab,ok.hd,ok.frames,ok.stk,ok.exf,ok.bs,ok.M5,ok.Lw,ok.U_,ok.u9,ok.V8⟩
section
variable {X:Cx} {pins:List (Addr×Obj)} {σ:St} {H:Hp} {s:Shared} {E:Value->Shared->Prop}
theorem Inv.wish (I:Inv X pins σ H s) (E:Value->Shared->Prop):Inv (X.wish E) pins σ H s:=⟨I.ok.wish E,I.os,I.bare,I.base,I.loc,I.cell,I.free,I.mV,I.pin,I.hok,I.len⟩
theorem Inv.oV (I:Inv (X.wish E) pins σ H s):Inv X pins σ H s:=⟨I.ok.oV,I.os,I.bare,I.base,I.loc,I.cell,I.free,I.mV,I.pin,I.hok,I.len⟩
theorem SP.oV {D:Ends} {f:Flow} {s':Shared} (h:SP (X.wish E) pins D f s'):SP X pins D f s':=by
 cases f with
 | next=>obtain ⟨σ',H',I,q⟩:=h;exact ⟨σ',H',I.oV,q⟩
 | brk=>obtain ⟨σ',H',I,q⟩:=h;exact ⟨σ',H',I.oV,q⟩
 | cont=>obtain ⟨σ',H',I,q⟩:=h;exact ⟨σ',H',I.oV,q⟩
 | ret u=>obtain ⟨v,σ',H',I,r,q⟩:=h;exact ⟨v,σ',H',I.oV,r,q⟩
theorem Ku.Zn {st:List Stmt} {t:TS} (h:Ku X.Zn st t):Ku X st t:=fun pins s σ H D I hw=>
 wpAny_mono (h pins s σ H D (I.wish _) hw) (fun _ _ q=>q.oV) fun _ _ z=>False.elim z
end
section
variable {X:Cx} {st:Stmt} {rest:List Stmt} {t u:TS} {e:Expr} {te:TE} {pos:Pos}
def Ju:TS:=fun D σ H=>D.nx σ H
def Sw (t u:TS):TS:=fun D σ H=>t {D with nx:=u D} σ H
theorem bF:Ku X [] Ju:=fun _ _ σ H _ I h=>wpAny_execs_nil ⟨σ,H,I,h⟩
theorem aD (h1:PS X st t) (h2:Ku X rest u):Ku X (st::rest) (Sw t u):=by
 intro pins s σ H D I h;refine wpAny_execs_cons (dj (h1 pins s σ H {D with nx:=u D} I h) fun f s1 q=> ?_);cases f with
 | next=>
   obtain ⟨σ',H',I',q⟩:=q;exact h2 pins s1 σ' H' D I' q
 | ret v=>exact q
 | brk=>exact q
 | cont=>exact q
theorem aH (h1:PS X st t):Ku X [st] t:=by
 intro pins s σ H D I h;refine wpAny_execs_cons (dj (h1 pins s σ H D I h) fun f s1 q=> ?_);cases f with
 | next=>exact wpAny_execs_nil q
 | ret v=>exact q
 | brk=>exact q
 | cont=>exact q
theorem Inv.quiet {pins:List (Addr×Obj)} {σ:St} {H:Hp} {s:Shared} (I:Inv X pins σ H s):interactive X.env=false:=by simp [interactive,I.ok.kind]
def ZQ (te:TE):TS:=fun D σ H=>te σ H fun _ H1=>D.nx σ H1
theorem cg (he:PE X e te) (hs:swapsWith e none pos.line X.env=pure false:=by rfl):PS X (.Expr e pos) (ZQ te):=by
 intro pins s σ H D I h;exact wpAny_Expr_any (dj (he pins s σ H _ I h) fun v s1 ⟨x,H1,I1,r1,q1⟩=>⟨σ,H1,I1,q1⟩) I.quiet hs
def Sx (te:TE):TS:=fun D σ H=>te σ H D.rt
theorem bf (he:PE X e te):PS X (.Return (some e) pos) (Sx te):=by
 intro pins s σ H D I h;exact wpAny_Return_some (dj (he pins s σ H _ I h) fun v s1 ⟨x,H1,I1,r1,q1⟩=>⟨x,σ,H1,I1,r1,q1⟩)
def ZJ:TS:=fun D _ H=>D.rt .non H
theorem Tj:PS X (.Return none pos) ZJ:=fun _ _ σ H _ I h=>wpAny_Return_none ⟨.non,σ,H,I,rfl,h⟩
def ZP (c:TT) (t u:TS):TS:=fun D σ H=>c σ H fun b H1=>if b=true then t D σ H1 else u D σ H1
theorem cW {c:Expr} {a b:List Stmt} {tc:TT} (hc:PT X c tc) (ha:Ku X a t) (hb:Ku X b u):PS X (.If c a b pos) (ZP tc t u):=by
 intro pins s σ H D I h;refine wpAny_If (dj (hc pins s σ H _ I h) fun d s1 ⟨H1,I1,q1⟩=> ?_);cases d with
 | true=>exact ha pins s1 σ H1 D I1 q1
 | false=>exact hb pins s1 σ H1 D I1 q1
def Ws:TS:=fun _ _ _=>False
theorem tG:PS X st Ws:=fun _ _ _ _ _ _ h=>h.elim
end
abbrev TG:=V->St->Hp->(St->Hp->Prop)->Prop
abbrev Wi:=List V->St->Hp->(St->Hp->Prop)->Prop
def PG (X:Cx) (target:Expr) (t:TG):Prop:=
 ∀(pins:List (Addr×Obj)) (s:Shared) (σ:St) (H:Hp) (v:V) (u:Value) (Q:St->Hp->Prop),Inv X pins σ H s->RelV v u->t v σ H Q ->
  wpAny (model X.prog X.w) X.A (assign target X.env u) (fun _ s'=>∃σ' H',Inv X pins σ' H' s'/\Q σ' H') X.xe s
def PGs (X:Cx) (ts:List Expr) (t:Wi):Prop:=
 ∀(pins:List (Addr×Obj)) (s:Shared) (σ:St) (H:Hp) (vs:List V) (us:List Value) (Q:St->Hp->Prop),Inv X pins σ H s->Vals vs us->t vs σ H Q ->
  wpAny (model X.prog X.w) X.A (assignInOrder ((assignEach ts X.env).map (·.2)) us) (fun _ s'=>∃σ' H',Inv X pins σ' H' s'/\Q σ' H') X.xe s
abbrev Y7:=V->V->V->Hp->(Hp->Prop)->Prop
def ab2 (X:Cx) (t:Y7):Prop:=
 ∀(pins:List (Addr×Obj)) (s:Shared) (σ:St) (H:Hp) (o i v:V) (ov iv u:Value) (Q:Hp->Prop),Inv X pins σ H s->RelV o ov->RelV i iv->RelV v u->t o i v H Q ->
  wpAny (model X.prog X.w) X.A (setItem ov iv u) (fun _ s'=>∃H',Inv X pins σ H' s'/\Q H') X.xe s
abbrev TIp:=V->V->Hp->VK->Prop
def PIp (X:Cx) (op:Operator) (t:TIp):Prop:=
 ∀(pins:List (Addr×Obj)) (s:Shared) (σ:St) (H:Hp) (x y:V) (v u:Value) (Q:VK),Inv X pins σ H s->RelV x v->RelV y u->t x y H Q ->
  wpAny (model X.prog X.w) X.A (inplaceOp op v u) (EP X pins σ Q) X.xe s
section
variable {X:Cx} {pos:Pos}
def jz (i:Nat):TG:=fun v σ H Q=>Q (σ.set i (some v)) H
theorem aX {i:Nat} {x:Str} (hN:X.N.Nodup) (hi:X.N[i]? = some x) (hx:Loc X.env.scope x) (hf:X.fn x=true\/X.env.scope.names.lookup x=some .local:=by first |exact .inl rfl|exact .inr rfl|assumption):PG X (.Name x pos) (jz i):=by
 intro pins s σ H v u Q I r h;exact wpAny_assign_Name (xJ I hN hi hx r (fun s' I'=>⟨_,H,I',h⟩) hf)
def aaO:Wi:=fun vs σ H Q=>vs=[]/\Q σ H
def QW (t:TG) (u:Wi):Wi:=fun vs σ H Q=>∃v r,vs=v::r/\t v σ H fun σ' H'=>u r σ' H' Q
theorem tK:PGs X [] aaO:=by
 intro pins s σ H vs us Q I r h;obtain ⟨e,h⟩:=h;subst e;cases r;exact assignInOrder_nil ⟨σ,H,I,h⟩
theorem d9 {e:Expr} {es:List Expr} {t:TG} {u:Wi} (h1:PG X e t) (h2:PGs X es u)
 (hs:(assignEach (e::es) X.env).map (·.2)=assign e X.env::(assignEach es X.env).map (·.2):=by rfl):PGs X (e::es) (QW t u):=by
 intro pins s σ H vs us Q I r h;obtain ⟨v,vr,e1,h⟩:=h;subst e1;cases r with
 | cons r rr=>
   rw [hs];refine assignInOrder_cons (dj (h1 pins s σ H _ _ _ I r h) fun _ s1 ⟨σ1,H1,I1,q1⟩=> ?_);exact h2 pins s1 σ1 H1 _ _ Q I1 rr q1
def Yx (K:PySem.W.Frag) (n:Nat) (t:Wi):TG:=fun v σ H Q=>∃a xs,v = .ref a/\fY K H a xs/\xs.length=n/\t xs σ H Q
theorem Xd {es:List Expr} {k:Nat} {t:Wi} {n:Nat} (hc:X.calm=true) (h:PGs X es t)
 (hn:(assignEach es X.env).length=n:=by rfl) (hst:(assignEach es X.env).findIdx? (·.1)=none:=by rfl):PG X (.Tuple es k pos) (Yx X.K n t):=by
 intro pins s σ H v u Q I r hw;obtain ⟨a,xs,e1,hq,hl,hw⟩:=hw;subst e1;cases r;obtain ⟨its,rv,ht,hz⟩:=I.tuple hq;refine assign_Tuple_tuple (I.ok.hd hc) ht (by simp [hn,←hl,rv.length]) hst fun h' hx=> ?_;have I1:Inv X pins σ H {s with heap:=h'}:=I.kept (t':=s.toks) fun b o e=>hx b o (Nat.ne_of_lt (Heap.lt_size e)) e;exact h pins _ σ H xs _ Q I1 (by simpa using rv) hw
def aiy (to ti:TE) (t:Y7):TG:=fun v σ H Q=>to σ H fun o H1=>ti σ H1 fun i H2=>t o i v H2 fun H3=>Q σ H3
theorem uR {o i:Expr} {to ti:TE} {t:Y7} (ho:PE X o to) (hi:PE X i ti) (hs:ab2 X t)
 (ha:∀v,assign (.Subscript o i pos) X.env v=(do
   let ov ←holding [v] (eval o X.env)
   let iv ←holding [v,ov] (eval i X.env)
   standAt pos
   holding [v,ov,iv] (setItem ov iv v)
   release [v,ov,iv] []):=by intro _;rfl):PG X (.Subscript o i pos) (aiy to ti t):=by
 intro pins s σ H v u Q I r h;rw [ha];refine wpAny_bind (wpAny_holding (dj (ho pins s σ H _ I h) fun ov s1 ⟨x,H1,I1,r1,q1⟩=> ?_));refine wpAny_bind (wpAny_holding (dj (hi pins s1 σ H1 _ I1 q1) fun iv s2 ⟨y,H2,I2,r2,q2⟩=> ?_));refine wpAny_bind (wpAny_standAt (wpAny_bind (wpAny_holding (dj (hs pins s2 σ H2 x y v ov iv u _ I2 r1 r2 r q2) fun _ s3 ⟨H3,I3,q3⟩=> ?_))));exact wpAny_release ⟨σ,H3,I3,q3⟩
def SJ (te:TE) (g:TG):TS:=fun D σ H=>te σ H fun x H1=>g x σ H1 D.nx
theorem rB {tg e:Expr} {te:TE} {g:TG} (he:PE X e te) (hg:PG X tg g) (hs:swapsWithSole [tg] e pos.line X.env=pure false:=by rfl) (hw:swappedStores [tg] e X.env=pure none:=by rfl)
 (h1:(assignEach [tg] X.env).map (·.2)=[assign tg X.env]:=by rfl):PS X (.Assign [tg] e pos) (SJ te g):=by
 intro pins s σ H D I h;refine wpAny_Assign_stores (dj (he pins s σ H _ I h) fun v s1 ⟨x,H1,I1,r1,q1⟩=> ?_) hs hw;rw [h1];exact dj (hg pins s1 σ H1 x v _ I1 r1 q1) fun _ s2 q=>q
theorem bw {i:Nat} {x:Str} {e:Expr} {te:TE} {pos':Pos} (hN:X.N.Nodup) (hi:X.N[i]? = some x) (hx:Loc X.env.scope x) (he:PE X e te) (hs:swapsWith e (some (.Name x pos')) pos.line X.env=pure false:=by rfl) (hf:X.fn x=true\/X.env.scope.names.lookup x=some .local:=by first |exact .inl rfl|exact .inr rfl|assumption):
 PS X (.Assign [.Name x pos'] e pos) (SJ te (jz i)):=by
 intro pins s σ H D I h;refine wpAny_Assign_Name (dj (he pins s σ H _ I h) fun v s1 ⟨y,H1,I1,r1,q1⟩=> ?_) hs;exact xJ I1 hN hi hx r1 (fun s2 I2=>⟨_,H1,I2,q1⟩) hf
def ad1 (i:Nat) (te:TE) (ti:TIp):TS:=fun D σ H=>∃x,σ[i]? = some (some x)/\te σ H fun y H1=>ti x y H1 fun z H2=>D.nx (σ.set i (some z)) H2
theorem W9 {i:Nat} {x:Str} {e:Expr} {te:TE} {op:Operator} {ti:TIp} {pos':Pos} (hN:X.N.Nodup) (hi:X.N[i]? = some x) (hx:Loc X.env.scope x) (he:PE X e te) (ho:PIp X op ti) (hf:X.fn x=true\/X.env.scope.names.lookup x=some .local:=by first |exact .inl rfl|exact .inr rfl|assumption):
 PS X (.AugAssign (.Name x pos') op e pos) (ad1 i te ti):=by
 intro pins s σ H D I h;obtain ⟨v,e1,h⟩:=h;obtain ⟨m,hn,hl⟩:=I.loc;have vis:Vis X.env.scope x:=by rcases hx with k|k;exact .inl k;exact .inr (.inl k)
 obtain ⟨u,r,l⟩:=hl i x v hi e1 vis;refine wpAny_AugAssign_Name ?_
 have go:wpAny (model X.prog X.w) X.A (eval e X.env) (fun w s₂=>wpAny (model X.prog X.w) X.A (inplaceOp op u w) (fun r s₃=>wpAny (model X.prog X.w) X.A (storeName X.env x r) (fun _=>SP X pins D .next) X.xe s₃) X.xe s₂) X.xe s:=by
  refine dj (he pins s σ H _ I h) fun w s1 ⟨y,H1,I1,r1,q1⟩=> ?_;refine dj (ho pins s1 σ H1 v y u w _ I1 r r1 q1) fun z s2 ⟨zv,H2,I2,r2,q2⟩=> ?_;exact xJ I2 hN hi hx r2 (fun s3 I3=>⟨_,H2,I3,q2⟩) hf
 rcases l with ⟨hk,hm⟩|⟨hk,c,hc,hcell⟩
 ·exact wpAny_loadName_local I.ok.kind hk hn hm go
 ·rcases hk with hk|hk
  ·exact wpAny_loadName_cell I.ok.kind hk hc hcell go
  ·rcases hx with k|k
   ·have:X.env.scope.names.lookup x=some .free:=hk
    rw [k] at this;cases this
   ·have:X.env.scope.names.lookup x=some .free:=hk
    rw [k] at this;cases this
def ipI (f:Int->Int->Int):TIp:=fun x y H Q=>∃i j,x = .int i/\y = .int j/\Q (.int (f i j)) H
theorem Yn:PIp X .Add (ipI fun i j=>i+j):=by
 intro pins s σ H x y v u Q I r1 r2 h;obtain ⟨i,j,e1,e2,q⟩:=h;subst e1;subst e2;obtain ⟨t,rfl⟩:=r1;obtain ⟨t',rfl⟩:=r2;exact iadd_int ⟨.int _,H,I.tok _,⟨_,rfl⟩,q⟩
end
section
variable {X:Cx} {pos:Pos}
def Wr (c:TT) (tb:TS):TS:=fun D σ H=>∃W:Nat->St->Hp->Prop,(∃m,W m σ H) /\ ∀m σ H,W m σ H ->
 c σ H fun b H1=>if b=true then ∃N:St->Hp->Prop,(∀σ' H',N σ' H' -> ∃m',m'<m/\W m' σ' H')/\tb {D with nx:=N,ct:=N,bk:=D.nx} σ H1 else D.nx σ H1
theorem Pb {c:Expr} {body:List Stmt} {tc:TT} {tb:TS} (hp:PassesOwn (model X.prog X.w) X.A X.env X.xe) (hc:PT X c tc) (hb:Ku X body tb):PS X (.While c body [] pos) (Wr tc tb):=by
 intro pins s σ H D I h;obtain ⟨W,⟨m0,w0⟩,turn⟩:=h;refine wpAny_While (codeAny_whileLoop (fun n s'=>∃σ' H',Inv X pins σ' H' s'/\W n σ' H') ?_ m0 ⟨σ,H,I,w0⟩);rintro n s1 ⟨σ1,H1,I1,w1⟩;refine wpAny_passesOwn hp (dj (hc pins s1 σ1 H1 _ I1 (turn n σ1 H1 w1)) fun b s2 ⟨H2,I2,q2⟩=> ?_);cases b with
 | true=>
   obtain ⟨N,hN,q2⟩:=q2;rw [if_pos rfl];refine wpAny_passesOwn hp (dj (hb pins s2 σ1 H2 _ I2 q2) fun f s3 q3=> ?_);cases f with
   | next=>
     obtain ⟨σ3,H3,I3,n3⟩:=q3;obtain ⟨m',hm,w3⟩:=hN σ3 H3 n3;exact ⟨m',hm,σ3,H3,I3,w3⟩
   | cont=>
     obtain ⟨σ3,H3,I3,n3⟩:=q3;obtain ⟨m',hm,w3⟩:=hN σ3 H3 n3;exact ⟨m',hm,σ3,H3,I3,w3⟩
   | brk=>exact q3
   | ret v=>exact q3
 | false=>
   rw [if_neg Bool.false_ne_true];exact wpAny_execs_nil ⟨σ1,H2,I2,q2⟩
end
structure It where
 go:Nat->Hp->Prop
 Wo:Nat->Hp->V->Hp->Prop
 stop:Nat->Hp->Prop
def ou (X:Cx) (pins:List (Addr×Obj)) (H:Hp) (b:Addr):Prop:=
 H b=none/\b≠X.env.locals/\b∉X.fs/\(b∈X.ex\/X.s₀.heap.objs.size<=b)/\(∀x c,X.env.cells.lookup x=some c->c≠b) /\ ∀p∈X.pn++pins,p.1≠b
theorem Inv.zZ {X:Cx} {pins:List (Addr×Obj)} {σ:St} {H H':Hp} {s:Shared} {b:Addr} (I:Inv X pins σ H s) (hb:s.heap.objs.size<=b) (hn:H' b=none):ou X pins H' b:=by
 refine ⟨hn,Nat.ne_of_gt (Nat.lt_of_lt_of_le I.lt hb),I.agO hb,.inr (Nat.le_trans I.sz hb),fun x c e z=> ?_,fun p hp z=> ?_⟩
 ·obtain ⟨v,q⟩:=I.cell x c e
  exact absurd (Nat.lt_of_lt_of_le q.lt (by rw [z];exact hb)) (Nat.lt_irrefl _)
 ·exact absurd (Nat.lt_of_lt_of_le (Heap.lt_size (I.pin p hp).1) (by rw [z];exact hb)) (Nat.lt_irrefl _)
structure Turn (P:Program) (w:World) (K:PySem.W.Frag) (tg:Expr) (J:It) (fp:List Addr) (it:Addr) (tn:Nat->Heap->Prop):Prop where
 mem:it∈fp
 obj:∀i h,tn i h -> ∀b∈fp,∃o,h.get? b=some o /\ ∀v,o.data ≠ .cell v
 keep:∀i h h',tn i h->(∀b∈fp,∀o,h.get? b=some o->h'.get? b=some o)->tn i h'
 item:∀(X:Cx),X.prog=P->X.w=w->X.K=K->X.calm=true -> ∀(i:Nat) (pins:List (Addr×Obj)) (s:Shared) (σ:St) (H:Hp) (E:Value->Shared->Prop),Inv X pins σ H s->(∀b∈fp,ou X pins H b)->tn i s.heap->J.go i H ->
  wpAny (model P w) X.A (pyNext (.ref it)) (fun r s1=>∃u,r=some u /\
   wpAny (model P w) X.A (letOwnedTupleGo tg (.ref it) u) (fun _ s2=>∃x H',Inv X pins σ H' s2/\RelV x u/\J.Wo i H x H'/\tn (i+1) s2.heap /\ ∀b∈fp,H' b=none) E s1) E s
 done:∀(X:Cx),X.prog=P->X.w=w->X.K=K->X.calm=true -> ∀(i:Nat) (pins:List (Addr×Obj)) (s:Shared) (σ:St) (H:Hp) (E:Value->Shared->Prop),Inv X pins σ H s->(∀b∈fp,ou X pins H b)->tn i s.heap->J.stop i H ->
  wpAny (model P w) X.A (pyNext (.ref it)) (fun r s1=>r=none/\Inv X pins σ H s1) E s
 self:∀(A:Around) (i:Nat) (s:Shared) (Q:Value->Shared->Prop) (E:Value->Shared->Prop),tn i s.heap->Q (.ref it) s->wpAny (model P w) A (pyIter (.ref it)) Q E s
abbrev TI:=St->Hp->(It->Hp->Prop)->Prop
def PIE (X:Cx) (pins:List (Addr×Obj)) (σ:St) (tg:Expr) (R:It->Hp->Prop) (itv:Value) (s2:Shared):Prop:=
 ∃(it:Addr) (fp:List Addr) (tn:Nat->Heap->Prop) (J:It) (H':Hp),itv = .ref it/\Inv X pins σ H' s2/\Turn X.prog X.w X.K tg J fp it tn/\tn 0 s2.heap/\(∀b∈fp,ou X pins H' b)/\R J H'
def PI (X:Cx) (tg iter:Expr) (wi:TI):Prop:=
 ∀(pins:List (Addr×Obj)) (s:Shared) (σ:St) (H:Hp) (R:It->Hp->Prop),Inv X pins σ H s->wi σ H R ->
  wpAny (model X.prog X.w) X.A (eval iter X.env) (fun v s1=>wpAny (model X.prog X.w) X.A (pyIter v) (PIE X pins σ tg R) X.xe s1) X.xe s
theorem yL {M:Model} {A:Around} {E:Value->Shared->Prop} {s:Shared} {tg:Expr} {it:Addr} {u:Value} {o:Obj} {n:String} {vs:Array Value} {Q:Unit->Shared->Prop} (ho:s.heap.get? it=some o) (hc:o.cls = .type n) (hd:o.data = .fields vs)
 (hn:["enumerate","zip","dict_itemiterator","dict_reverseitemiterator","odict_iterator","itertools.zip_longest","itertools.pairwise"].contains n=false) (hQ:Q () s):wpAny M A (letOwnedTupleGo tg (.ref it) u) Q E s:=by
 unfold letOwnedTupleGo
 cases tg<;>first
  | exact wpAny_pure hQ
  | (cases u<;>first
      | exact wpAny_pure hQ
      | (refine wpAny_bind (wpAny_load ho ?_)
         rw [hc,hd];show wpAny M A (if (["enumerate","zip","dict_itemiterator","dict_reverseitemiterator","odict_iterator","itertools.zip_longest","itertools.pairwise"].contains n&&vs[0]? == some (rawInt _))=true then _ else _) Q E s;rw [if_neg (by intro h;rw [hn,Bool.false_and] at h;cases h)];exact wpAny_pure hQ))
def Wk (K:PySem.W.Frag) (a:Addr):It:=
 ⟨fun i H=>∃xs x,aV K H a xs/\xs[i]? = some x,fun i H x H'=>H'=H /\ ∀xs,aV K H a xs->xs[i]? = some x,fun i H=>∃xs,aV K H a xs/\xs.length<=i⟩
def Itt (K:PySem.W.Frag) (a:Addr):It:=
 ⟨fun i H=>∃xs x,fY K H a xs/\xs[i]? = some x,fun i H x H'=>H'=H /\ ∀xs,fY K H a xs->xs[i]? = some x,fun i H=>∃xs,fY K H a xs/\xs.length<=i⟩
def Wj (lo:Int) (n:Nat):It:=⟨fun i _=>i<n,fun i H x H'=>H'=H/\x = .int (lo+i),fun i _=>n<=i⟩
theorem KH {P:Program} {w:World} {K:PySem.W.Frag} {tg:Expr} (a it:Addr):Turn P w K tg (Wk K a) [it] it (fun i h=>h.IsListIter it a i) where
 mem:=by simp
 obj:=fun i h st b hb=>by
  have e:b=it:=by simpa using hb
  subst e;obtain ⟨o,e,c,d⟩:=st;exact ⟨o,e,fun v z=>by rw [d] at z;cases z⟩
 keep:=fun i h h' st k=>st.at fun o e=>k it (by simp) o e
 item:=by
  intro X hP hw hK hc i pins s σ H E I hf st hg;subst hP hw hK;obtain ⟨xs,x,hq,hx⟩:=hg;obtain ⟨its,rv,p,hz⟩:=I.list hq;obtain ⟨u,hu,ru⟩:=rv.get hx;obtain ⟨f0,f1,f2,f3,f4,f5⟩:=hf it (by simp);refine wpAny_pyNext_list_item st p.isList (x:=u) (by simpa using hu) fun h' st' sb=> ?_;have I1:Inv X pins σ H {s with heap:=h'}:=I.turned (t':=s.toks) (fun b o hb e=>(sb.2 b hb).trans e) f0 f1 f3 f4 f5;obtain ⟨o,e,c,d⟩:=id st';exact ⟨u,rfl,yL (s:={s with heap:=h'}) e c d (by decide) ⟨x,H,I1,ru,⟨rfl,fun ys hy=>by rw [I.yF hy hq];exact hx⟩,st',fun b hb=>(hf b hb).1⟩⟩
 done:=by
  intro X hP hw hK hc i pins s σ H E I hf st hg;subst hP hw hK;obtain ⟨xs,hq,hx⟩:=hg;obtain ⟨its,rv,p,hz⟩:=I.list hq;obtain ⟨f0,f1,f2,f3,f4,f5⟩:=hf it (by simp);have hl:=rv.length;exact wpAny_pyNext_list_end (I.ok.hd hc) st p.isList (by simp;omega) fun h' eb=>⟨rfl,I.turned (t':=s.toks) (fun b o hb e=>eb b o hb e) f0 f1 f3 f4 f5⟩
 self:=fun _ _ _ _ _ st h=>wpAny_pyIter_listiter st h
theorem GR {P:Program} {w:World} {K:PySem.W.Frag} {tg:Expr} (a it:Addr):Turn P w K tg (Itt K a) [it] it (fun i h=>h.IsTupleIter it a i) where
 mem:=by simp
 obj:=fun i h st b hb=>by
  have e:b=it:=by simpa using hb
  subst e;obtain ⟨o,e,c,d⟩:=st;exact ⟨o,e,fun v z=>by rw [d] at z;cases z⟩
 keep:=fun i h h' st k=>st.at fun o e=>k it (by simp) o e
 item:=by
  intro X hP hw hK hc i pins s σ H E I hf st hg;subst hP hw hK;obtain ⟨xs,x,hq,hx⟩:=hg;obtain ⟨its,rv,p,hz⟩:=I.tuple hq;obtain ⟨u,hu,ru⟩:=rv.get hx;obtain ⟨f0,f1,f2,f3,f4,f5⟩:=hf it (by simp);refine wpAny_pyNext_tuple_item st (show s.heap.IsTuple a its.toArray from p) (x:=u) (by simpa using hu) fun h' st' sb=> ?_;have I1:Inv X pins σ H {s with heap:=h'}:=I.turned (t':=s.toks) (fun b o hb e=>(sb.2 b hb).trans e) f0 f1 f3 f4 f5;obtain ⟨o,e,c,d⟩:=id st';exact ⟨u,rfl,yL (s:={s with heap:=h'}) e c d (by decide) ⟨x,H,I1,ru,⟨rfl,fun ys hy=>by rw [I.KQ hy hq];exact hx⟩,st',fun b hb=>(hf b hb).1⟩⟩
 done:=by
  intro X hP hw hK hc i pins s σ H E I hf st hg;subst hP hw hK;obtain ⟨xs,hq,hx⟩:=hg;obtain ⟨its,rv,p,hz⟩:=I.tuple hq;obtain ⟨f0,f1,f2,f3,f4,f5⟩:=hf it (by simp);have hl:=rv.length;exact wpAny_pyNext_tuple_end (I.ok.hd hc) st (show s.heap.IsTuple a its.toArray from p) (by simp;omega) fun h' eb=>⟨rfl,I.turned (t':=s.toks) (fun b o hb e=>eb b o hb e) f0 f1 f3 f4 f5⟩
 self:=fun _ _ _ _ _ st h=>wpAny_pyIter_tupleiter st h
theorem GX {P:Program} {w:World} {K:PySem.W.Frag} {tg:Expr} (it:Addr) (lo:Int) (n:Nat):Turn P w K tg (Wj lo n) [it] it (fun i h=>IsRangeIter h it (lo+(i:Nat)*1) ((n:Int) - (i:Nat)) 1) where
 mem:=by simp
 obj:=fun i h st b hb=>by
  have e:b=it:=by simpa using hb
  subst e
  exact ⟨_,st,fun v z=>by
   have z':Data.fields _=Data.cell v:=z;cases z'⟩
 keep:=fun i h h' st k=>k it (by simp) _ st
 item:=by
  intro X hP hw hK hc i pins s σ H E I hf st hg;subst hP hw hK;obtain ⟨f0,f1,f2,f3,f4,f5⟩:=hf it (by simp);have W:=Walks.range (prog:=X.prog) (w:=X.w) (I.ok.hd hc) it lo 1 n;refine W.item i s _ _ hg st fun v h' tk hv st' kk=> ?_;obtain ⟨t,rfl⟩:=hv;have I1:Inv X pins σ H {s with heap:=h',toks:=tk}:=I.turned (fun b o hb e=>kk b o (by simpa using hb) e) f0 f1 f3 f4 f5;refine ⟨_,rfl,yL (s:={s with heap:=h',toks:=tk}) (n:= "range_iterator") st' rfl rfl (by decide) ⟨.int (lo+i),H,I1,⟨t, ?_⟩,⟨rfl,rfl⟩,st',fun b hb=>(hf b hb).1⟩⟩;rw [Int.mul_one]
 done:=by
  intro X hP hw hK hc i pins s σ H E I hf st hg;subst hP hw hK;obtain ⟨f0,f1,f2,f3,f4,f5⟩:=hf it (by simp);exact wpAny_pyNext_range_end (I.ok.hd hc) st (by have:n<=i:=hg;omega) fun h' eb=>⟨rfl,I.turned (t':=s.toks) (fun b o hb e=>eb b o hb e) f0 f1 f3 f4 f5⟩
 self:=fun _ _ _ _ _ st h=>wpAny_pyIter_rangeiter st h
end L2
namespace L2
open PySem PySem.Spec PyProof.Rows
section
variable {X:Cx} {tg:Expr}
def V6 (K:PySem.W.Frag) (tl:TE):TI:=fun σ H R=>tl σ H fun x H1=>∃a,x = .ref a/\(∃xs,aV K H1 a xs)/\R (Wk K a) H1
def aaG (K:PySem.W.Frag) (tl:TE):TI:=fun σ H R=>tl σ H fun x H1=>∃a,x = .ref a/\(∃xs,fY K H1 a xs)/\R (Itt K a) H1
theorem Tt {l:Expr} {tl:TE} (hl:PE X l tl):PI X tg l (V6 X.K tl):=by
 intro pins s σ H R I h;refine dj (hl pins s σ H _ I h) fun v s1 ⟨x,H1,I1,r1,q1⟩=> ?_;obtain ⟨a,e,⟨xs,hq⟩,q⟩:=q1;subst e;cases r1;obtain ⟨its,rv,p,hz⟩:=I1.list hq;refine wpAny_pyIter_list p.isList ?_;refine ⟨s1.heap.objs.size,[s1.heap.objs.size],_,_,H1,rfl,I1.kept (t':=s1.toks) fun b o e=>Heap.get?_push_of_some _ e,KH a _,⟨_,Heap.get?_push_size _ rfl,rfl,rfl⟩,fun b hb=> ?_,q⟩;have e:b=s1.heap.objs.size:=by simpa using hb
 subst e;exact I1.zZ (Nat.le_refl _) (I1.hok.fresh (Nat.le_refl _))
theorem Xb {l:Expr} {tl:TE} (hl:PE X l tl):PI X tg l (aaG X.K tl):=by
 intro pins s σ H R I h;refine dj (hl pins s σ H _ I h) fun v s1 ⟨x,H1,I1,r1,q1⟩=> ?_;obtain ⟨a,e,⟨xs,hq⟩,q⟩:=q1;subst e;cases r1;obtain ⟨its,rv,p,hz⟩:=I1.tuple hq;refine wpAny_pyIter_tuple (show s1.heap.IsTuple a its.toArray from p) ?_;refine ⟨s1.heap.objs.size,[s1.heap.objs.size],_,_,H1,rfl,I1.kept (t':=s1.toks) fun b o e=>Heap.get?_push_of_some _ e,GR a _,⟨_,Heap.get?_push_size _ rfl,rfl,rfl⟩,fun b hb=> ?_,q⟩;have e:b=s1.heap.objs.size:=by simpa using hb
 subst e;exact I1.zZ (Nat.le_refl _) (I1.hok.fresh (Nat.le_refl _))
theorem O7 {pins:List (Addr×Obj)} {σ:St} {H:Hp} {s:Shared} {R:It->Hp->Prop} {E:Value->Shared->Prop} {lo hi:Int} {t u v:Tok} {tk:Nat} (I:Inv X pins σ H s) (h1: -(2 ^ 62)<=lo) (h2:lo<2 ^ 62) (h3: -(2 ^ 62)<=hi) (h4:hi<2 ^ 62)
 (q:R (Wj lo (hi - lo).toNat) H):wpAny (model X.prog X.w) X.A (pyIter (.ref s.heap.objs.size)) (PIE X pins σ tg R) E {s with heap:=s.heap.push {cls:= .type "range",data:= .fields #[.int lo t,.int hi u,.int 1 v]},toks:=tk}:=by
 refine wpAny_pyIter_range (IsRange.new ..) (small_one h1 h2 h3 h4) ?_;have I1:Inv X pins σ H {s with heap:=s.heap.push {cls:= .type "range",data:= .fields #[.int lo t,.int hi u,.int 1 v]},toks:=tk}:=I.kept fun b o e=>Heap.get?_push_of_some _ e
 refine ⟨(s.heap.push {cls:= .type "range",data:= .fields #[.int lo t,.int hi u,.int 1 v]}).objs.size,[(s.heap.push {cls:= .type "range",data:= .fields #[.int lo t,.int hi u,.int 1 v]}).objs.size],_,_,H,rfl,
  I1.kept (t':=tk) fun b o e=>Heap.get?_push_of_some _ e,GX _ lo (hi - lo).toNat, ?_,fun b hb=> ?_,q⟩
 ·have e1:lo+((0:Nat):Int)*1=lo:=by simp
  have e2:(((hi - lo).toNat:Nat):Int) - ((0:Nat):Int)=Builtin.Range.rangeSize lo hi 1:=by rw [rangeSize_one];split<;>omega
  show IsRangeIter _ _ (lo+((0:Nat):Int)*1) ((((hi - lo).toNat:Nat):Int) - ((0:Nat):Int)) 1;rw [e1,e2];exact Heap.get?_push_size _ rfl
 ·have e:b=(s.heap.push {cls:= .type "range",data:= .fields #[.int lo t,.int hi u,.int 1 v]}).objs.size:=by simpa using hb
  subst e;exact I1.zZ (Nat.le_refl _) (I1.hok.fresh (Nat.le_refl _))
def V5 (ta:TA):TI:=fun σ H R=>ta σ H fun vs H1=>∃j:Int,vs=[.int j] /\ -(2 ^ 62)<=j/\j<2 ^ 62/\R (Wj 0 j.toNat) H1
theorem d7 {a:Expr} {ta:TA} {p pos:Pos} (hg:Gl X "range") (hm:X.mg "range" = none) (ha:PA X [a] ta) (hs:starEach [a] X.env=[(false,eval a X.env)]:=by rfl):PI X tg (.Call (.Name "range" p) [a] [] pos) (V5 ta):=by
 intro pins s σ H R I h;refine Call_ (uY I hg hm boot_range (PyProof.Rows.callWith_type1 (dj (ha pos pins s σ H _ I h) fun us s1 ⟨vs,H1,I1,r1,q1⟩=> ?_) hs rfl));obtain ⟨j,e,q1,q2,q⟩:=q1;subst e;cases r1 with
 | cons r rr=>
   cases rr;obtain ⟨t,rfl⟩:=r;exact call_range_1 (O7 I1 (by omega) (by omega) q1 q2 (by simpa using q))
def adY (wi:TI) (g:TG) (tb:TS):TS:=fun D σ H=>wi σ H fun J H1=>∃W:Nat->Nat->St->Hp->Prop,(∃m,W 0 m σ H1) /\ ∀i m σ H,W i m σ H ->
 (J.stop i H/\D.nx σ H)\/(J.go i H /\ ∃N:St->Hp->Prop,(∀σ' H',N σ' H' -> ∃m',m'<m/\W (i+1) m' σ' H') /\ ∀x H',J.Wo i H x H'->g x σ H' fun σ2 H2=>tb {D with nx:=N,ct:=N,bk:=D.nx} σ2 H2)
def uQ (fp:List Addr) (h:Heap):List (Addr×Obj):=fp.filterMap fun b=>(h.get? b).map fun o=>(b,o)
theorem jh {fp:List Addr} {h:Heap} {b:Addr} {o:Obj} (hb:b∈fp) (e:h.get? b=some o):(b,o)∈uQ fp h:=List.mem_filterMap.mpr ⟨b,hb,by rw [e];rfl⟩
theorem Lq {fp:List Addr} {h:Heap} {p:Addr×Obj} (hp:p∈uQ fp h):p.1∈fp/\h.get? p.1=some p.2:=by
 obtain ⟨b,hb,e⟩:=List.mem_filterMap.mp hp;cases q:h.get? b with
 | none=>rw [q] at e;cases e
 | some o=>
   rw [q] at e;have e':(b,o)=p:=Option.some.inj e;subst e';exact ⟨hb,q⟩
theorem Inv.pinned {pins:List (Addr×Obj)} {σ:St} {H:Hp} {s:Shared} {fp:List Addr} (I:Inv X pins σ H s) (hf:∀b∈fp,ou X pins H b) (ho:∀b∈fp,∃o,s.heap.get? b=some o /\ ∀v,o.data ≠ .cell v):Inv X (pins++uQ fp s.heap) σ H s:=
 I.JL fun p hp=>(List.mem_append.mp hp).elim (fun z=>I.pin p (List.mem_append_right _ z)) fun z=>by
  obtain ⟨hb,e⟩:=Lq z;obtain ⟨f0,f1,f2,_⟩:=hf p.1 hb;obtain ⟨o,e',d⟩:=ho p.1 hb;rw [e] at e';cases e';exact ⟨e,f0,f1,f2,d⟩
theorem Inv.oW {pins pl:List (Addr×Obj)} {σ:St} {H:Hp} {s:Shared} (I:Inv X (pins++pl) σ H s):Inv X pins σ H s:=I.JL fun p hp=>I.pin p (List.mem_append_right _ (List.mem_append_left _ hp))
theorem gK {iter:Expr} {body:List Stmt} {wi:TI} {g:TG} {tb:TS} {pos:Pos} (hp:PassesOwn (model X.prog X.w) X.A X.env X.xe) (hc:X.calm=true) (hi:PI X tg iter wi) (hg:PG X tg g) (hb:Ku X body tb)
 (hs:∀x,foldedSetIterable iter X.env x=pure x:=by intro _;rfl):PS X (.For tg iter body [] pos) (adY wi g tb):=by
 intro pins s σ H D I h;refine wpAny_For (dj (hi pins s σ H _ I h) fun v s1 h1=>dj h1 fun itv s2 h2=> ?_) hs;obtain ⟨it,fp,tn,J,H2,e,I2,T,st2,f2,W,⟨m0,w0⟩,turn⟩:=h2;subst e;have stat:∀{H':Hp},(∀b∈fp,H' b=none) -> ∀b∈fp,ou X pins H' b:=fun hn b hb=>⟨hn b hb,(f2 b hb).2⟩;refine codeAny_forLoop_any (fun n s'=>∃i σ' H',Inv X pins σ' H' s'/\tn i s'.heap/\(∀b∈fp,H' b=none)/\W i n σ' H') ?_ m0 ⟨0,σ,H2,I2,st2,fun b hb=>(f2 b hb).1,w0⟩;rintro n s3 ⟨i,σ3,H3,I3,st3,V9,w3⟩;rcases turn i n σ3 H3 w3 with ⟨stop,qn⟩|⟨go,N,hN,step⟩
 ·refine wpAny_passesOwn hp (dj (T.done X rfl rfl rfl hc i pins s3 σ3 H3 X.xe I3 (stat V9) st3 stop) fun r s4 ⟨hr,I4⟩=> ?_)
  subst hr;exact wpAny_execs_nil ⟨σ3,H3,I4,qn⟩
 ·refine wpAny_passesOwn hp (dj (T.item X rfl rfl rfl hc i pins s3 σ3 H3 X.xe I3 (stat V9) st3 go) fun r s4 ⟨u,hr,h4⟩=> ?_)
  subst hr;refine wpAny_passesOwn hp (dj h4 fun _ s5 ⟨x,H5,I5,r5,y5,zN,R_⟩=> ?_);have I5':=I5.pinned (stat R_) (T.obj _ _ zN);refine wpAny_passesOwn hp (dj (hg _ s5 σ3 H5 x u _ I5' r5 (step x H5 y5)) fun _ s6 ⟨σ6,H6,I6,q6⟩=> ?_);refine wpAny_passesOwn hp (dj (hb _ s6 σ6 H6 _ I6 q6) fun f s7 q7=> ?_)
  have again:∀{σ7:St} {H7:Hp},Inv X (pins++uQ fp s5.heap) σ7 H7 s7->N σ7 H7 -> ∃m,m<n /\ ∃i σ' H',Inv X pins σ' H' s7/\tn i s7.heap/\(∀b∈fp,H' b=none)/\W i m σ' H':=fun {σ7 H7} I7 n7=>by
   obtain ⟨m',hm,w7⟩:=hN σ7 H7 n7;refine ⟨m',hm,i+1,σ7,H7,I7.oW,T.keep _ _ _ zN fun b hb o e=>(I7.pin (b,o) (List.mem_append_right _ (List.mem_append_right _ (jh hb e)))).1,fun b hb=> ?_,w7⟩;obtain ⟨o,e,d⟩:=T.obj _ _ zN b hb;exact (I7.pin (b,o) (List.mem_append_right _ (List.mem_append_right _ (jh hb e)))).2.1
  cases f with
  | next=>obtain ⟨σ7,H7,I7,n7⟩:=q7;exact again I7 n7
  | cont=>obtain ⟨σ7,H7,I7,n7⟩:=q7;exact again I7 n7
  | brk=>obtain ⟨σ7,H7,I7,q7⟩:=q7;exact ⟨σ7,H7,I7.oW,q7⟩
  | ret v=>obtain ⟨x7,σ7,H7,I7,r7,q7⟩:=q7;exact ⟨x7,σ7,H7,I7.oW,r7,q7⟩
end
theorem jA {K:PySem.W.Frag} {a:Addr} {xs:List V} {g:TG} {tb:TS} {D:Ends} {σ:St} {H:Hp} (Pv:Nat->St->Hp->Prop) (h0:Pv 0 σ H) (hl:∀i σ H,i<=xs.length->Pv i σ H->aV K H a xs)
 (hs:∀i x σ H,xs[i]? = some x->Pv i σ H->g x σ H fun σ2 H2=>tb {D with nx:=Pv (i+1),ct:=Pv (i+1),bk:=D.nx} σ2 H2) (hd:∀σ H,Pv xs.length σ H->D.nx σ H):
 ∃W:Nat->Nat->St->Hp->Prop,(∃m,W 0 m σ H) /\ ∀i m σ H,W i m σ H ->
  ((Wk K a).stop i H/\D.nx σ H)\/((Wk K a).go i H /\ ∃N:St->Hp->Prop,(∀σ' H',N σ' H' -> ∃m',m'<m/\W (i+1) m' σ' H') /\ ∀x H',(Wk K a).Wo i H x H'->g x σ H' fun σ2 H2=>tb {D with nx:=N,ct:=N,bk:=D.nx} σ2 H2):=by
 refine ⟨fun i m σ H=>m=xs.length - i/\i<=xs.length/\Pv i σ H,⟨xs.length,by simp,Nat.zero_le _,h0⟩, ?_⟩;rintro i m σ H ⟨rfl,hi,p⟩;have q:=hl i σ H hi p
 by_cases hlt:i<xs.length
 ·refine .inr ⟨⟨xs,xs[i],q,by simp [hlt]⟩,Pv (i+1),fun σ' H' p'=>⟨xs.length - (i+1),by omega,rfl,hlt,p'⟩,fun x H' y=> ?_⟩
  obtain ⟨e,y⟩:=y;subst e;exact hs i x σ _ (y xs q) p
 ·have e:i=xs.length:=by omega
  subst e;exact .inl ⟨⟨xs,q,Nat.le_refl _⟩,hd σ H p⟩
theorem mW {lo:Int} {n:Nat} {g:TG} {tb:TS} {D:Ends} {σ:St} {H:Hp} (Pv:Nat->St->Hp->Prop) (h0:Pv 0 σ H)
 (hs:∀i σ H,i<n->Pv i σ H->g (.int (lo+i)) σ H fun σ2 H2=>tb {D with nx:=Pv (i+1),ct:=Pv (i+1),bk:=D.nx} σ2 H2) (hd:∀σ H,Pv n σ H->D.nx σ H):
 ∃W:Nat->Nat->St->Hp->Prop,(∃m,W 0 m σ H) /\ ∀i m σ H,W i m σ H ->
  ((Wj lo n).stop i H/\D.nx σ H)\/((Wj lo n).go i H /\ ∃N:St->Hp->Prop,(∀σ' H',N σ' H' -> ∃m',m'<m/\W (i+1) m' σ' H') /\ ∀x H',(Wj lo n).Wo i H x H'->g x σ H' fun σ2 H2=>tb {D with nx:=N,ct:=N,bk:=D.nx} σ2 H2):=by
 refine ⟨fun i m σ H=>m=n - i/\i<=n/\Pv i σ H,⟨n,by simp,Nat.zero_le _,h0⟩, ?_⟩;rintro i m σ H ⟨rfl,hi,p⟩
 by_cases hlt:i<n
 ·refine .inr ⟨hlt,Pv (i+1),fun σ' H' p'=>⟨n - (i+1),by omega,rfl,hlt,p'⟩,fun x H' y=> ?_⟩
  obtain ⟨e,y⟩:=y;subst e y;exact hs i σ _ hlt p
 ·have e:i=n:=by omega
  subst e;exact .inl ⟨Nat.le_refl _,hd σ H p⟩
end L2
namespace L2
open PySem PySem.Spec PyProof.Rows
abbrev R2:=V->V->Hp->VK->Prop
def oh (X:Cx) (f:Value->Value->Sem Value) (r:R2):Prop:=
 ∀(pins:List (Addr×Obj)) (s:Shared) (σ:St) (H:Hp) (x y:V) (v u:Value) (Q:VK),Inv X pins σ H s->RelV x v->RelV y u->r x y H Q ->
  wpAny (model X.prog X.w) X.A (f v u) (EP X pins σ Q) X.xe s
def UnR (X:Cx) (f:Value->Sem Value) (r:V->Hp->VK->Prop):Prop:=
 ∀(pins:List (Addr×Obj)) (s:Shared) (σ:St) (H:Hp) (x:V) (v:Value) (Q:VK),Inv X pins σ H s->RelV x v->r x H Q ->
  wpAny (model X.prog X.w) X.A (f v) (EP X pins σ Q) X.xe s
def iZ (X:Cx) (f:Value) (r:List V->Hp->VK->Prop):Prop:=
 ∀(pins:List (Addr×Obj)) (s:Shared) (σ:St) (H:Hp) (xs:List V) (us:List Value) (Q:VK),Inv X pins σ H s->Vals xs us->r xs H Q ->
  wpAny (model X.prog X.w) X.A (call f us) (EP X pins σ Q) X.xe s
def ak0 (X:Cx) (r:V->Hp->(Bool->Hp->Prop)->Prop):Prop:=
 ∀(pins:List (Addr×Obj)) (s:Shared) (σ:St) (H:Hp) (x:V) (v:Value) (Q:Bool->Hp->Prop),Inv X pins σ H s->RelV x v->r x H Q ->
  wpAny (model X.prog X.w) X.A (truthy v) (TP X pins σ Q) X.xe s
def Jt (r:R2) (ta tb:TE):TE:=fun σ H Q=>ta σ H fun x H1=>tb σ H1 fun y H2=>r x y H2 Q
def tUn (r:V->Hp->VK->Prop) (ta:TE):TE:=fun σ H Q=>ta σ H fun x H1=>r x H1 Q
def rI (C:Int->Int->Prop) (g:Int->Int->V):R2:=fun x y H Q=>∃i j,x = .int i/\y = .int j/\C i j/\Q (g i j) H
def W3 (g:Int->Int->V):R2:=fun x y H Q=>∃i j,x = .int i/\y = .int j/\Q (g i j) H
def rU (g:Int->V):V->Hp->VK->Prop:=fun x H Q=>∃i,x = .int i/\Q (g i) H
section
variable {X:Cx} {a b c:Expr} {ta tb tc:TE} {pos:Pos}
theorem Y0 (ha:PE X a ta) (hb:PE X b tb) {pins:List (Addr×Obj)} {s:Shared} {σ:St} {H:Hp} {R:V->V->Hp->Prop} (I:Inv X pins σ H s)
 (h:ta σ H fun x H1=>tb σ H1 fun y H2=>R x y H2) {Q:Value->Shared->Prop} {f:Value->Value->Sem Value}
 (hf:∀v u s2 x y H2,Inv X pins σ H2 s2->RelV x v->RelV y u->R x y H2->wpAny (model X.prog X.w) X.A (f v u) Q X.xe s2):
 wpAny (model X.prog X.w) X.A (eval a X.env) (fun v s₁=>wpAny (model X.prog X.w) X.A (eval b X.env) (fun u s₂=>wpAny (model X.prog X.w) X.A (f v u) Q X.xe s₂) X.xe s₁) X.xe s:=by
 refine dj (ha pins s σ H _ I h) fun v s1 ⟨x,H1,I1,r1,q1⟩=> ?_;refine dj (hb pins s1 σ H1 _ I1 q1) fun u s2 ⟨y,H2,I2,r2,q2⟩=> ?_;exact hf v u s2 x y H2 I2 r1 r2 q2
theorem bC {op:Operator} {r:R2} (ho:oh X (binaryOp op) r) (ha:PE X a ta) (hb:PE X b tb):PE X (.BinOp a op b pos) (Jt r ta tb):=by
 intro pins s σ H Q I h;exact wpAny_BinOp (Y0 ha hb I h fun v u s2 x y H2 I2 rx ry q=>ho pins s2 σ H2 x y v u Q I2 rx ry q)
theorem yj {op:UnaryOp} {r:V->Hp->VK->Prop} (ho:UnR X (unaryOp op) r) (ha:PE X a ta):PE X (.UnaryOp op a pos) (tUn r ta):=by
 intro pins s σ H Q I h;exact UnaryOp_ (dj (ha pins s σ H _ I h) fun v s1 ⟨x,H1,I1,r1,q1⟩=>ho pins s1 σ H1 x v Q I1 r1 q1)
theorem opI {f:Value->Value->Sem Value} {C:Int->Int->Prop} {g:Int->Int->Int}
 (rule:∀(i j:Int) (t u:Tok) (s:Shared) (Q:Value->Shared->Prop) (E:Value->Shared->Prop),C i j->Q (.int (g i j) s.toks) {s with toks:=s.toks+1}->wpAny (model X.prog X.w) X.A (f (.int i t) (.int j u)) Q E s):
 oh X f (rI C fun i j=> .int (g i j)):=by
 intro pins s σ H x y v u Q I rx ry h;obtain ⟨i,j,rfl,rfl,hc,q⟩:=h;obtain ⟨t,rfl⟩:=rx;obtain ⟨t',rfl⟩:=ry;exact rule i j t t' s _ _ hc ⟨.int (g i j),H,I.tok _,⟨_,rfl⟩,q⟩
theorem aal {f:Value->Value->Sem Value} {g:Int->Int->Int}
 (rule:∀(i j:Int) (t u:Tok) (s:Shared) (Q:Value->Shared->Prop) (E:Value->Shared->Prop),Q (.int (g i j) s.toks) {s with toks:=s.toks+1}->wpAny (model X.prog X.w) X.A (f (.int i t) (.int j u)) Q E s):
 oh X f (W3 fun i j=> .int (g i j)):=by
 intro pins s σ H x y v u Q I rx ry h;obtain ⟨i,j,rfl,rfl,q⟩:=h;obtain ⟨t,rfl⟩:=rx;obtain ⟨t',rfl⟩:=ry;exact rule i j t t' s _ _ ⟨.int (g i j),H,I.tok _,⟨_,rfl⟩,q⟩
theorem Xn {f:Value->Value->Sem Value} {g:Int->Int->Bool}
 (rule:∀(i j:Int) (t u:Tok) (s:Shared) (Q:Value->Shared->Prop) (E:Value->Shared->Prop),Q (.bool (g i j)) s->wpAny (model X.prog X.w) X.A (f (.int i t) (.int j u)) Q E s):
 oh X f (W3 fun i j=> .bl (g i j)):=by
 intro pins s σ H x y v u Q I rx ry h;obtain ⟨i,j,rfl,rfl,q⟩:=h;obtain ⟨t,rfl⟩:=rx;obtain ⟨t',rfl⟩:=ry;exact rule i j t t' s _ _ ⟨.bl (g i j),H,I,rfl,q⟩
def Nm (i j:Int):Prop:=0<j/\j<1073741824
def Zc (i j:Int):Prop:=0<=j/\j<=1000000/\i.natAbs<2 ^ 64
def Zd (i j:Int):Prop:=(-(2 ^ 64)<i/\i<2 ^ 64)\/(-(2 ^ 64)<j/\j<2 ^ 64)
theorem Zd.ok {i j:Int} (h:Zd i j):IntMulOk i j:=by
 rcases h with ⟨h1,h2⟩|⟨h1,h2⟩
 ·exact .of_left (intBits_le_64 h1 h2)
 ·exact .of_right (intBits_le_64 h1 h2)
theorem gb:oh X (binaryOp .Add) (W3 fun i j=> .int (i+j)):=aal fun _ _ _ _ _ _ _ q=>add_int q
theorem Hx:oh X (binaryOp .Sub) (W3 fun i j=> .int (i - j)):=aal fun _ _ _ _ _ _ _ q=>sub_int q
theorem pG:oh X (binaryOp .Mult) (rI Zd fun i j=> .int (i*j)):=opI fun _ _ _ _ _ _ _ hc q=>mul_int q hc.ok
theorem tR:oh X (binaryOp .FloorDiv) (rI Nm fun i j=> .int (i / j)):=opI fun i j _ _ _ _ _ hc q=>by
 have h1:(0:Int)<j:=hc.1;have h2:j<1073741824:=hc.2;exact floordiv_int (by omega) (by rw [Int.fdiv_eq_ediv_of_nonneg i (by omega)];exact q) (.inl (PyProof.noPylong_small (by omega)))
theorem lq:oh X (binaryOp .Mod) (rI (fun _ j=>0<j) fun i j=> .int (i % j)):=opI fun i j _ _ _ _ _ hc q=>by
 have h1:(0:Int)<j:=hc;exact mod_int' (by omega) (by rw [Int.fmod_eq_emod_of_nonneg i (by omega)];exact q)
theorem Pu:oh X (binaryOp .Pow) (rI Zc fun i j=> .int (i ^ j.toNat)):=opI fun _ _ _ _ _ _ _ hc q=>pow_int_small hc.1 hc.2.1 hc.2.2 q
theorem unI {f:Value->Sem Value} {g:Int->Int}
 (rule:∀(i:Int) (t:Tok) (s:Shared) (Q:Value->Shared->Prop) (E:Value->Shared->Prop),Q (.int (g i) s.toks) {s with toks:=s.toks+1}->wpAny (model X.prog X.w) X.A (f (.int i t)) Q E s):
 UnR X f (rU fun i=> .int (g i)):=by
 intro pins s σ H x v Q I rx h;obtain ⟨i,rfl,q⟩:=h;obtain ⟨t,rfl⟩:=rx;exact rule i t s _ _ ⟨.int (g i),H,I.tok _,⟨_,rfl⟩,q⟩
theorem qY:UnR X (unaryOp .USub) (rU fun i=> .int (-i)):=unI fun _ _ _ _ _ q=>neg_int q
end
def ZX:V->V->Bool
 | .non,.non=>true | .non,.int _=>true | .int _,.non=>true | .non,.bl _=>true | .bl _,.non=>true | .non,.str _=>true | .str _,.non=>true
 | .int _,.int _=>true | .bl _,.bl _=>true | .str _,.str _=>true | .Jd _,.Jd _=>true
 | .int _,.str _=>true | .str _,.int _=>true | .bl _,.str _=>true | .str _,.bl _=>true
 | _,_=>false
def rEq:R2:=fun x y H Q=>ZX x y=true/\Q (.bl (decide (x=y))) H
def rNe:R2:=fun x y H Q=>ZX x y=true/\Q (.bl (!decide (x=y))) H
theorem Kc {i j:Int}:decide (V.int i=V.int j)=(i==j):=by
 rw [Bool.eq_iff_iff];simp
theorem Q7 {i j:Bool}:decide (V.bl i=V.bl j)=(i==j):=by
 rw [Bool.eq_iff_iff];simp
theorem Ka {i j:Str}:decide (V.str i=V.str j)=(i==j):=by
 rw [Bool.eq_iff_iff];simp
theorem Kd {i j:Array UInt8}:decide (V.Jd i=V.Jd j)=(i.toList==j.toList):=by
 rw [Bool.eq_iff_iff];cases i;cases j;simp
section
variable {X:Cx} {a b c:Expr} {ta tb tc:TE} {pos:Pos}
theorem cA {pins:List (Addr×Obj)} {σ:St} {H:Hp} {s:Shared} {Q:VK} {k k':Bool} (I:Inv X pins σ H s) (q:Q (.bl k) H) (e:k=k'):EP X pins σ Q (.bool k') s:=by
 subst e;exact ⟨.bl k,H,I,rfl,q⟩
theorem jV:oh X (compareOp .Eq) rEq:=by
 intro pins s σ H x y v u Q I rx ry h;obtain ⟨hs,q⟩:=h;cases x with
 | non=>
   cases rx;cases y with
   | non=>cases ry;exact PySem.EqNone.eq_none_none (cA I q (by simp))
   | bl j=>cases ry;exact PySem.EqNone.eq_none_bool (cA I q (by simp))
   | int j=>obtain ⟨t',rfl⟩:=ry;exact PySem.EqNone.eq_none_int (cA I q (by simp))
   | str j=>obtain ⟨t',rfl⟩:=ry;exact PySem.EqNone.eq_none_str (cA I q (by simp))
   | _=>exact absurd (show false=true from hs) Bool.false_ne_true
 | bl i=>
   cases rx;cases y with
   | non=>cases ry;exact PySem.EqNone.eq_bool_none (cA I q (by simp))
   | bl j=>cases ry;exact eq_bool (cA I q Q7)
   | str j=>obtain ⟨t',rfl⟩:=ry;exact PySem.EqMixed.eq_bool_str (cA I q (by simp))
   | _=>exact absurd (show false=true from hs) Bool.false_ne_true
 | int i=>
   obtain ⟨t,rfl⟩:=rx;cases y with
   | non=>cases ry;exact PySem.EqNone.eq_int_none (cA I q (by simp))
   | int j=>obtain ⟨t',rfl⟩:=ry;exact eq_int (cA I q Kc)
   | str j=>obtain ⟨t',rfl⟩:=ry;exact PySem.EqMixed.eq_int_str (cA I q (by simp))
   | _=>exact absurd (show false=true from hs) Bool.false_ne_true
 | str i=>
   obtain ⟨t,rfl⟩:=rx;cases y with
   | non=>cases ry;exact PySem.EqNone.eq_str_none (cA I q (by simp))
   | bl j=>cases ry;exact PySem.EqMixed.eq_str_bool (cA I q (by simp))
   | int j=>obtain ⟨t',rfl⟩:=ry;exact PySem.EqMixed.eq_str_int (cA I q (by simp))
   | str j=>obtain ⟨t',rfl⟩:=ry;exact eq_str (cA I q Ka)
   | _=>exact absurd (show false=true from hs) Bool.false_ne_true
 | Jd i=>
   obtain ⟨t,rfl⟩:=rx;cases y with
   | Jd j=>obtain ⟨t',rfl⟩:=ry;exact PySem.W.eq_bytes (cA I q Kd)
   | _=>exact absurd (show false=true from hs) Bool.false_ne_true
 | _=>cases y<;>exact absurd (show false=true from hs) Bool.false_ne_true
theorem k_:oh X (compareOp .NotEq) rNe:=by
 intro pins s σ H x y v u Q I rx ry h;obtain ⟨hs,q⟩:=h;cases x with
 | non=>
   cases rx;cases y with
   | non=>cases ry;exact PySem.EqNone.ne_none_none (cA I q (by simp))
   | bl j=>cases ry;exact PySem.EqNone.ne_none_bool (cA I q (by simp))
   | int j=>obtain ⟨t',rfl⟩:=ry;exact PySem.EqNone.ne_none_int (cA I q (by simp))
   | str j=>obtain ⟨t',rfl⟩:=ry;exact PySem.EqNone.ne_none_str (cA I q (by simp))
   | _=>exact absurd (show false=true from hs) Bool.false_ne_true
 | bl i=>
   cases rx;cases y with
   | non=>cases ry;exact PySem.EqNone.ne_bool_none (cA I q (by simp))
   | bl j=>cases ry;exact ne_bool (cA I q (congrArg not Q7))
   | str j=>obtain ⟨t',rfl⟩:=ry;exact PySem.EqMixed.ne_bool_str (cA I q (by simp))
   | _=>exact absurd (show false=true from hs) Bool.false_ne_true
 | int i=>
   obtain ⟨t,rfl⟩:=rx;cases y with
   | non=>cases ry;exact PySem.EqNone.ne_int_none (cA I q (by simp))
   | int j=>obtain ⟨t',rfl⟩:=ry;exact ne_int (cA I q (congrArg not Kc))
   | str j=>obtain ⟨t',rfl⟩:=ry;exact PySem.EqMixed.ne_int_str (cA I q (by simp))
   | _=>exact absurd (show false=true from hs) Bool.false_ne_true
 | str i=>
   obtain ⟨t,rfl⟩:=rx;cases y with
   | non=>cases ry;exact PySem.EqNone.ne_str_none (cA I q (by simp))
   | bl j=>cases ry;exact PySem.EqMixed.ne_str_bool (cA I q (by simp))
   | int j=>obtain ⟨t',rfl⟩:=ry;exact PySem.EqMixed.ne_str_int (cA I q (by simp))
   | str j=>obtain ⟨t',rfl⟩:=ry;exact ne_str (cA I q (congrArg not Ka))
   | _=>exact absurd (show false=true from hs) Bool.false_ne_true
 | Jd i=>
   obtain ⟨t,rfl⟩:=rx;cases y with
   | Jd j=>obtain ⟨t',rfl⟩:=ry;exact PySem.W.ne_bytes (cA I q (congrArg not Kd))
   | _=>exact absurd (show false=true from hs) Bool.false_ne_true
 | _=>cases y<;>exact absurd (show false=true from hs) Bool.false_ne_true
theorem vI:oh X (compareOp .Lt) (W3 fun i j=> .bl (decide (i<j))):=Xn fun _ _ _ _ _ _ _ q=>lt_int q
theorem Py:oh X (compareOp .LtE) (W3 fun i j=> .bl (decide (i<=j))):=Xn fun _ _ _ _ _ _ _ q=>le_int q
theorem VP:oh X (compareOp .GtE) (W3 fun i j=> .bl (decide (j<=i))):=Xn fun _ _ _ _ _ _ _ q=>ge_int q
theorem Pz:oh X (compareOp .Is) (fun x y H Q=>y = .non/\Q (.bl (decide (x = .non))) H):=by
 intro pins s σ H x y v u Q I rx ry h;obtain ⟨rfl,q⟩:=h;cases ry;refine is_none_gen (cA I q ?_)
 cases x<;>first
  | (cases rx;rfl)
  | (obtain ⟨t,rfl⟩:=rx;rfl)
def isObj:HO->Bool
 | .lst _=>true
 | .ins _ _ _=>true
 | _=>false
theorem bx (b:Expr) {op:CmpOp} (h:op ≠ .In:=by decide) (h2:op ≠ .NotIn:=by decide):behindInMarks op b=false:=by
 have e1:(op==CmpOp.In)=false:=by cases op<;>first |rfl|exact absurd rfl h
 have e2:(op==CmpOp.NotIn)=false:=by cases op<;>first |rfl|exact absurd rfl h2
 cases b<;>simp [behindInMarks,e1,e2]
theorem eX {op:CmpOp} {r:R2} (ho:oh X (compareOp op) r) (ha:PE X a ta) (hb:PE X b tb) (hm:behindInMarks op b=false):PE X (.Compare a [op] [b] pos) (Jt r ta tb):=by
 intro pins s σ H Q I h;exact wpAny_Compare1 (Y0 ha hb I h fun v u s2 x y H2 I2 rx ry q=>ho pins s2 σ H2 x y v u Q I2 rx ry q) hm
def Js (t:TE):TT:=fun σ H Q=>t σ H fun x H'=>∃k,x = .bl k/\Q k H'
theorem bB {op:CmpOp} {r:R2} (ho:oh X (compareOp op) r) (ha:PE X a ta) (hb:PE X b tb) (hm:behindInMarks op b=false):PT X (.Compare a [op] [b] pos) (Js (Jt r ta tb)):=by
 intro pins s σ H Q I h
 refine wpAny_isTrue_Compare1 (dj (ha pins s σ H _ I h) fun v s1 ⟨x,H1,I1,r1,q1⟩=>dj (hb pins s1 σ H1 _ I1 q1) fun u s2 ⟨y,H2,I2,r2,q2⟩=>
  dj (ho pins s2 σ H2 x y v u _ I2 r1 r2 q2) fun c s3 ⟨z,H3,I3,r3,k,e,q3⟩=> ?_) hm
 subst e;cases r3;exact wpAny_truthy_bool ⟨H3,I3,q3⟩
def Oq (r r':R2) (ta tb tc:TE):TE:=fun σ H Q=>ta σ H fun x H1=>tb σ H1 fun y H2=>r x y H2 fun z H3=>∃k,z = .bl k /\
 (if k=true then tc σ H3 fun w' H4=>r' y w' H4 Q else Q (.bl false) H3)
theorem Pr {op op':CmpOp} {r r':R2} (ho:oh X (compareOp op) r) (ho':oh X (compareOp op') r') (ha:PE X a ta) (hb:PE X b tb) (hc:PE X c tc)
 (hm:lastMarks [op,op'] [b,c]=false:=by with_unfolding_all rfl):PE X (.Compare a [op,op'] [b,c] pos) (Oq r r' ta tb tc):=by
 intro pins s σ H Q I h
 refine Compare_chain (dj (ha pins s σ H _ I h) fun v s1 ⟨x,H1,I1,r1,q1⟩=>chain_link (dj (hb pins s1 σ H1 _ I1 q1) fun u s2 ⟨y,H2,I2,r2,q2⟩=>
  dj (ho pins s2 σ H2 x y v u _ I2 r1 r2 q2) fun d s3 ⟨z,H3,I3,r3,k,e,q3⟩=> ?_)) hm
 subst e;cases r3;refine wpAny_truthy_bool ?_;cases k with
 | false=>exact ite_ff ⟨.bl false,H3,I3,rfl,q3⟩
 | true=>exact ite_tt (chain_last (dj (hc pins s3 σ H3 _ I3 q3) fun w' s4 ⟨z',H4,I4,r4,q4⟩=>ho' pins s4 σ H4 y z' u w' Q I4 r2 r4 q4))
theorem Pa {op op':CmpOp} {r r':R2} (ho:oh X (compareOp op) r) (ho':oh X (compareOp op') r') (ha:PE X a ta) (hb:PE X b tb) (hc:PE X c tc)
 (hm:lastMarks [op,op'] [b,c]=false:=by with_unfolding_all rfl):PT X (.Compare a [op,op'] [b,c] pos) (Js (Oq r r' ta tb tc)):=by
 intro pins s σ H Q I h
 refine isTrue_chain (dj (ha pins s σ H _ I h) fun v s1 ⟨x,H1,I1,r1,q1⟩=>test_link (dj (hb pins s1 σ H1 _ I1 q1) fun u s2 ⟨y,H2,I2,r2,q2⟩=>
  dj (ho pins s2 σ H2 x y v u _ I2 r1 r2 q2) fun d s3 ⟨z,H3,I3,r3,k,e,q3⟩=> ?_)) hm
 subst e;cases r3;refine wpAny_truthy_bool ?_;cases k with
 | false=>
   obtain ⟨k',e',q'⟩:=q3;cases e';exact ite_ff ⟨H3,I3,q'⟩
 | true=>
   refine ite_tt (test_last (dj (hc pins s3 σ H3 _ I3 q3) fun w' s4 ⟨z',H4,I4,r4,q4⟩=>dj (ho' pins s4 σ H4 y z' u w' _ I4 r2 r4 q4) fun d' s5 ⟨z2,H5,I5,r5,k2,e2,q5⟩=> ?_));subst e2;cases r5;exact wpAny_truthy_bool ⟨H5,I5,q5⟩
def Y6 (K:PySem.W.Frag) (x:V) (H:Hp) (k:Bool):Prop:=
 match x with
 | .non=>k=false
 | .bl b=>k=b
 | .int i=>k=(i != 0)
 | .str y=>y.length<=sizeLine/\k=((y.length:Int) != 0)
 | .Jd y=>y.size<=sizeLine/\k=((y.size:Int) != 0)
 | .ref p=>(∃xs,aV K H p xs/\k = !xs.isEmpty)\/(∃xs,fY K H p xs/\k = !xs.isEmpty) \/ ∃kvs,H p=some (.dK kvs)/\k = !kvs.isEmpty
 | _=>False
theorem Io {κ:Type} {kvs:List (κ×V)} {vs:List (κ×Value)} (r:KV kvs vs):(!vs.isEmpty) = !kvs.isEmpty:=by
 cases r<;>rfl
theorem yH {xs:List V} {its:List Value} (r:Vals xs its):(!its.toArray.isEmpty) = !xs.isEmpty:=by
 cases r<;>simp
theorem uX:(sizeLine:Nat)<2 ^ 63:=by rw [sizeLine_eq];decide
theorem Wq:ak0 X (fun x H Q=>∃k,Y6 X.K x H k/\Q k H):=by
 intro pins s σ H x v Q I rx h;obtain ⟨k,e,q⟩:=h;have hl:=uX;have hs:sizeLine=16777216:=sizeLine_eq;cases x with
 | non=>
   cases rx;have e':k=false:=e;subst e';exact truthy_none ⟨H,I,q⟩
 | bl b=>
   cases rx;have e':k=b:=e;subst e';exact wpAny_truthy_bool ⟨H,I,q⟩
 | int i=>
   obtain ⟨t,rfl⟩:=rx;have e':k=(i != 0):=e;subst e';exact PySem.P.truthy_int ⟨H,I,q⟩
 | str y=>
   obtain ⟨t,rfl⟩:=rx;obtain ⟨hy,e'⟩:y.length<=sizeLine/\k=((y.length:Int) != 0):=e;subst e';exact PySem.P.truthy_str (by omega) ⟨H,I.tok _,q⟩
 | Jd y=>
   obtain ⟨t,rfl⟩:=rx;obtain ⟨hy,e'⟩:y.size<=sizeLine/\k=((y.size:Int) != 0):=e;subst e';exact PySem.W.truthy_bytes (by omega) ⟨H,I.tok _,q⟩
 | ref p=>
   cases rx;have e':(∃xs,aV X.K H p xs/\k = !xs.isEmpty)\/(∃xs,fY X.K H p xs/\k = !xs.isEmpty) \/ ∃kvs,H p=some (.dK kvs)/\k = !kvs.isEmpty:=e;rcases e' with ⟨xs,hx,e'⟩|⟨xs,hx,e'⟩|⟨kvs,hx,e'⟩
   ·subst e'
    obtain ⟨its,r,pl,hz⟩:=I.list hx;have hlen:=r.length;exact wpAny_truthy_list pl.isList (by simp only [List.size_toArray];omega) ⟨H,I.tok _,by rw [yH r];exact q⟩
   ·subst e'
    obtain ⟨its,r,pl,hz⟩:=I.tuple hx;have hlen:=r.length;exact truthy_tuple pl (by simp only [List.size_toArray];omega) ⟨H,I.tok _,by rw [yH r];exact q⟩
   ·subst e'
    obtain ⟨hz,hS,vs,r,m⟩:kvs.length<=sizeLine/\(p==sysModules)=false /\ ∃vs,KV kvs vs/\s.heap.DictOf (cY X.prog X.w) p vs:=I.hok p _ hx;have hlen:kvs.length=vs.length:=Paired.length r;exact wpAny_truthy_dict hS m (by omega) ⟨H,I.tok _,by rw [Io r];exact q⟩
 | _=>exact (show False from e).elim
theorem O_ (ha:PE X a ta) (he:∀whole,isTrue a X.env whole=(do let v ←whole;standAt a.pos;holding [v] (truthy v))):
 PT X a (fun σ H Q=>ta σ H fun x H'=>∃k,Y6 X.K x H' k/\Q k H'):=by
 intro pins s σ H Q I h;exact isTrue_plain (dj (ha pins s σ H _ I h) fun v s1 ⟨x,H1,I1,r1,q1⟩=>Wq pins s1 σ H1 x v Q I1 r1 q1) (he _)
theorem eZ:oh X (binaryOp .Add) (fun x y H Q=>∃i j,x = .str i/\y = .str j/\i.length+j.length<=sizeLine/\Q (.str (i++j)) H):=by
 intro pins s σ H x y v u Q I rx ry h;obtain ⟨i,j,rfl,rfl,hz,q⟩:=h;obtain ⟨t,rfl⟩:=rx;obtain ⟨t',rfl⟩:=ry;exact add_str (fun t' tk=>⟨.str (i++j),H,I.tok _,⟨_,rfl⟩,q⟩) hz
theorem vals1 {x:V} {us:List Value} (r:Vals [x] us):∃u,us=[u]/\RelV x u:=by
 cases r with
 | cons r1 r2=>cases r2;exact ⟨_,rfl,r1⟩
theorem vals2 {x y:V} {us:List Value} (r:Vals [x,y] us):∃u w',us=[u,w']/\RelV x u/\RelV y w':=by
 cases r with
 | cons r1 r2=>
   cases r2 with
   | cons r3 r4=>cases r4;exact ⟨_,_,rfl,r1,r3⟩
theorem Ay (hc:X.calm=true):iZ X (.builtin "max") (fun xs H Q=>∃i j,xs=[.int i,.int j]/\Q (.int (if j>i then j else i)) H):=by
 intro pins s σ H xs us Q I r h;obtain ⟨i,j,rfl,q⟩:=h;obtain ⟨u,w',rfl,⟨t,rfl⟩,⟨t',rfl⟩⟩:=vals2 r;refine max_two_ints (I.ok.hd hc) fun h' tk k=>⟨_,H,I.kept k, ?_,q⟩
 by_cases hj:j>i
 ·rw [if_pos hj,if_pos hj];exact ⟨_,rfl⟩
 ·rw [if_neg hj,if_neg hj];exact ⟨_,rfl⟩
theorem eY:iZ X (.type "str") (fun xs H Q=>∃i,xs=[.int i]/\i.natAbs.log2<1920/\Q (.str (toString i)) H):=by
 intro pins s σ H xs us Q I r h;obtain ⟨i,rfl,hz,q⟩:=h;obtain ⟨u,rfl,t,rfl⟩:=vals1 r;exact PySem.P.str_of_int hz ⟨.str _,H,I.tok _,⟨_,rfl⟩,q⟩
end
end L2
namespace L2
open PySem PySem.Spec PyProof.Rows
structure Jk (h:Heap) (x dx C:Addr) (mA:Str->Option Value):Prop where
 obj:h.get? x=some (PySem.W.instObj C dx)
 ns:h.Ns1 dx mA
 ne:dx≠x
theorem LK {h:Heap} {dx:Addr} {mA:Str->Option Value} (n:h.Ns1 dx mA):∃od,h.get? dx=some od /\ ∀name,PySem.W.lookIn name od=some (mA name):=by
 obtain ⟨o,es,ep,ho,hd,hk,_,hm⟩:=n;refine ⟨o,ho,fun name=> ?_⟩;have e:=hm name;unfold nsFind findBy at e;rw [←Array.find?_toList] at e;unfold PySem.W.lookIn;rw [hd];dsimp only;split
 ·rename_i y q
  rw [q] at e;exact congrArg some e
 ·rename_i q
  rw [q] at e
  have a:es.toList.any (·.refKey)=false:=by
   rw [List.any_eq_false];intro y hy;obtain ⟨z,t,hkey⟩:=hk y (Array.mem_toList_iff.mp hy);simp [DictEntry.refKey,hkey]
  have a':¬es.toList.any (·.refKey)=true:=by rw [a];exact Bool.false_ne_true
  rw [if_neg a'];exact congrArg some e
theorem Jk.look {h:Heap} {x dx C:Addr} {mA:Str->Option Value} (I:Jk h x dx C mA):∃od,PySem.W.InstAt h x (PySem.W.instObj C dx) C (some od) /\ ∀name,PySem.W.lookIn name od=some (mA name):=
 let ⟨od,ho,hl⟩:=LK I.ns
 ⟨od,⟨I.obj,rfl,rfl,ho⟩,hl⟩
section
variable {prog:Program} {w:World} {A:Around} {E:Value->Shared->Prop} {s:Shared} {K:PySem.W.Frag} {x dx C f:Addr} {mA:Str->Option Value} {name:Str} {v:Value}
theorem get_map {expr:Bool} {Q:Value->Shared->Prop} (X:K.In s.heap) (I:Jk s.heap x dx C mA) (hg:PySem.W.plainGet K C name=true) (hh:PySem.W.hasDictIn K C=true)
 (ha:PySem.W.findIn K (.ref C) name=some none) (hv:mA name=some v) (hv':PySem.W.handedIn v=true) (h:Q v {s with toks:=s.toks+1}):
 wpAny (model prog w) A (getAttr (.ref x) name expr) Q E s:=by
 obtain ⟨od,J,hl⟩:=I.look;exact PySem.W.get_value X J (PySem.W.plainGet_of hg).1 (PySem.W.findObj_own hh ha rfl (by rw [hl,hv])) hv' h
theorem QT {pl:Sem Bool} {Q:Value×List Value->Shared->Prop} (X:K.In s.heap) (I:Jk s.heap x dx C mA) (hg:PySem.W.plainGet K C name=true)
 (hf:PySem.W.findIn K (.ref C) name=some (some (.ref f))) (ht:PySem.W.isFn K (.ref f)=true) (hv:mA name=none) (h:Q (.ref f,[.ref x]) s):
 wpAny (model prog w) A (getMethod (.ref x) name pl) Q E s:=by
 obtain ⟨od,J,hl⟩:=I.look;exact PySem.W.method_fn X J (PySem.W.plainGet_of hg).1 (PySem.W.plainGet_of hg).2 hf (beq_iff_eq.mp ht) (by show (PySem.W.lookIn name od).map (·.isSome)=some false;rw [hl,hv];rfl) h
theorem SX {ns:List Str} {Q:Unit->Shared->Prop} (X:K.In s.heap) (I:Jk s.heap x dx C mA)
 (hs:PySem.W.findIn K (.ref C) "__setattr__" = some (some (.builtin "object.__setattr__"))) (hp:PySem.W.plainOver K C=true) (ht:PySem.W.takerIn K C name=some none) (hh:PySem.W.hasDictIn K C=true)
 (hw:PySem.Within mA ns) (hsz:ns.length<=sizeLine)
 (h:∀h',Jk h' x dx C (fun y=>if y=name then some v else mA y)->Heap.SameBut dx s.heap h'->Q () {s with heap:=h',toks:=s.toks+2}):
 wpAny (model prog w) A (setAttr (.ref x) name v) Q E s:=by
 obtain ⟨od,J,hl⟩:=I.look;refine PySem.W.set_plain X J hs (PySem.W.osa_open (s:={s with toks:=s.toks+1}) (r:=none) X J hp ht fun b=> ?_);obtain ⟨cd,hc,hd'⟩:=PySem.W.any_some hh;have hx:s.heap.get? x=some ⟨.ref C,some dx,.plain, #[]⟩:=I.obj;refine wpAny_bind (wpAny_pure (wpAny_bind (wpAny_bind (wpAny_loadPart hx (wpAny_bind (PySem.W.Looks.here (s:={s with toks:=s.toks+1}) (PySem.W.looks_clsIn X hc) ?_))))));rw [hd'];refine wpAny_pure (a:=some dx) (wpAny_bind (wpAny_pure (wpAny_bind ?_)));refine wpAny_nsSet1 (s:={s with toks:=s.toks+1}) I.ns fun h' hn2 hs2=> ?_;obtain ⟨oD,esD,epD,hoD,hdD,hcD⟩:=hn2.count (PySem.Within.cons name v hw);refine wpAny_bind (wpAny_lookBehind hoD (by rw [hdD];exact pastItsLine_dict (Nat.le_trans hcD (by rw [List.length_cons];omega))) ?_);exact wpAny_pure (h _ ⟨(hs2.2 _ (Ne.symm I.ne)).trans I.obj,hn2,I.ne⟩ hs2)
theorem Qo {R:Result->Shared->Prop} {vs:List Value} {kw:List (Str×Value)} (X:K.In s.heap) (hm:PySem.W.makesIn K C=true)
 (hi:PySem.W.findIn K (.ref C) "__init__" = some (some (.ref f))) (hf:PySem.W.typeIn K (.ref f)=some (.type "function"))
 (h:codeAny (model prog w) (A.under (.builtin "type.__call__" ⟨.ref C::vs,kw⟩)) (.call (.ref f) ⟨.ref (s.heap.objs.size+1)::vs,kw⟩) (PySem.W.InitBack (s.heap.objs.size+1) R)
   {s with heap:=(s.heap.push PySem.W.emptyDict).push (PySem.W.instObj C s.heap.objs.size)}):
 codeAny (model prog w) A (.call (.ref C) ⟨vs,kw⟩) R s:=by
 obtain ⟨hh,g,d,t,os⟩:=s;exact PySem.W.make_core (PySem.W.makes_of X hm) (PySem.W.looks_findIn X hi) (fun self=>PySem.W.bind_fn X self hf) (.inl rfl) h
end
def dI (f:Str) (v:V):List (Str×V)->List (Str×V)
 | []=>[(f,v)]
 | (g,x)::r=>if g=f then (g,v)::r else (g,x)::dI f v r
theorem vK (f g:Str) (v:V):∀fs:List (Str×V),(dI f v fs).lookup g=if g=f then some v else fs.lookup g
 | []=>by
   show List.lookup g [(f,v)]=_
   by_cases h:g=f
   ·have hb:(g==f)=true:=beq_iff_eq.mpr h
    simp only [List.lookup,hb,if_pos h]
   ·have hb:(g==f)=false:=beq_eq_false_iff_ne.mpr h
    simp only [List.lookup,hb,if_neg h]
 | (k,x)::r=>by
   have ih:=vK f g v r;rw [show dI f v ((k,x)::r)=(if k=f then (k,v)::r else (k,x)::dI f v r) from rfl]
   by_cases hk:k=f
   ·rw [if_pos hk]
    by_cases h:g=k
    ·have hb:(g==k)=true:=beq_iff_eq.mpr h
     simp only [List.lookup,hb,if_pos (h.trans hk)]
    ·have hb:(g==k)=false:=beq_eq_false_iff_ne.mpr h
     simp only [List.lookup,hb,if_neg (fun e:g=f=>h (e.trans hk.symm))]
   ·rw [if_neg hk]
    by_cases h:g=k
    ·have hb:(g==k)=true:=beq_iff_eq.mpr h
     simp only [List.lookup,hb,if_neg (fun e:g=f=>hk (h.symm.trans e))]
    ·have hb:(g==k)=false:=beq_eq_false_iff_ne.mpr h
     simp only [List.lookup,hb];exact ih
theorem uZ (f:Str) (v:V):∀fs:List (Str×V),f∈(dI f v fs).map (·.1) /\ ∀g,g∈fs.map (·.1)->g∈(dI f v fs).map (·.1)
 | []=>⟨by simp [dI],fun g h=>by simp at h⟩
 | (k,x)::r=>by
   obtain ⟨i1,i2⟩:=uZ f v r;rw [show dI f v ((k,x)::r)=(if k=f then (k,v)::r else (k,x)::dI f v r) from rfl]
   by_cases hk:k=f
   ·rw [if_pos hk]
    subst hk;exact ⟨by simp,fun g h=>by simpa using h⟩
   ·rw [if_neg hk]
    refine ⟨?_,fun g h=> ?_⟩
    ·rw [List.map_cons]
     exact List.mem_cons_of_mem _ i1
    ·rw [List.map_cons] at h ⊢
     rcases List.mem_cons.mp h with e|e
     ·exact List.mem_cons.mpr (.inl e)
     ·exact List.mem_cons_of_mem _ (i2 g e)
theorem vL (f:Str) (v:V):∀fs:List (Str×V),(dI f v fs).length<=fs.length+1
 | []=>by simp [dI]
 | (k,x)::r=>by
   have ih:=vL f v r;rw [show dI f v ((k,x)::r)=(if k=f then (k,v)::r else (k,x)::dI f v r) from rfl]
   by_cases hk:k=f
   ·rw [if_pos hk,List.length_cons,List.length_cons];omega
   ·rw [if_neg hk,List.length_cons,List.length_cons];omega
theorem oM.some_of {v:V} {o:Option Value} (r:oM (some v) o):∃u,o=some u/\RelV v u:=by
 cases o with
 | none=>exact (show False from r).elim
 | some u=>exact ⟨u,rfl,r⟩
theorem oM.none_of {o:Option Value} (r:oM none o):o=none:=by
 cases o with
 | none=>rfl
 | some u=>exact (show False from r).elim
theorem Ms {v:V} {u:Value} (r:RelV v u):PySem.W.handedIn u=true:=by
 cases v with
 | non=>cases (show u=Value.none from r);rfl
 | bl b=>cases (show u=Value.bool b from r);rfl
 | int i=>obtain ⟨t,e⟩:=(show ∃t,u=Value.int i t from r);cases e;rfl
 | str x=>obtain ⟨t,e⟩:=(show ∃t,u=Value.str x t from r);cases e;rfl
 | Jd b=>obtain ⟨t,e⟩:=(show ∃t,u=Value.bytes b t from r);cases e;rfl
 | flt b=>obtain ⟨t,e⟩:=(show ∃t,u=Value.float b t from r);cases e;rfl
 | ref a=>cases (show u=Value.ref a from r);rfl
 | ty n=>cases (show u=Value.type n from r);rfl
section
variable {P:Program} {w:World} {H H':Hp} {h h':Heap} {a C dx:Addr} {fs fs':List (Str×V)}
theorem fO (hok:sH P w H h) (e:H a=some (.ins C dx fs)):∃mA,Jk h a dx C mA/\(∀f,oM (fs.lookup f) (mA f))/\PySem.Within mA (fs.map (·.1))/\fs.length<=1000/\H dx=some (.own a):=by
 obtain ⟨d,z,ne,ob,mA,n,r,q⟩:=(show cU P w H h a (.ins C dx fs) from hok a _ e);exact ⟨mA,⟨ob,n,ne⟩,r,q,z,d⟩
end
structure Cls (K:PySem.W.Frag) (C:Addr):Prop where
 pg:PySem.W.plainGet K C Str.empty=true
 hd:PySem.W.hasDictIn K C=true
 po:PySem.W.plainOver K C=true
 sa:PySem.W.findIn K (.ref C) "__setattr__" = some (some (.builtin "object.__setattr__"))
theorem Cls.get {K:PySem.W.Frag} {C:Addr} (c:Cls K C) (f:Str):PySem.W.plainGet K C f=true:=c.pg
def fD (K:PySem.W.Frag) (C:Addr) (f:Str):Prop:=PySem.W.findIn K (.ref C) f=some none
theorem fD.taker {K:PySem.W.Frag} {C:Addr} {f:Str} (n:fD K C f):PySem.W.takerIn K C f=some none:=by
 unfold PySem.W.takerIn;rw [show PySem.W.findIn K (.ref C) f=some none from n];rfl
structure Meth (K:PySem.W.Frag) (C:Addr) (m:Str) (f:Addr):Prop where
 at_:PySem.W.findIn K (.ref C) m=some (some (.ref f))
 fn:PySem.W.isFn K (.ref f)=true
 kp:PySem.W.keepIn K (.ref f)=true
section
variable {X:Cx} {pins:List (Addr×Obj)} {σ:St} {H:Hp} {s:Shared} {a C dx:Addr} {fs:List (Str×V)} {f:Str} {v:V} {A:Around} {E:Value->Shared->Prop}
theorem Iv {b:Bool} {Q:Value->Shared->Prop} (I:Inv X pins σ H s) (e:H a=some (.ins C dx fs)) (c:Cls X.K C) (n:fD X.K C f) (l:fs.lookup f=some v)
 (h:∀u s',Inv X pins σ H s'->RelV v u->Q u s'):wpAny (model X.prog X.w) A (getAttr (.ref a) f b) Q E s:=by
 obtain ⟨mA,O,r,_,_,_⟩:=fO I.hok e;obtain ⟨u,hu,ru⟩:=oM.some_of (v:=v) (o:=mA f) (by rw [←l];exact r f);exact get_map I.rJ O (c.get f) c.hd n hu (Ms ru) (h u _ (I.tok _) ru)
theorem yM {m:Str} {g:Addr} {pl:Sem Bool} {Q:Value×List Value->Shared->Prop} (I:Inv X pins σ H s) (e:H a=some (.ins C dx fs)) (c:Cls X.K C) (k:Meth X.K C m g) (l:fs.lookup m=none)
 (h:Q (.ref g,[.ref a]) s):wpAny (model X.prog X.w) A (getMethod (.ref a) m pl) Q E s:=by
 obtain ⟨mA,O,r,_,_,_⟩:=fO I.hok e;have hn:mA m=none:=oM.none_of (by rw [←l];exact r m);exact QT I.rJ O (c.get m) k.at_ k.fn hn h
theorem Hl {y:V} {u:Value} {Q:Unit->Shared->Prop} (I:Inv X pins σ H s) (e:H a=some (.ins C dx fs)) (c:Cls X.K C) (n:fD X.K C f) (hl:fs.length<1000) (ry:RelV y u)
 (h:∀s',Inv X pins σ (upd H a (.ins C dx (dI f y fs))) s'->Q () s'):wpAny (model X.prog X.w) A (setAttr (.ref a) f u) Q E s:=by
 obtain ⟨mA,O,r,wi,_,ho⟩:=fO I.hok e;have hz:(fs.map (·.1)).length<=sizeLine:=by rw [List.length_map,sizeLine_eq];omega
 refine SX I.rJ O c.sa c.po n.taker c.hd wi hz fun h' O' sb=>h _ ?_;have hd:∃o,h'.get? dx=some o:=let ⟨o,_,_,e',_⟩:=O'.ns;⟨o,e'⟩
 refine I.write (x:=a) (e:=dx) (by rw [e];exact True.intro) (.inr ho) (fun b q hb z=>(sb.2 b hb).trans z) hd ?_;refine ⟨by rw [aO O.ne];exact ho, ?_,O.ne,O'.obj,_,O'.ns,fun g=> ?_,fun g hg=> ?_⟩
 ·have:=vL f y fs;omega
 ·show oM ((dI f y fs).lookup g) (if g=f then some u else mA g)
  rw [vK]
  by_cases q:g=f
  ·rw [if_pos q,if_pos q];exact ry
  ·rw [if_neg q,if_neg q];exact r g
 ·by_cases q:g=f
  ·rw [q];exact (uZ f y fs).1
  ·refine (uZ f y fs).2 g (wi g fun z=>hg ?_)
   show (if g=f then some u else mA g)=none;rw [if_neg q];exact z
theorem Inv.made (I:Inv X pins σ H s):Inv X pins σ (upd (upd H s.heap.objs.size (.own (s.heap.objs.size+1))) (s.heap.objs.size+1) (.ins C s.heap.objs.size []))
 {s with heap:=(s.heap.push PySem.W.emptyDict).push (PySem.W.instObj C s.heap.objs.size)}:=by
 have e1:(s.heap.push PySem.W.emptyDict).get? s.heap.objs.size=some PySem.W.emptyDict:=Heap.get?_push_size s.heap rfl
 have e2:((s.heap.push PySem.W.emptyDict).push (PySem.W.instObj C s.heap.objs.size)).get? (s.heap.objs.size+1)=some (PySem.W.instObj C s.heap.objs.size):=by
  have:=Heap.get?_push_size (s.heap.push PySem.W.emptyDict) (o:=PySem.W.instObj C s.heap.objs.size) rfl;rwa [Heap.size_push] at this
 have e3:(s.heap.push PySem.W.emptyDict).Ns s.heap.objs.size (fun _=>none):=⟨PySem.W.emptyDict, #[],_,e1,rfl,(fun e he=>absurd he (by simp)),fun _=>rfl⟩;have I1:=I.laid (a:=s.heap.objs.size) (o:= .own (s.heap.objs.size+1)) (h':=s.heap.push PySem.W.emptyDict) (t':=s.toks) (fun b u q=>Heap.get?_push_of_some _ q) (Nat.le_refl _) ⟨_,e1⟩;refine I1.laid (a:=s.heap.objs.size+1) (o:= .ins C s.heap.objs.size []) (t':=s.toks) (fun b u q=>Heap.get?_push_of_some _ q) (Nat.le_of_eq (Heap.size_push _ _)) ?_;have ne:s.heap.objs.size≠s.heap.objs.size+1:=Nat.ne_of_lt (Nat.lt_succ_self _);refine ⟨by rw [aO ne,aq],Nat.zero_le _,ne,e2,fun _=>none,(Heap.Ns1.of_empty e3).at fun o q=>Heap.get?_push_of_some _ q,fun _=>True.intro,fun y hy=>absurd rfl hy⟩
theorem Vn {prog:Program} {w:World} {env:Env} {e:Expr} {f:Str} {pos:Pos} {s:Shared} {Q:Value->Shared->Prop} (hb:attributeBase e f env (eval e env)=eval e env)
 (h:wpAny (model prog w) A (eval e env) (fun o s₁=>wpAny (model prog w) A (getAttr o f true) Q E s₁) E s):wpAny (model prog w) A (eval (.Attribute e f pos) env) Q E s:=
 Attribute_any_ h (by rw [arm_eval_Attribute,hb])
end
def Wt (K:PySem.W.Frag) (ta:TE) (f:Str):TE:=fun σ H Q=>ta σ H fun x H1=>∃a C dx fs v,x = .ref a/\H1 a=some (.ins C dx fs)/\Cls K C/\fD K C f/\fs.lookup f=some v/\Q v H1
def Z1 (K:PySem.W.Frag) (ta tv:TE) (f:Str):TS:=fun D σ H=>tv σ H fun y H1=>ta σ H1 fun x H2=>∃a C dx fs,x = .ref a/\H2 a=some (.ins C dx fs)/\Cls K C/\fD K C f/\fs.length<1000 /\
 D.nx σ (upd H2 a (.ins C dx (dI f y fs)))
section
variable {X:Cx} {o e value:Expr} {f:Str} {pos pos' tpos:Pos} {ta tv:TE}
theorem Xf (he:PE X e ta) (hb:attributeBase e f X.env (eval e X.env)=eval e X.env):PE X (.Attribute e f pos) (Wt X.K ta f):=by
 intro pins s σ H Q I h;refine Vn hb (dj (he pins s σ H _ I h) fun u s1 ⟨x,H1,I1,rx,a,C,dx,fs,v,ex,ea,c,n,l,q⟩=> ?_);subst ex;obtain rfl:u=Value.ref a:=rx;exact Iv I1 ea c n l fun u' s2 I2 ru=>⟨v,H1,I2,ru,q⟩
theorem W8 (ha:PE X o ta) (hv:PE X value tv) (hs:swapsWith value (some (.Attribute o f pos')) pos.line X.env=pure false):PS X (.Assign [.Attribute o f pos'] value pos) (Z1 X.K ta tv f):=by
 intro pins s σ H D I h;refine plainObj_wpAny_Assign_Attribute (dj (hv pins s σ H _ I h) fun u s1 ⟨y,H1,I1,ry,q⟩=>dj (ha pins s1 σ H1 _ I1 q) fun ov s2 ⟨x,H2,I2,rx,a,C,dx,fs,ex,ea,c,n,l,q2⟩=> ?_) hs;subst ex;obtain rfl:ov=Value.ref a:=rx;exact Hl I2 ea c n l ry fun s3 I3=>⟨σ,_,I3,q2⟩
end
section
variable {X:Cx} {pins:List (Addr×Obj)} {σ:St} {H:Hp} {s:Shared} {A:Around} {E:Value->Shared->Prop} {Q:Value->Shared->Prop} {c:Value} {b:Bool}
inductive oK (K:PySem.W.Frag) (H:Hp):V->Value->Prop where
 | non:oK K H .non (.type "NoneType")
 | bl (x:Bool):oK K H (.bl x) (.type "bool")
 | int (i:Int):oK K H (.int i) (.type "int")
 | str (x:Str):oK K H (.str x) (.type "str")
 | flt (x:UInt64):oK K H (.flt x) (.type "float")
 | lst {a:Addr} {xs:List V} (e:H a=some (.lst xs)):oK K H (.ref a) (.type "list")
 | oF {a:Addr} {o:Obj} {xs:List V} (e:H a=some (.oF o (.lst xs))):oK K H (.ref a) (.type "list")
 | tup {a:Addr} {xs:List V} (e:H a=some (.tup xs)):oK K H (.ref a) (.type "tuple")
 | dK {a:Addr} {kvs:List (Key×V)} (e:H a=some (.dK kvs)):oK K H (.ref a) (.type "dict")
 | dT {a:Addr} {kvs:List (List Key×V)} (e:H a=some (.dT kvs)):oK K H (.ref a) (.type "dict")
 | ins {a C dx:Addr} {fs:List (Str×V)} (e:H a=some (.ins C dx fs)) (cl:Cls K C) (ha:PySem.W.findIn K (.ref C) "__class__" = some (some (.builtin "object.__class__")))
    (hn:PySem.W.specialIn K (.builtin "object.__class__") "__get__" = some (some (.builtin "getset_descriptor.__get__"))) (htk:PySem.W.takesIn K (.builtin "object.__class__")=some true)
    (hm:PySem.W.mroIn K C (.type "object")=some true):oK K H (.ref a) (.ref C)
theorem Mf {x:V} {u t:Value} (I:Inv X pins σ H s) (rx:RelV x u) (ty:oK X.K H x t) (e:PySem.W.kitOne X.K t c=some b) (h:∀tk,Q (.bool b) {s with toks:=tk}):
 wpAny (model X.prog X.w) A (call (.builtin "isinstance") [u,c]) Q E s:=by
 cases ty with
 | non=>cases (show u=Value.none from rx);exact PySem.W.kia_one PySem.W.kitx_none I.rJ True.intro e (fun z=>nomatch z) h
 | bl y=>cases (show u=Value.bool y from rx);exact PySem.W.kia_one PySem.W.kitx_bool I.rJ True.intro e (fun z=>nomatch z) h
 | int i=>obtain ⟨t,q⟩:=(show ∃t,u=Value.int i t from rx);cases q;exact PySem.W.kia_one PySem.W.kitx_int I.rJ True.intro e (fun z=>nomatch z) h
 | str y=>obtain ⟨t,q⟩:=(show ∃t,u=Value.str y t from rx);cases q;exact PySem.W.kia_one PySem.W.kitx_str I.rJ True.intro e (fun z=>nomatch z) h
 | flt y=>obtain ⟨t,q⟩:=(show ∃t,u=Value.float y t from rx);cases q;exact PySem.W.kia_one PySem.W.kitx_float I.rJ True.intro e (fun z=>nomatch z) h
 | @lst a xs ea=>
   cases (show u=Value.ref a from rx);obtain ⟨_,_,n,_,h1⟩:=(show cU X.prog X.w H s.heap a (.lst xs) from I.hok a _ ea);exact PySem.W.kia_one PySem.W.kitx_list I.rJ ⟨_,h1,rfl⟩ e (fun z=>nomatch z) h
 | @oF a ob xs ea=>
   cases (show u=Value.ref a from rx);obtain ⟨_,_,_,n,_,h1⟩:=(show cU X.prog X.w H s.heap a (.oF ob (.lst xs)) from I.hok a _ ea);exact PySem.W.kia_one PySem.W.kitx_list I.rJ ⟨_,h1,rfl⟩ e (fun z=>nomatch z) h
 | @tup a xs ea=>
   cases (show u=Value.ref a from rx);obtain ⟨_,_,_,p⟩:=(show cU X.prog X.w H s.heap a (.tup xs) from I.hok a _ ea);obtain ⟨o,h1,h2,_⟩:=p;exact PySem.W.kia_one PySem.W.kitx_tuple I.rJ ⟨o,h1,h2⟩ e (fun z=>nomatch z) h
 | @dK a kvs ea=>
   cases (show u=Value.ref a from rx);obtain ⟨_,_,vs,_,p⟩:=(show cU X.prog X.w H s.heap a (.dK kvs) from I.hok a _ ea);obtain ⟨o,es,ep,h1,h2,_⟩:=p;exact PySem.W.kia_one PySem.W.kitx_dict I.rJ ⟨o,h1,h2.1⟩ e (fun z=>nomatch z) h
 | @dT a kvs ea=>
   cases (show u=Value.ref a from rx);obtain ⟨_,_,xs,_,o,es,ep,h1,h2,_⟩:=(show cU X.prog X.w H s.heap a (.dT kvs) from I.hok a _ ea);exact PySem.W.kia_one PySem.W.kitx_dict I.rJ ⟨o,h1,h2.1⟩ e (fun z=>nomatch z) h
 | @ins a C dx fs ea cl ha hn htk hm=>
   cases (show u=Value.ref a from rx);obtain ⟨mA,O,_⟩:=fO I.hok ea;obtain ⟨od,J,_⟩:=O.look;exact PySem.W.kia_one (PySem.W.kitx_own (cl.get _) cl.hd ha hn htk hm) I.rJ J e (fun z=>nomatch z) h
end
end L2
namespace L2
open PySem PySem.Spec PyProof.Rows
structure dH (k:Nat) (A:Around):Prop where
 hd:A.handled=none
 dp:A.depth+3*k+5<recursionLimit
 un:A.units+16*k+200<cLine
theorem dH.mono {j k:Nat} {A:Around} (r:dH k A) (h:j<=k):dH j A:=⟨r.hd,by have:=r.dp;omega,by have:=r.un;omega⟩
theorem dH.deeper {k:Nat} {A:Around} (r:dH (k+1) A) (env:Env):dH k (A.deeper env):=
 ⟨r.hd,by have:=r.dp;show A.depth+1+3*k+5<_;omega,by have:=r.un;show A.units+3+16*k+200<_;omega⟩
theorem dH.in1 {k:Nat} {A:Around} (r:dH (k+1) A):dH k A.in1:=
 ⟨r.hd,by have:=r.dp;show A.depth+3*k+5<_;omega,by have:=r.un;show A.units+1+16*k+200<_;omega⟩
theorem Il {A:Around} {C:Addr} {us:List Value} {kw:List (Str×Value)}:(A.under (.builtin "type.__call__" ⟨.ref C::us,kw⟩)).depth=A.depth+1:=by
 first |rfl|simp [Around.under,Code.weight,Code.isCreation,Code.isGuard,Code.isCaller,Code.frames,Code.isFrame,guardIds]
theorem Ik {A:Around} {C:Addr} {us:List Value} {kw:List (Str×Value)}:(A.under (.builtin "type.__call__" ⟨.ref C::us,kw⟩)).units=A.units+1:=by
 first |rfl|simp [Around.under,Code.cUnits,Code.frames,Code.isFrame]
theorem dH.make {k:Nat} {A:Around} (r:dH (k+1) A) (C:Addr) (us:List Value) (kw:List (Str×Value)):dH k (A.under (.builtin "type.__call__" ⟨.ref C::us,kw⟩)):=
 ⟨r.hd,by have:=r.dp;rw [Il];omega,by have:=r.un;rw [Ik];omega⟩
theorem dH.depth {k:Nat} {A:Around} (r:dH k A):A.depth<recursionLimit:=by have:=r.dp;omega
theorem dH.units {k:Nat} {A:Around} (r:dH k A):A.units+64<cLine:=by have:=r.un;omega
theorem dH.GQ {k:Nat} {A:Around} (r:dH k A):A.units<cLine:=by have:=r.un;omega
def Bl:TA:=fun _ H Q=>Q [] H
def Oo (ta:TE) (tr:TA):TA:=fun σ H Q=>ta σ H fun x H1=>tr σ H1 fun xs H2=>Q (x::xs) H2
section
variable {X:Cx} {e:Expr} {es:List Expr} {te:TE} {t:TA} {pos:Pos}
theorem aA:PA X [] Bl:=fun _ _ _ _ H Q I h=>Calls.spliced_nil ⟨[],H,I,.nil,h⟩
theorem ao (ha:PE X e te) (hr:PA X es t) (hs:starEach (e::es) X.env=(false,eval e X.env)::starEach es X.env:=by rfl):PA X (e::es) (Oo te t):=by
 intro pos pins s σ H Q I h;rw [hs];show wpAny _ _ (spliced ((false,eval e X.env)::backTo pos (starEach es X.env))) _ _ s;refine Calls.spliced_cons (dj (ha pins s σ H _ I h) fun u s1 ⟨x,H1,I1,r1,q1⟩=> ?_);exact dj (hr pos pins s1 σ H1 _ I1 q1) fun us s2 ⟨xs,H2,I2,r2,q2⟩=>⟨x::xs,H2,I2,.cons r1 r2,q2⟩
def adU (t:TA):TE:=fun σ H Q=>t σ H fun xs H1=>xs.length<=sizeLine /\ ∀p,H1 p=none->Q (.ref p) (upd H1 p (.tup xs))
def adX (t:TA):TE:=fun σ H Q=>t σ H fun xs H1=>xs.length<=sizeLine /\ ∀p,H1 p=none->Q (.ref p) (upd H1 p (.lst xs))
theorem jN {x1} (h:PA X es t):PE X (.Tuple es x1 pos) (adU t):=by
 intro pins s σ H Q I hq;refine wpAny_Tuple_spliced (dj (h pos pins s σ H _ I hq) fun us s1 ⟨xs,H1,I1,r,z,q⟩=>⟨by rw [←r.length];exact z, ?_⟩);have hf:H1 s1.heap.objs.size=none:=I1.hok.fresh (Nat.le_refl _);refine ⟨.ref s1.heap.objs.size,upd H1 s1.heap.objs.size (.tup xs),I1.laid (t':=s1.toks) (fun b u e=>Heap.get?_push_of_some _ e) (Nat.le_refl _) ?_,rfl,q _ hf⟩;exact ⟨z,us,r,⟨_,Heap.get?_push_size _ rfl,rfl,_,rfl⟩⟩
theorem bV (h:PA X es t):PE X (.List es pos) (adX t):=by
 intro pins s σ H Q I hq;refine wpAny_List_spliced (dj (h pos pins s σ H _ I hq) fun us s1 ⟨xs,H1,I1,r,z,q⟩=>⟨by rw [←r.length];exact z, ?_⟩);have hf:H1 s1.heap.objs.size=none:=I1.hok.fresh (Nat.le_refl _);refine ⟨.ref s1.heap.objs.size,upd H1 s1.heap.objs.size (.lst xs),I1.laid (t':=s1.toks) (fun b u e=>Heap.get?_push_of_some _ e) (Nat.le_refl _) ?_,rfl,q _ hf⟩;exact ⟨z,us,0,r,Heap.get?_push_size _ rfl⟩
end
abbrev Sp:=List V->Hp->VK->XK->Prop
abbrev RX:=List Env->Hp->Shared->XK->Value->Shared->Prop
structure Aa (P:Program) (w:World) (K:PySem.W.Frag) (mg:Str->Option Value) (base:Heap) (A:Around) (outer:List Env) (s:Shared) (H:Hp):Prop where
 frames:A.frames=some outer
 mod:Mod K mg base
 bs:∀b o,base.get? b=some o->s.heap.get? b=some o/\H b=none
 M5:base.objs.size<=s.heap.objs.size
 u9:s.heap.FunFrames base outer
 V8:∀b∈frs outer,H b=none
 hok:sH P w H s.heap
 bare:AllBare s.gens
def CE (outer:List Env) (P:Program) (w:World) (H:Hp) (s:Shared) (Q:VK) (u:Value) (s':Shared):Prop:=
 ∃v H',s'.os=s.os/\AllBare s'.gens/\Un (frs outer) [] H H' s.heap s'.heap/\sH P w H' s'.heap/\RelV v u/\Q v H'
def CR (CX:RX) (outer:List Env) (P:Program) (w:World) (H:Hp) (s:Shared) (Q:VK) (E:XK) (r:Result) (s':Shared):Prop:=
 match r with
 | .ok (.ret u)=>CE outer P w H s Q u s'
 | .ok _=>False
 | .error e=>CX outer H s E e s'
structure cj (P:Program) (w:World) (K:PySem.W.Frag) (mg:Str->Option Value) (base:Heap) (CX:RX) (k:Nat) (f:Addr) (fd:FuncData) (ps:List Str) (sp:Sp):Prop where
 len:∀vs H Q E,sp vs H Q E->vs.length=ps.length
 run:∀(A:Around) (outer:List Env) (s:Shared) (H:Hp) (args:Args) (us:List Value) (vs:List V) (Q:VK) (E:XK),dH k A->Aa P w K mg base A outer s H->BindsTo s fd args (ps.zip us)->Vals vs us->sp vs H Q E ->
  codeAny (model P w) A (.call (.ref f) args) (CR CX outer P w H s Q E) s
theorem Aa.make {P:Program} {w:World} {K:PySem.W.Frag} {mg:Str->Option Value} {base:Heap} {A:Around} {outer:List Env} {s:Shared} {H:Hp} (e:Aa P w K mg base A outer s H) (C:Addr) (us:List Value) (kw:List (Str×Value)):
 Aa P w K mg base (A.under (.builtin "type.__call__" ⟨.ref C::us,kw⟩)) outer s H:=⟨by first |exact e.frames|(simpa [Around.under,Code.envs,Code.isFrame,pushEnvs] using e.frames),e.mod,e.bs,e.M5,e.u9,e.V8,e.hok,e.bare⟩
theorem Aa.in1 {P:Program} {w:World} {K:PySem.W.Frag} {mg:Str->Option Value} {base:Heap} {A:Around} {outer:List Env} {s:Shared} {H:Hp} (e:Aa P w K mg base A outer s H):
 Aa P w K mg base A.in1 outer s H:=⟨e.frames,e.mod,e.bs,e.M5,e.u9,e.V8,e.hok,e.bare⟩
section
variable {X:Cx} {pins:List (Addr×Obj)} {σ:St} {H:Hp} {s s':Shared}
theorem Inv.env0 (I:Inv X pins σ H s):Aa X.prog X.w X.K X.mg X.base X.A X.stack s H:=
 ⟨I.ok.frames,I.ok.mod,I.bs,Nat.le_trans I.ok.M5 I.sz,I.stack,I.Bm,I.hok,I.bare⟩
theorem Inv.after {Q:VK} {u:Value} (I:Inv X pins σ H s) (h:CE X.stack X.prog X.w H s Q u s'):EP X pins σ Q u s':=by
 obtain ⟨v,H',os,bare,un,hok,r,q⟩:=h;obtain ⟨hh,g,d,t,os'⟩:=s';obtain rfl:os'=s.os:=os;exact ⟨v,H',I.call (h':=hh) (g':=g) (d':=d) (t':=t) (ch:=[]) un hok bare (fun b z=>absurd z (by simp)),r,q⟩
end
def VF (sp:Sp) (sG:List V) (E:XK) (t:TA):TE:=fun σ H Q=>t σ H fun vs H1=>sp (vs++sG) H1 Q E
def Jv (C:Addr) (m:Str) (sp:Sp) (sG:List V) (E:XK) (ta:TE) (t:TA):TE:=fun σ H Q=>ta σ H fun x H1=>∃a dx fs,x = .ref a/\H1 a=some (.ins C dx fs)/\fs.lookup m=none /\
 t σ H1 fun vs H2=>sp (x::(vs++sG)) H2 Q E
def VD (C:Addr) (sp:Sp) (sG:List V) (E:XK) (t:TA):TE:=fun σ H Q=>t σ H fun vs H1=>∀x dx,H1 x=none->H1 dx=none->dx≠x ->
 sp (.ref x::(vs++sG)) (upd (upd H1 dx (.own x)) x (.ins C dx [])) (fun v H2=>v = .non/\Q (.ref x) H2) E
def Binds (K:PySem.W.Frag) (fd:FuncData) (ps:List Str) (ds:List Value):Prop:=
 ∀(s:Shared) (us:List Value),K.In s.heap->(us++ds).length=ps.length->BindsTo s fd ⟨us,[]⟩ (ps.zip (us++ds))
theorem Binds.all {K:PySem.W.Frag} {fd:FuncData} {ps:List Str} (h:∀us:List Value,us.length=ps.length->bindArgs fd ⟨us,[]⟩=pure (ps.zip us)):Binds K fd ps []:=fun s us _ hl=>by
 rw [List.append_nil] at hl ⊢;exact .of_eq (h us hl)
def Passes (CX:RX) (X:Cx) (E:XK):Prop:=∀(pins:List (Addr×Obj)) (σ:St) (H:Hp) (s:Shared) (e:Value) (s':Shared),Inv X pins σ H s->CX X.stack H s E e s'->X.xe e s'
section
variable {X:Cx} {CX:RX} {k:Nat} {f C:Addr} {fd:FuncData} {ps:List Str} {sp:Sp} {sG:List V} {ds:List Value} {E:XK} {x m:Str} {p pos apos:Pos} {e o:Expr} {es:List Expr} {ta:TE} {t:TA}
theorem xY {pins:List (Addr×Obj)} {σ:St} {H:Hp} {s:Shared} {Q:VK} {us:List Value} {vs:List V} (F:cj X.prog X.w X.K X.mg X.base CX k f fd ps sp) (hr:dH k X.A) (hb:Binds X.K fd ps ds) (hd:Vals sG ds) (hx:Passes CX X E)
 (I:Inv X pins σ H s) (r:Vals vs us) (h:sp (vs++sG) H Q E):wpAny (model X.prog X.w) X.A (call (.ref f) us) (EP X pins σ Q) X.xe s:=by
 have r2:Vals (vs++sG) (us++ds):=r.append hd;have hl:(us++ds).length=ps.length:=by rw [←r2.length];exact F.len _ _ _ _ h
 refine wpAny_call (codeAny_mono (F.run X.A X.stack s H ⟨us,[]⟩ (us++ds) (vs++sG) Q E hr I.env0 (hb s us I.rJ hl) r2 h) fun r s' hq=> ?_);cases r with
 | error e=>exact hx pins σ H s e s' I hq
 | ok fl=>
   cases fl with
   | ret u=>exact I.after hq
   | next=>exact False.elim hq
   | brk=>exact False.elim hq
   | cont=>exact False.elim hq
theorem TQ (F:cj X.prog X.w X.K X.mg X.base CX k f fd ps sp) (hr:dH k X.A) (hg:Gl X x) (hm:X.mg x=some (.ref f)) (hk:PySem.W.keepIn X.K (.ref f)=true) (hb:Binds X.K fd ps ds) (hd:Vals sG ds) (hx:Passes CX X E)
 (ha:PA X (e::es) t) (hdb:(x==("__debug__" :Str))=false:=by decide) (he:starEach (e::es) X.env=(false,eval e X.env)::starEach es X.env:=by rfl) (hpl:(backTo pos (starEach es X.env)).any (·.1)=false:=by rfl):
 PE X (.Call (.Name x p) (e::es) [] pos) (VF sp sG E t):=by
 intro pins s σ H Q I h;refine wpAny_Call_Name_kw (Ck I hg hm ?_ hdb);refine PySem.W.callWith_K (h₀:=X.base) I.ok.mod.Qw hk (dj (ha pos pins s σ H _ I h) fun us s1 ⟨vs,H1,I1,r,q⟩=>⟨I1.rJ, ?_⟩) he hpl;exact xY F hr hb hd hx I1 r q
theorem Tw {pl:Sem Bool} (he:PE X o ta) (c:Cls X.K C) (hm:Meth X.K C m f) (F:cj X.prog X.w X.K X.mg X.base CX k f fd ps sp) (hr:dH k X.A) (hb:Binds X.K fd ps ds) (hd:Vals sG ds) (hx:Passes CX X E) (ha:PA X (e::es) t)
 (hst:starEach (e::es) X.env=(false,eval e X.env)::starEach es X.env:=by rfl) (hpl:(backTo pos (starEach es X.env)).any (·.1)=false:=by rfl)
 (ht:eval (.Call (.Attribute o m apos) (e::es) [] pos) X.env=(do
   let ov ←eval o X.env
   standAt apos.atName
   let (f,first) ←holding [ov] (getMethod ov m pl)
   callWith pos f first (backTo pos (starEach (e::es) X.env)) (backToKw pos (keywordEach [] X.env))):=by rfl):
 PE X (.Call (.Attribute o m apos) (e::es) [] pos) (Jv C m sp sG E ta t):=by
 intro pins s σ H Q I h;refine PySem.W.methodCall_KW (pl:=pl) (dj (he pins s σ H _ I h) fun u s1 ⟨x,H1,I1,rx,a,dx,fs,ex,ea,l,q⟩=> ?_) ht;subst ex;obtain rfl:u=Value.ref a:=rx;refine yM I1 ea c hm l ?_;refine PySem.W.callWith_K (first:=[.ref a]) (h₀:=X.base) I.ok.mod.Qw hm.kp (dj (ha pos pins s1 σ H1 _ I1 q) fun us s2 ⟨vs,H2,I2,r,q2⟩=>⟨I2.rJ, ?_⟩) hst hpl;exact xY (us:= .ref a::us) (vs:= .ref a::vs) F hr hb hd hx I2 (.cons rfl r) q2
theorem Pq {pl:Sem Bool} (he:PE X o ta) (c:Cls X.K C) (hm:Meth X.K C m f) (F:cj X.prog X.w X.K X.mg X.base CX k f fd ps sp) (hr:dH k X.A) (hb:Binds X.K fd ps ds) (hd:Vals sG ds) (hx:Passes CX X E)
 (ht:eval (.Call (.Attribute o m apos) [] [] pos) X.env=(do
   let ov ←eval o X.env
   standAt apos.atName
   let (f,first) ←holding [ov] (getMethod ov m pl)
   callWith pos f first (backTo pos (starEach [] X.env)) (backToKw pos (keywordEach [] X.env))):=by rfl):
 PE X (.Call (.Attribute o m apos) [] [] pos) (Jv C m sp sG E ta Bl):=by
 intro pins s σ H Q I h;refine PySem.W.methodCall_KW (pl:=pl) (dj (he pins s σ H _ I h) fun u s1 ⟨x,H1,I1,rx,a,dx,fs,ex,ea,l,q⟩=> ?_) ht;subst ex;obtain rfl:u=Value.ref a:=rx;refine yM I1 ea c hm l ?_;exact PySem.W.callWith_K0 (first:=[.ref a]) I1.rJ hm.kp (xY (us:=[.ref a]) (vs:=[.ref a]) F hr hb hd hx I1 (.cons rfl .nil) q)
structure Mk (K:PySem.W.Frag) (C f:Addr):Prop where
 makes:PySem.W.makesIn K C=true
 init:PySem.W.findIn K (.ref C) "__init__" = some (some (.ref f))
 fn:PySem.W.isFn K (.ref f)=true
 kp:PySem.W.keepIn K (.ref C)=true
theorem OD {pins:List (Addr×Obj)} {σ:St} {H:Hp} {s:Shared} {Q:VK} {us:List Value} {vs:List V} (M:Mk X.K C f) (F:cj X.prog X.w X.K X.mg X.base CX k f fd ps sp) (hr:dH (k+1) X.A) (hb:Binds X.K fd ps ds) (hd:Vals sG ds)
 (hx:Passes CX X E) (I:Inv X pins σ H s) (r:Vals vs us)
 (h:∀x dx,H x=none->H dx=none->dx≠x->sp (.ref x::(vs++sG)) (upd (upd H dx (.own x)) x (.ins C dx [])) (fun v H2=>v = .non/\Q (.ref x) H2) E):
 wpAny (model X.prog X.w) X.A (call (.ref C) us) (EP X pins σ Q) X.xe s:=by
 have hq:=h (s.heap.objs.size+1) s.heap.objs.size (I.hok.fresh (Nat.le_succ _)) (I.hok.fresh (Nat.le_refl _)) (Nat.ne_of_lt (Nat.lt_succ_self _));have I2:=Inv.made (C:=C) I;have r2:Vals (V.ref (s.heap.objs.size+1)::(vs++sG)) (Value.ref (s.heap.objs.size+1)::(us++ds)):= .cons rfl (r.append hd)
 have hl:(Value.ref (s.heap.objs.size+1)::us++ds).length=ps.length:=by
  have e:=r2.length;rw [F.len _ _ _ _ hq] at e;exact e.symm
 refine wpAny_call (Qo (f:=f) I.rJ M.makes M.init (beq_iff_eq.mp M.fn) (codeAny_mono (F.run _ X.stack _ _ ⟨Value.ref (s.heap.objs.size+1)::us,[]⟩ (Value.ref (s.heap.objs.size+1)::(us++ds)) _ _ E (hr.make C us [])
  (I2.env0.make C us []) (hb _ (Value.ref (s.heap.objs.size+1)::us) I2.rJ hl) r2 hq) fun r s' hq'=> ?_))
 cases r with
 | error e=>exact hx pins σ _ _ e s' I2 hq'
 | ok fl=>
   cases fl with
   | ret u=>
     obtain ⟨v,H',I3,rv,ev,q3⟩:=I2.after hq';subst ev;exact ⟨rv,⟨V.ref (s.heap.objs.size+1),H',I3,rfl,q3⟩⟩
   | next=>exact False.elim hq'
   | brk=>exact False.elim hq'
   | cont=>exact False.elim hq'
theorem Tz (M:Mk X.K C f) (F:cj X.prog X.w X.K X.mg X.base CX k f fd ps sp) (hr:dH (k+1) X.A) (hg:Gl X x) (hm:X.mg x=some (.ref C)) (hb:Binds X.K fd ps ds) (hd:Vals sG ds) (hx:Passes CX X E)
 (ha:PA X (e::es) t) (hdb:(x==("__debug__" :Str))=false:=by decide) (he:starEach (e::es) X.env=(false,eval e X.env)::starEach es X.env:=by rfl) (hpl:(backTo pos (starEach es X.env)).any (·.1)=false:=by rfl):
 PE X (.Call (.Name x p) (e::es) [] pos) (VD C sp sG E t):=by
 intro pins s σ H Q I h;refine wpAny_Call_Name_kw (Ck I hg hm ?_ hdb);refine PySem.W.callWith_K (h₀:=X.base) I.ok.mod.Qw M.kp (dj (ha pos pins s σ H _ I h) fun us s1 ⟨vs,H1,I1,r,q⟩=>⟨I1.rJ, ?_⟩) he hpl;exact OD M F hr hb hd hx I1 r q
end
section
variable {X:Cx} {CX:RX} {k:Nat} {f C:Addr} {fd:FuncData} {ps ks:List Str} {sp:Sp} {E:XK} {x m:Str} {p pos apos kpos:Pos} {e o:Expr} {es:List Expr} {kws:List Keyword} {te ta:TE} {t tk:TA} {nm:Option Str}
variable {g:List Value->List Value->List Value} {gV:List V->List V->List V}
end
structure aY (N P:List Str) (sc:Scope):Prop where
 kind:sc.kind = .function
 co:sc.isCoroutine=false
 gen:sc.isGenerator=false
 nd:N.Nodup
 pre:N.take P.length=P
 par:∀x∈P,sc.names.lookup x=some .local\/sc.names.lookup x=some .cell
 Xv:∀y∈sc.names,y.2 ≠ .free
theorem Az {kindOf:Str->Option NameKind} {x:Str}:∀{binds:List (Str×Value)} {m:Str->Option Value},(∀v,(x,v)∉binds)->bindL kindOf binds m x=m x
 | [],_,_=>rfl
 | (n,v)::r,m,h=>by
   unfold bindL;rw [Az fun w hw=>h w (List.mem_cons_of_mem _ hw)];split
   ·have:x≠n:=by rintro rfl;exact h v List.mem_cons_self
    simp [this]
   ·rfl
theorem Bb {kindOf:Str->Option NameKind} {x:Str}:∀{binds:List (Str×Value)} {m:Str->Option Value},(∀v,(x,v)∉binds)->bindC kindOf binds m x=m x
 | [],_,_=>rfl
 | (n,v)::r,m,h=>by
   unfold bindC;rw [Bb fun w hw=>h w (List.mem_cons_of_mem _ hw)];split
   ·rfl
   ·have:x≠n:=by rintro rfl;exact h v List.mem_cons_self
    simp [this]
theorem A_ {kindOf:Str->Option NameKind} {x:Str} {v:Value}:∀{P:List Str} {vs:List Value} {i:Nat} {m:Str->Option Value},P.Nodup->P[i]? = some x->vs[i]? = some v->kindOf x=some .local ->
 bindL kindOf (P.zip vs) m x=some v
 | [],_,_,_,_,h,_,_=>by simp at h
 | _::_,[],_,_,_,_,h,_=>by simp at h
 | p::P,w::vs,0,m,nd,h1,h2,hk=>by
   simp at h1 h2;subst h1;subst h2;show bindL kindOf ((p,w)::P.zip vs) m p=_;unfold bindL;rw [Az fun v hv=>(List.nodup_cons.mp nd).1 (List.of_mem_zip hv).1,if_pos hk];simp
 | p::P,w::vs,i+1,m,nd,h1,h2,hk=>by
   show bindL kindOf ((p,w)::P.zip vs) m x=_;unfold bindL;exact A_ (i:=i) (List.nodup_cons.mp nd).2 (by simpa using h1) (by simpa using h2) hk
theorem Bc {kindOf:Str->Option NameKind} {x:Str} {v:Value}:∀{P:List Str} {vs:List Value} {i:Nat} {m:Str->Option Value},P.Nodup->P[i]? = some x->vs[i]? = some v->kindOf x≠some .local ->
 bindC kindOf (P.zip vs) m x=some v
 | [],_,_,_,_,h,_,_=>by simp at h
 | _::_,[],_,_,_,_,h,_=>by simp at h
 | p::P,w::vs,0,m,nd,h1,h2,hk=>by
   simp at h1 h2;subst h1;subst h2;show bindC kindOf ((p,w)::P.zip vs) m p=_;unfold bindC;rw [Bb fun v hv=>(List.nodup_cons.mp nd).1 (List.of_mem_zip hv).1,if_neg hk];simp
 | p::P,w::vs,i+1,m,nd,h1,h2,hk=>by
   show bindC kindOf ((p,w)::P.zip vs) m x=_;unfold bindC;exact Bc (i:=i) (List.nodup_cons.mp nd).2 (by simpa using h1) (by simpa using h2) hk
def start (N:List Str) (vs:List V):St:=vs.map some++List.replicate (N.length - vs.length) none
def IW (CX:RX) (P:Program) (w:World) (K:PySem.W.Frag) (mg:Str->Option Value) (base:Heap) (N:List Str) (qual:Str) (scope:Scope) (f:Addr) (cd:Value) (A:Around) (outer:List Env) (s:Shared) (H:Hp) (E:XK):Cx where
 prog:=P
 w:=w
 K:=K
 mg:=mg
 base:=base
 A:=A.deeper (envOfC qual scope s.heap.objs.size f cd)
 N:=N
 s₀:=s
 H₀:=H
 env:=envOfC qual scope s.heap.objs.size f cd
 outer:=outer
 stack:=envOfC qual scope s.heap.objs.size f cd::outer
 ex:=[]
 calm:=true
 fn:=fun _=>true
 pn:=[]
 xe:=fun e s'=>wpAny (model P w) (A.deeper (envOfC qual scope s.heap.objs.size f cd)) (leaving (envOfC qual scope s.heap.objs.size f cd) e) (fun _ s''=>CX outer H s E e s'') (fun e' s''=>CX outer H s E e' s'') s'
theorem Ge {sc:Scope} {n:Nat} {x:Str} (h:sc.names.lookup x=some .cell):∃c,(cellsFrom n sc.names []).lookup x=some c:=by
 have q:=PySem.W.cellsFrom_some sc.names n [] (.inl h);exact Option.isSome_iff_exists.mp q
theorem Mi {CX:RX} {P:Program} {w:World} {K:PySem.W.Frag} {mg:Str->Option Value} {base:Heap} {N ps:List Str} {qual:Str} {scope:Scope} {f:Addr} {cd:Value} {A:Around} {outer:List Env} {s s1:Shared} {H:Hp} {E:XK} {us:List Value} {vs:List V}
 (S:aY N ps scope) (hd:A.handled=none) (e0:Aa P w K mg base A outer s H) (hl:vs.length=ps.length) (r:Vals vs us)
 (x:InCallC s s.heap.objs.size (bindL (envOfC qual scope s.heap.objs.size f cd).kindOf (ps.zip us) fun _=>none) (cellsFrom (s.heap.objs.size+1) scope.names []) (bindC (envOfC qual scope s.heap.objs.size f cd).kindOf (ps.zip us) fun _=>none) s1):
 Inv (IW CX P w K mg base N qual scope f cd A outer s H E) [] (start N vs) H s1:=by
 have hpl:ps.length<=N.length:=by have:=congrArg List.length S.pre;rw [List.length_take] at this;omega
 obtain ⟨h1,tk,rfl,hk⟩:=x.done;have noA:∀b:Addr,b∉(IW CX P w K mg base N qual scope f cd A outer s H E).ex:=fun b z=>absurd (show b∈([]:List Addr) from z) (by simp)
 refine ⟨⟨e0.mod,S.kind,rfl,rfl,Nat.le_refl _,fun y z c h1 h2=> ?_,fun y hy=> ?_,fun y c _ h=> ?_,fun _=>hd,Around.frames_deeper e0.frames,.inr ⟨rfl,rfl⟩,fun b z=>absurd z (noA b),e0.bs,e0.M5,fun b _ _=>noA b,fun b z=>absurd z (noA b),e0.u9,e0.V8⟩,
  rfl,e0.bare,Un.kept hk,⟨_,x.toInCall.ns,fun i y v h1 h2 h3=> ?_⟩,fun y c h=>⟨_,x.cell y c h⟩,e0.hok.fresh (Nat.le_refl _),fun y c h=> ?_,fun p hp=>absurd (show p∈([]:List (Addr×Obj)) from hp) (by simp),e0.hok.kept hk, ?_⟩
 ·exact name_of_addr x.apart (PySem.mem_of_lookup h1) (PySem.mem_of_lookup h2)
 ·have hy:scope.names.lookup y=some .cell\/scope.names.lookup y=some .free:=hy
  rcases hy with hy|hy
  ·exact Ge hy
  ·exact absurd rfl (S.Xv _ (PySem.mem_of_lookup hy))
 ·exact Nat.le_of_lt (x.above y c (PySem.mem_of_lookup h))
 ·have hi:i<vs.length:=by
   unfold start at h2
   by_cases hi:i<vs.length
   ·exact hi
   ·rw [List.getElem?_append_right (by simpa using hi)] at h2
    rw [List.getElem?_replicate] at h2;split at h2<;>cases h2
  have ha:vs[i]? = some v:=by
   unfold start at h2;rw [List.getElem?_append_left (by simpa using hi),List.getElem?_map] at h2;cases e:vs[i]? with
   | none=>rw [e] at h2;cases h2
   | some a=>rw [e] at h2;cases h2;rfl
  obtain ⟨u,hu,rv⟩:=r.get ha
  have hp:ps[i]? = some y:=by
   rw [←S.pre,List.getElem?_take_of_lt (by omega)];exact h1
  have ndP:ps.Nodup:=by rw [←S.pre];exact S.nd.sublist (List.take_sublist _ _)
  refine ⟨u,rv, ?_⟩;rcases S.par y (List.mem_of_getElem? hp) with k|k
  ·exact .inl ⟨k,A_ ndP hp hu k⟩
  ·obtain ⟨c,e⟩:=Ge (n:=s.heap.objs.size+1) k
   refine .inr ⟨.inl k,c,e, ?_⟩;have q:=x.cell y c e;rw [Bc ndP hp hu (by show scope.names.lookup y≠_;rw [k];decide)] at q;exact q
 ·exact e0.hok.fresh (Nat.le_of_lt (x.above y c (PySem.mem_of_lookup h)))
 ·unfold start
  show _=N.length;rw [List.length_append,List.length_map,List.length_replicate];omega
theorem V_ {CX:RX} {P:Program} {w:World} {K:PySem.W.Frag} {mg:Str->Option Value} {base:Heap} {k:Nat} {f:Addr} {name qual:Str} {params:Arguments} {body:List Stmt} {scope:Scope} {dV kV doc pm cdv ct oc:Value} {an od:Option Addr}
 {osl:Array (Option Value)} {N ps:List Str} {sp:Sp} (lk:K.lookup f=some ⟨oc,od,.func (PySem.W.fnOf name qual params body scope dV kV doc pm an cdv ct),osl⟩) (hcd:PySem.W.codeIn K cdv qual=true) (S:aY N ps scope)
 (len:∀vs H Q E,sp vs H Q E->vs.length=ps.length)
 (hbody:∀(A:Around) (outer:List Env) (s:Shared) (H:Hp) (vs:List V) (Q:VK) (E:XK),dH k (A.deeper (envOfC qual scope s.heap.objs.size f cdv))->sp vs H Q E ->
   ∃t,Ku (IW CX P w K mg base N qual scope f cdv A outer s H E) body t/\t {nx:=fun _ H'=>Q .non H',rt:=Q} (start N vs) H):
 cj P w K mg base CX (k+1) f (PySem.W.fnOf name qual params body scope dV kV doc pm an cdv ct) ps sp:=by
 refine ⟨len,fun A outer s H args us vs Q E hr e0 hb r hsp=> ?_⟩;have hl:=len _ _ _ _ hsp;have KX:K.In s.heap:=e0.mod.Qw.keeps fun b o e=>(e0.bs b o e).1;have lim:s.heap.NoLimit:=e0.mod.nolimit.keeps fun b o e=>(e0.bs b o e).1
 have hkind:∀y∈ps.zip us,scope.names.lookup y.1=some .local\/(scope.names.lookup y.1=some .cell/\((cellsFrom (s.heap.objs.size+1) scope.names []).lookup y.1).isSome=true):=fun ⟨n,v⟩ hy=>by
  rcases S.par n (List.of_mem_zip hy).1 with q|q
  ·exact .inl q
  ·exact .inr ⟨q,PySem.W.cellsFrom_some _ _ _ (.inl q)⟩
 refine codeAny_call_function hr.depth (KX _ _ lk) rfl S.co S.gen rfl (PySem.W.codeRec_of KX hcd) (hb _ _ _ _ ?_);refine wpAny_newFunctionEnv_cells S.kind hkind fun env he s1 x=> ?_;subst he;refine ⟨lim.keeps x.toInCall.keep,codeAny_func ?_⟩;obtain ⟨t,ht,hq⟩:=hbody A outer s H vs Q E (hr.deeper _) hsp;have I:Inv (IW CX P w K mg base N qual scope f cdv A outer s H E) [] (start N vs) H s1:=Mi S hr.hd e0 hl r x;refine wpAny_mono (ht [] s1 (start N vs) H _ I hq) (fun fl s' hs=> ?_) fun e s' hs=>hs
 have fin:∀{σ':St} {H':Hp} {v:V} {u:Value},Inv (IW CX P w K mg base N qual scope f cdv A outer s H E) [] σ' H' s'->RelV v u->Q v H'->CE outer P w H s Q u s':=
  fun {σ' H' v u} J rv q=>⟨v,H',J.os,J.bare,J.base,J.hok,rv,q⟩
 cases fl with
 | ret u=>
   obtain ⟨v,σ',H',J,rv,q⟩:=hs;exact fin J rv q
 | next=>
   obtain ⟨σ',H',J,q⟩:=hs;exact fin (v:=V.non) (u:=Value.none) J rfl q
 | brk=>
   obtain ⟨_,_,_,q⟩:=hs;exact False.elim q
 | cont=>
   obtain ⟨_,_,_,q⟩:=hs;exact False.elim q
end L2
namespace L2
open PySem PySem.Spec PyProof.Rows
section
variable {X:Cx} {x:Str} {p pos:Pos} {e:Expr} {es:List Expr} {t:TA} {id T:String} {r:List V->Hp->VK->Prop}
def tCB (r:List V->Hp->VK->Prop) (t:TA):TE:=fun σ H Q=>t σ H fun vs H1=>r vs H1 Q
theorem aQ (hc:iZ X (.builtin id) r) (hg:Gl X x) (hm:X.mg x=none) (hv:bootBuiltins x=some (.builtin id)) (ha:PA X (e::es) t) (hn:x ≠ "__name__" :=by decide) (hdb:(x==("__debug__" :Str))=false:=by decide)
 (he:starEach (e::es) X.env=(false,eval e X.env)::starEach es X.env:=by rfl) (hpl:(backTo pos (starEach es X.env)).any (·.1)=false:=by rfl):PE X (.Call (.Name x p) (e::es) [] pos) (tCB r t):=by
 intro pins s σ H Q I h;refine wpAny_Call_Name_kw (uY I hg hm hv ?_ hn hdb);exact PyProof.Rows.callWith_builtin1 (dj (ha pos pins s σ H _ I h) fun us s1 ⟨vs,H1,I1,r1,q1⟩=>hc pins s1 σ H1 vs us Q I1 r1 q1) he hpl
theorem bW (hc:iZ X (.type T) r) (hg:Gl X x) (hm:X.mg x=none) (hv:bootBuiltins x=some (.type T)) (ha:PA X (e::es) t) (hn:x ≠ "__name__" :=by decide) (hdb:(x==("__debug__" :Str))=false:=by decide)
 (he:starEach (e::es) X.env=(false,eval e X.env)::starEach es X.env:=by rfl) (hpl:(backTo pos (starEach es X.env)).any (·.1)=false:=by rfl):PE X (.Call (.Name x p) (e::es) [] pos) (tCB r t):=by
 intro pins s σ H Q I h;refine wpAny_Call_Name_kw (uY I hg hm hv ?_ hn hdb);exact PyProof.Rows.callWith_type1 (dj (ha pos pins s σ H _ I h) fun us s1 ⟨vs,H1,I1,r1,q1⟩=>hc pins s1 σ H1 vs us Q I1 r1 q1) he hpl
end
end L2
namespace HT
open PySem PyProof.Rows
section
open PySem.SeqAt
open PySem.AutoSeq1 (wpAny_loadPart')
open PySem.MeetsSeq PySem.MeetsSeq2 PySem.MeetsSeq3
end
section
variable {prog:Program} {w:World} {A:Around} {E:Value->Shared->Prop} {s:Shared}
theorem Vk {t b:Addr} {vs ws:List Value} {Q:Value->Shared->Prop} (ht:IsTup s.heap t vs.toArray) (hb:IsTup s.heap b ws.toArray) (hv:vs≠[])
 (h1:ws=[]->Q (.ref t) s) (h2:ws≠[]->Q (.ref s.heap.objs.size) {s with heap:=s.heap.push {cls:= .type "tuple",data:= .seq (vs++ws).toArray}})
 (hsz:vs.length+ws.length<=sizeLine):wpAny (model prog w) A (binaryOp .Add (.ref t) (.ref b)) Q E s:=by
 obtain ⟨⟨cls,dd,data,sl⟩,ho,hc,n,hd⟩:=id ht;obtain ⟨⟨cls2,dd2,data2,sl2⟩,ho2,hc2,n2,hd2⟩:=id hb;simp only at hc hd hc2 hd2;subst hc hd hc2 hd2;have e:vs.toArray++ws.toArray=(vs++ws).toArray:=by simp
 by_cases hw:ws=[]
 ·exact concat_meets ⟨_,ho,rfl⟩ ⟨_,ho2,rfl⟩ noFill_tuple_add seq_tuple_add PySem.F.slot_tuple_add PySem.F.entry_tuple_add (PySem.F.args_tuple_add_2 _ _)
   (tuple_addW1 t b vs.toArray ws.toArray n n2 dd dd2 sl sl2 (by simpa using hv) (by simp [hw])) ⟨ho,ho2,h1 hw⟩
 ·refine concat_meets ⟨_,ho,rfl⟩ ⟨_,ho2,rfl⟩ noFill_tuple_add seq_tuple_add PySem.F.slot_tuple_add PySem.F.entry_tuple_add (PySem.F.args_tuple_add_2 _ _)
   (tuple_addW2 t b vs.toArray ws.toArray n n2 dd dd2 sl sl2 (by simpa using hv) (by simpa using hw) (by rw [List.size_toArray,List.size_toArray];exact hsz)) ⟨ho,ho2, ?_⟩
  rw [e];exact h2 hw
def iW (n d:Nat):Option Int->Nat
 | none=>d
 | some v=>if v<0 then (v+(n:Int)).toNat else min v.toNat n
theorem DW (n d:Nat):iW n d none=d:=rfl
theorem JC (n d k:Nat):iW n d (some (k:Int))=min k n:=by
 show (if (k:Int)<0 then ((k:Int)+(n:Int)).toNat else min (k:Int).toNat n)=min k n;rw [if_neg (by omega),Int.toNat_natCast]
theorem WK (n d:Nat) (hd:d<=n) (o:Option Int):iW n d o<=n:=by
 cases o with
 | none=>exact hd
 | some v=>
   show (if v<0 then (v+(n:Int)).toNat else min v.toNat n)<=n
   by_cases hv:v<0
   ·rw [if_pos hv];omega
   ·rw [if_neg hv];exact Nat.min_le_right _ _
theorem Kl (v:Int) (n d:Nat):(if v<0 then max (v+(n:Int)) 0 else min v (n:Int))=((iW n d (some v):Nat):Int):=by
 show (if v<0 then max (v+(n:Int)) 0 else min v (n:Int))=(((if v<0 then (v+(n:Int)).toNat else min v.toNat n):Nat):Int)
 by_cases hv:v<0
 ·simp only [if_pos hv];omega
 ·simp only [if_neg hv];omega
theorem Jj (lo hi:Option Int) (n:Nat):Builtin.Slice.sliceAdjust lo hi 1 (n:Int)=(((iW n 0 lo:Nat):Int),((iW n n hi:Nat):Int)):=by
 have h1:¬((1:Int)<0):=by omega
 unfold Builtin.Slice.sliceAdjust;simp only [h1,if_false];refine Prod.ext ?_ ?_
 ·cases lo with
  | none=>rfl
  | some v=>exact Kl v n 0
 ·cases hi with
  | none=>rfl
  | some v=>exact Kl v n n
theorem Hv (i j:Nat):Builtin.Slice.slicePlaces (i:Int) (j:Int) 1=j - i:=by
 unfold Builtin.Slice.slicePlaces;have h1:(1:Int)>0:=by omega
 simp only [h1,if_true,Int.ediv_one];split<;>omega
theorem xR {v:Value} {o:Option Int} {Q:Option Int->Shared->Prop} (p:IsPart v o) (h:Q o s):wpAny (model prog w) A (Builtin.Slice.slicePartIndex v) Q E s:=by
 cases p with
 | none=>exact slicePart_none h
 | int i t=>exact slicePart_int h
theorem uM {sl:Addr} {vl vu:Value} {lo hi:Option Int} {n:Nat} {Q:Int×Int×Nat->Shared->Prop} (hs:s.heap.IsSliceOf sl vl vu .none) (pl:IsPart vl lo) (pu:IsPart vu hi)
 (h:Q (((iW n 0 lo:Nat):Int),1,iW n n hi - iW n 0 lo) s):wpAny (model prog w) A (Builtin.Slice.sliceApplied (.ref sl) (pure (n:Int))) Q E s:=by
 obtain ⟨os,hos,hcs,hds⟩:=id hs;unfold Builtin.Slice.sliceApplied Builtin.Slice.sliceFields;refine wpAny_bind (wpAny_bind (wpAny_field hos hds (x:=vl) rfl (wpAny_bind (wpAny_field hos hds (x:=vu) rfl (wpAny_bind (wpAny_field hos hds (x:= .none) rfl (wpAny_pure ?_)))))));refine wpAny_bind (slicePart_none ?_);show wpAny _ _ (if ((1:Int)==0)=true then _ else _) _ _ s;rw [if_neg (by decide)];refine wpAny_bind (xR pl (wpAny_bind (xR pu (wpAny_bind (wpAny_pure ?_)))));show wpAny _ _ (match Builtin.Slice.sliceAdjust lo hi 1 (n:Int) with |(lo,hi)=>pure (lo,(1:Int),Builtin.Slice.slicePlaces lo hi 1)) _ _ s;rw [Jj lo hi n];show wpAny _ _ (pure (((iW n 0 lo:Nat):Int),(1:Int),Builtin.Slice.slicePlaces ((iW n 0 lo:Nat):Int) ((iW n n hi:Nat):Int) 1)) _ _ s;rw [Hv];exact wpAny_pure h
theorem Pj (xs:Array Value) (i k:Nat):((List.range k).filterMap fun (m:Nat)=>xs[((i:Int)+(m:Int)*1).toNat]?).toArray=((xs.toList.drop i).take k).toArray:=by
 have e:(fun (m:Nat)=>xs[((i:Int)+(m:Int)*1).toNat]?)=fun m=>xs[i+m]? :=by
  funext m;have:((i:Int)+(m:Int)*1).toNat=i+m:=by omega
  rw [this]
 rw [e];have:=pick_run xs i k;rw [List.filterMap_map] at this;have e2:((fun x=>xs[x]?)∘fun x=>i+x)=fun m=>xs[i+m]? :=rfl;rw [e2] at this;rw [this]
theorem tX {t sl:Addr} {items:Array Value} {vl vu:Value} {lo hi:Option Int} {Q:Value->Shared->Prop} (ht:IsTup s.heap t items) (hs:s.heap.IsSliceOf sl vl vu .none) (pl:IsPart vl lo) (pu:IsPart vu hi)
 (hw:¬(iW items.size 0 lo=0/\iW items.size items.size hi=items.size))
 (h:Q (.ref s.heap.objs.size) {s with heap:=s.heap.push {cls:= .type "tuple",data:= .seq ((items.toList.drop (iW items.size 0 lo)).take (iW items.size items.size hi - iW items.size 0 lo)).toArray}})
 (hsz:items.size<=sizeLine):wpAny (model prog w) A (getItem (.ref t) (.ref sl)) Q E s:=by
 have J8:sizeOk (.seq ((items.toList.drop (iW items.size 0 lo)).take (iW items.size items.size hi - iW items.size 0 lo)).toArray):=by
  show ((items.toList.drop (iW items.size 0 lo)).take (iW items.size items.size hi - iW items.size 0 lo)).toArray.size<=sizeLine;rw [List.size_toArray,List.length_take,List.length_drop,Array.length_toList];omega
 have hj:iW items.size items.size hi<=items.size:=WK _ _ (Nat.le_refl _) hi;obtain ⟨os,hos,hcs,hds⟩:=id hs;have hTs:s.TypeIs (.ref sl) "slice" :=⟨os,hos,hcs⟩;unfold getItem
 try with_reducible refine wpAny_holding ?_
 first |refine wpAny_bind (wpAny_pure ?_)|skip
 refine wpAny_bind (wpAny_sequenceKey ht.typeIs (by decide) ?_)
 refine wpAny_bind (wpAny_callSpecial?_slot (name:=Str.ofString "__getitem__") ht.typeIs PyProof.Rows.slot_tuple_getitem
  (wpAny_call_entry PyProof.Rows.slot_tuple_getitem ht.typeIs entry_tuple_getitem ?_ (args_tuple_getitem _ _)))
 show wpAny _ _ (Builtin.Tuple.tupleItemsOf (.ref t) >>= _) _ _ s;refine wpAny_bind (tupleItemsOf_ ht ?_);refine wpAny_bind (wpAny_typeOf hTs ?_);rw [if_pos (by decide)];refine wpAny_bind (uM hs pl pu ?_)
 have hno:¬((((iW items.size 0 lo:Nat):Int)==0&&(1:Int)==1&&(iW items.size items.size hi - iW items.size 0 lo)==items.size)=true):=by
  intro q;rw [Bool.and_eq_true,Bool.and_eq_true] at q;have q1:((iW items.size 0 lo:Nat):Int)=0:=eq_of_beq q.1.1;have q2:iW items.size items.size hi - iW items.size 0 lo=items.size:=eq_of_beq q.2;exact hw ⟨by omega,by omega⟩
 show wpAny _ _ (if (((iW items.size 0 lo:Nat):Int)==0&&(1:Int)==1&&(iW items.size items.size hi - iW items.size 0 lo)==items.size)=true then _ else _) _ _ s;rw [if_neg hno,Pj]
 first
  | exact wpAny_bind (m:=Builtin.Tuple.tupleExact _) (wpAny_newObj_type (wpAny_pure ⟨_,rfl,wpAny_pure h⟩) J8)
  | exact wpAny_bind (m:=Builtin.Tuple.tupleExact _) (wpAny_newObj_type (wpAny_bind (wpAny_pure (wpAny_pure ⟨_,rfl,wpAny_pure h⟩))) J8)
  | exact wpAny_bind (wpAny_bind (m:=Builtin.Tuple.tupleExact _) (wpAny_newObj_type (wpAny_pure (wpAny_pure ⟨_,rfl,wpAny_pure h⟩)) J8))
  | exact wpAny_bind (wpAny_bind (m:=Builtin.Tuple.tupleExact _) (wpAny_newObj_type (wpAny_pure ⟨_,rfl,wpAny_pure h⟩) J8))
end
end HT
namespace L2
open PySem PySem.Spec PyProof.Rows
abbrev TO:=St->Hp->(Option Int->Hp->Prop)->Prop
def PO (X:Cx) (e:Option Expr) (t:TO):Prop:=
 ∀(pins:List (Addr×Obj)) (s:Shared) (σ:St) (H:Hp) (Q:Option Int->Hp->Prop),Inv X pins σ H s->t σ H Q ->
  wpAny (model X.prog X.w) X.A (evalPart e X.env) (fun u s'=>∃o H',Inv X pins σ H' s'/\IsPart u o/\Q o H') X.xe s
def Sy:TO:=fun _ H Q=>Q none H
def ZK (t:TE):TO:=fun σ H Q=>t σ H fun x H1=>∃i,x = .int i/\Q (some i) H1
section
variable {X:Cx} {e:Expr} {te:TE} {lo hi:Option Expr} {tl th:TO} {pos p2:Pos}
theorem j_:PO X none Sy:=by
 intro pins s σ H Q I h;rw [evalPart_none];exact wpAny_pure ⟨none,H,I,.none,h⟩
theorem j9 (h:PE X e te):PO X (some e) (ZK te):=by
 intro pins s σ H Q I hw;rw [evalPart_some];refine dj (h pins s σ H _ I hw) fun u s1 ⟨x,H1,I1,r1,q1⟩=> ?_;obtain ⟨i,rfl,q⟩:=q1;obtain ⟨t,rfl⟩:=r1;exact ⟨some i,H1,I1,.int i t,q⟩
def SlR (X:Cx) (r:V->Option Int->Option Int->Hp->VK->Prop):Prop:=
 ∀(pins:List (Addr×Obj)) (s:Shared) (σ:St) (H:Hp) (x:V) (v vl vu:Value) (lo hi:Option Int) (sl:Addr) (Q:VK),Inv X pins σ H s->RelV x v->s.heap.IsSliceOf sl vl vu .none->IsPart vl lo->IsPart vu hi->r x lo hi H Q ->
  ∃T id,typeLookup (.type T) "__getitem__" = pure (some (.builtin id))/\s.TypeIs v T/\wpAny (model X.prog X.w) X.A (getItem v (.ref sl)) (EP X pins σ Q) X.xe s
def tSl (r:V->Option Int->Option Int->Hp->VK->Prop) (te:TE) (tl th:TO):TE:=fun σ H Q=>te σ H fun x H1=>tl σ H1 fun l H2=>th σ H2 fun u H3=>r x l u H3 Q
theorem iJ {r:V->Option Int->Option Int->Hp->VK->Prop} (hr:SlR X r) (he:PE X e te) (hl:PO X lo tl) (hu:PO X hi th):PE X (.Subscript e (.Slice lo hi none p2) pos) (tSl r te tl th):=by
 intro pins s σ H Q I h;refine Subscript_ (dj (he pins s σ H _ I h) fun v s1 ⟨x,H1,I1,r1,q1⟩=> ?_);refine wpAny_Slice (dj (hl pins s1 σ H1 _ I1 q1) fun vl s2 ⟨l,H2,I2,pl,q2⟩=>dj (hu pins s2 σ H2 _ I2 q2) fun vu s3 ⟨u,H3,I3,pu,q3⟩=> ?_);rw [evalPart_none];refine wpAny_pure ?_;have I4:Inv X pins σ H3 {s3 with heap:=s3.heap.push {cls:= .type "slice",data:= .fields #[vl,vu,.none]}}:=I3.kept (t':=s3.toks) fun b ob q=>Heap.get?_push_of_some _ q;obtain ⟨T,id,hT,ht,hg⟩:=hr pins {s3 with heap:=s3.heap.push {cls:= .type "slice",data:= .fields #[vl,vu,.none]}} σ H3 x v vl vu l u s3.heap.objs.size Q I4 r1 (Heap.IsSliceOf.new ..) pl pu q3;show wpAny (model X.prog X.w) X.A (subscriptTail e (.Slice lo hi none p2) v (.ref s3.heap.objs.size)) (EP X pins σ Q) X.xe {s3 with heap:=s3.heap.push {cls:= .type "slice",data:= .fields #[vl,vu,.none]}};exact tail_any (ops:=[.ref s3.heap.objs.size,v]) ht hT hg (by with_unfolding_all rfl)
def mX (xs:List V) (lo hi:Option Int):List V:=(xs.drop (HT.iW xs.length 0 lo)).take (HT.iW xs.length xs.length hi - HT.iW xs.length 0 lo)
theorem vN (xs:List V) (lo hi:Option Int):(mX xs lo hi).length<=xs.length:=by
 unfold mX;rw [List.length_take,List.length_drop];omega
def Z7 (K:PySem.W.Frag):V->Option Int->Option Int->Hp->VK->Prop:=fun x lo hi H Q=>∃a xs,x = .ref a/\fY K H a xs /\
 ¬(HT.iW xs.length 0 lo=0/\HT.iW xs.length xs.length hi=xs.length) /\ ∀p,H p=none->Q (.ref p) (upd H p (.tup (mX xs lo hi)))
theorem Wz:SlR X (Z7 X.K):=by
 intro pins s σ H x v vl vu lo hi sl Q I rx hs pl pu h;obtain ⟨a,xs,rfl,hx,hw,q⟩:=h;cases rx;obtain ⟨its,r,ht,hz⟩:=I.tuple hx;have hlen:its.toArray.size=xs.length:=by rw [List.size_toArray];exact r.length.symm
 refine ⟨"tuple",_,PyProof.Rows.slot_tuple_getitem.lookup,ht.typeIs, ?_⟩;refine HT.tX ht hs pl pu (by rw [hlen];exact hw) ?_ (by rw [hlen];exact hz);rw [hlen];refine ⟨.ref s.heap.objs.size,_,I.laid (t':=s.toks) (o:= .tup (mX xs lo hi)) (fun b ob q=>Heap.get?_push_of_some _ q) (Nat.le_refl _) ?_,rfl,q _ (I.hok.fresh (Nat.le_refl _))⟩;exact ⟨Nat.le_trans (vN xs lo hi) hz,_,(r.drop (HT.iW xs.length 0 lo)).take (HT.iW xs.length xs.length hi - HT.iW xs.length 0 lo),IsTup.new _ _⟩
def VL (K:PySem.W.Frag):R2:=fun x y H Q=>∃a b xs ys,x = .ref a/\y = .ref b/\fY K H a xs/\fY K H b ys/\xs≠[]/\xs.length+ys.length<=sizeLine /\
 (ys=[]->Q (.ref a) H)/\(ys≠[] -> ∀p,H p=none->Q (.ref p) (upd H p (.tup (xs++ys))))
theorem Vals.Ci {xs:List V} {us:List Value} (r:Vals xs us):us=[]↔xs=[]:=by
 cases r with
 | nil=>simp
 | cons _ _=>simp
theorem T4:oh X (binaryOp .Add) (VL X.K):=by
 intro pins s σ H x y v u Q I rx ry h;obtain ⟨a,b,xs,ys,rfl,rfl,ha,hb,hx,hz,q1,q2⟩:=h;cases rx;cases ry;obtain ⟨its,r1,p1,_⟩:=I.tuple ha;obtain ⟨its2,r2,p2,_⟩:=I.tuple hb;refine HT.Vk p1 p2 (fun z=>hx (r1.Ci.mp z)) (fun z=>⟨.ref a,H,I,rfl,q1 (r2.Ci.mp z)⟩) (fun z=> ?_) (by rw [←r1.length,←r2.length];exact hz);refine ⟨.ref s.heap.objs.size,_,I.laid (t':=s.toks) (o:= .tup (xs++ys)) (fun b ob q=>Heap.get?_push_of_some _ q) (Nat.le_refl _) ?_,rfl,q2 (fun w=>z (r2.Ci.mpr w)) _ (I.hok.fresh (Nat.le_refl _))⟩;exact ⟨by rw [List.length_append];exact hz,_,r1.append r2,IsTup.new _ _⟩
end
end L2
namespace L2
open PySem PySem.Spec PyProof.Rows
def Nr (n:Nat) (i:Int):Option Nat:=if 0<=i then (if i<n then some i.toNat else none) else if -(n:Int)<=i then some (i+n).toNat else none
def ug {α:Type} (xs:List α) (i:Int):Option α:=(Nr xs.length i).bind fun j=>xs[j]?
theorem J1 {n:Nat} {i:Int} {j:Nat} (h:Nr n i=some j):seqIndex? i n=some j/\j<n /\ -(n:Int)<=i/\i<n:=by
 unfold Nr at h
 by_cases h0:0<=i
 ·rw [if_pos h0] at h
  by_cases h1:i<n
  ·rw [if_pos h1] at h
   have e:i.toNat=j:=Option.some.inj h;exact ⟨by rw [seqIndex_of h0 h1,e],by omega,by omega,h1⟩
  ·rw [if_neg h1] at h;cases h
 ·rw [if_neg h0] at h
  by_cases h1: -(n:Int)<=i
  ·rw [if_pos h1] at h
   have e:(i+n).toNat=j:=Option.some.inj h;exact ⟨by rw [seqIndex_neg (by omega) h1,e],by omega,h1,by omega⟩
  ·rw [if_neg h1] at h;cases h
theorem Dd {α:Type} {xs:List α} {i:Int} {v:α} (h:ug xs i=some v):∃j,seqIndex? i xs.length=some j/\xs[j]? = some v/\j<xs.length /\ -(xs.length:Int)<=i/\i<xs.length:=by
 unfold ug at h;cases e:Nr xs.length i with
 | none=>rw [e] at h;cases h
 | some j=>
   rw [e] at h;obtain ⟨h1,h2,h3,h4⟩:=J1 e;exact ⟨j,h1,h,h2,h3,h4⟩
theorem aU {α:Type} {xs:List α} {j:Nat} {v:α} (h:xs[j]? = some v):ug xs (j:Int)=some v:=by
 have hj:j<xs.length:=(List.getElem?_eq_some_iff.mp h).1
 have e:Nr xs.length (j:Int)=some j:=by
  unfold Nr;rw [if_pos (by omega),if_pos (by omega)];simp
 unfold ug;rw [e];exact h
theorem Ry {α:Type} (xs:List α) (v:α):ug (xs++[v]) (-1)=some v:=by
 have hl:(xs++[v]).length=xs.length+1:=by simp
 have e:Nr (xs++[v]).length (-1)=some xs.length:=by
  unfold Nr;rw [hl,if_neg (by decide),if_pos (by omega)];congr 1;omega
 unfold ug;rw [e];show (xs++[v])[xs.length]? = some v;simp
def Vr (b:Expr):Prop:=∀o i,subscripted b false o i=operate [o,i] (getItem o i)
def Nz (X:Cx) (r:R2):Prop:=
 ∀(value slice:Expr) (pins:List (Addr×Obj)) (s:Shared) (σ:St) (H:Hp) (x y:V) (v u:Value) (Q:VK),Inv X pins σ H s->RelV x v->RelV y u->r x y H Q ->
  subscripted slice false v u=operate [v,u] (getItem v u)->wpAny (model X.prog X.w) X.A (subscriptTail value slice v u) (EP X pins σ Q) X.xe s
def MtR (X:Cx) (id:String) (r:V->List V->Hp->VK->Prop):Prop:=
 ∀(pins:List (Addr×Obj)) (s:Shared) (σ:St) (H:Hp) (x:V) (xs:List V) (v:Value) (us:List Value) (Q:VK),Inv X pins σ H s->RelV x v->Vals xs us->r x xs H Q ->
  wpAny (model X.prog X.w) X.A (call (.builtin id) (v::us)) (EP X pins σ Q) X.xe s
section
variable {X:Cx} {a b:Expr} {ta tb:TE} {pos:Pos}
theorem Nz.or {r r':R2} (h:Nz X r) (h':Nz X r'):Nz X (fun x y H Q=>r x y H Q\/r' x y H Q):=by
 intro value slice pins s σ H x y v u Q I rx ry q hs;rcases q with q|q
 ·exact h value slice pins s σ H x y v u Q I rx ry q hs
 ·exact h' value slice pins s σ H x y v u Q I rx ry q hs
theorem aN {r:R2} (hr:Nz X r) (ha:PE X a ta) (hb:PE X b tb) (hs:Vr b):PE X (.Subscript a b pos) (Jt r ta tb):=by
 intro pins s σ H Q I h;exact Subscript_ (Y0 ha hb I h fun v u s2 x y H2 I2 rx ry q=>hr a b pins s2 σ H2 x y v u Q I2 rx ry q (hs _ _))
def W2 (K:PySem.W.Frag):R2:=fun x y H Q=>∃p xs i v,x = .ref p/\y = .int i/\aV K H p xs/\ug xs i=some v/\Q v H
def BW (K:PySem.W.Frag):R2:=fun x y H Q=>∃p xs i v,x = .ref p/\y = .int i/\fY K H p xs/\ug xs i=some v/\Q v H
def aae:R2:=fun x y H Q=>∃z i c,x = .str z/\y = .int i/\z.length<=sizeLine/\ug z.cps.toList i=some c/\Q (.str ⟨#[c]⟩) H
theorem J0:Nz X (W2 X.K):=by
 intro value slice pins s σ H x y v u Q I rx ry h hs;obtain ⟨p,xs,i,z,rfl,rfl,hq,he,q⟩:=h;cases rx;obtain ⟨t,rfl⟩:=ry;obtain ⟨its,r,pl,hz⟩:=I.list hq;obtain ⟨j,h1,h2,h3,h4,h5⟩:=Dd he;obtain ⟨w,ew,rw'⟩:=r.get h2;have hl:=r.length;have hn:=uX;have fin:EP X pins σ Q w s:=⟨z,H,I,rw',q⟩
 by_cases h0:0<=i
 ·have hj:i.toNat=j:=by
   rw [seqIndex_of h0 h5] at h1;exact Option.some.inj h1
  exact item_listR pl.isList h0 (by omega) (by rw [hj];simpa using ew) fin hs
 ·have hj:(i+(its.toArray.size:Int)).toNat=j:=by
   rw [seqIndex_neg (by omega) h4] at h1;rw [List.size_toArray,←hl];exact Option.some.inj h1
  exact subscriptTail_builtinR (x:=w) pl.isList.typeIs slot_list_getitem.lookup
   (wpAny_getItem_list_neg (Q:=fun r s'=>r=w/\EP X pins σ Q r s') pl.isList (by omega) (by rw [List.size_toArray]<;>omega) (by omega) (by rw [hj];simpa using ew) ⟨rfl,fin⟩) hs
theorem Qy:Nz X (BW X.K):=by
 intro value slice pins s σ H x y v u Q I rx ry h hs;obtain ⟨p,xs,i,z,rfl,rfl,hq,he,q⟩:=h;cases rx;obtain ⟨t,rfl⟩:=ry;obtain ⟨its,r,pl,hz⟩:=I.tuple hq;obtain ⟨j,h1,h2,h3,h4,h5⟩:=Dd he;obtain ⟨w,ew,rw'⟩:=r.get h2;have hl:=r.length;have hn:=uX;have fin:EP X pins σ Q w s:=⟨z,H,I,rw',q⟩
 exact subscriptTail_builtinR (x:=w) pl.typeIs slot_tuple_getitem.lookup
  (getItem_tuple (j:=j) (Q:=fun r s'=>r=w/\EP X pins σ Q r s') pl (by omega) (by omega) (by rw [List.size_toArray,←hl];exact h1) (by simpa using ew) ⟨rfl,fin⟩) hs
theorem Yk:Nz X aae:=by
 intro value slice pins s σ H x y v u Q I rx ry h hs;obtain ⟨z,i,c,rfl,rfl,hz,he,q⟩:=h;obtain ⟨t,rfl⟩:=rx;obtain ⟨t',rfl⟩:=ry;obtain ⟨j,h1,h2,h3,h4,h5⟩:=Dd he;have hl:z.cps.toList.length=z.length:=by simp [Str.length]
 rw [hl] at h1 h4 h5;have hn:=uX
 exact tail_any (typeIs_str s z t) slot_str_getitem.lookup (getItem_str (c:=c) (by
  have e1:decide (i < -(2 ^ 63:Int))=false:=decide_eq_false (by omega);have e2:decide (i≥2 ^ 63)=false:=decide_eq_false (by omega);rw [e1,e2,Bool.or_false]) (by rw [h1];simpa using h2) ⟨.str ⟨#[c]⟩,H,I.tok _,⟨_,rfl⟩,q⟩) hs
def rIx (K:PySem.W.Frag):R2:=fun x y H Q=>W2 K x y H Q\/BW K x y H Q\/aae x y H Q
theorem Yl:Nz X (rIx X.K):=J0.or (Qy.or Yk)
theorem Ij (its:List Value) (n j:Nat) (u:Value):Obj.mapSeq (·.setIfInBounds j u) {cls:= .type "list",data:= .seq its.toArray n}={cls:= .type "list",data:= .seq (its.set j u).toArray n}:=by
 simp [Obj.mapSeq]
theorem Inv.lst {pins:List (Addr×Obj)} {σ:St} {H:Hp} {s:Shared} {p:Addr} {xs:List V} (I:Inv X pins σ H s) (h:H p=some (.lst xs)):
 ∃(its:List Value) (n:Nat),Vals xs its/\s.heap.get? p=some {cls:= .type "list",data:= .seq its.toArray n}/\xs.length<=sizeLine:=by
 obtain ⟨z,its,n,r,e⟩:=I.hok p _ h;exact ⟨its,n,r,e,z⟩
theorem Inv.Yb {pins:List (Addr×Obj)} {σ:St} {H:Hp} {s:Shared} {p:Addr} {xs ys:List V} {its its':List Value} {n n':Nat} {f:Obj->Obj} (I:Inv X pins σ H s) (h:H p=some (.lst xs))
 (ho:s.heap.get? p=some {cls:= .type "list",data:= .seq its.toArray n}) (hf:f {cls:= .type "list",data:= .seq its.toArray n}={cls:= .type "list",data:= .seq its'.toArray n'}) (r:Vals ys its') (hz:ys.length<=sizeLine) (t:Nat):
 Inv X pins σ (upd H p (.lst ys)) {s with heap:=s.heap.update p f,toks:=t}:=by
 have e:(s.heap.update p f).get? p=some {cls:= .type "list",data:= .seq its'.toArray n'}:=by
  rw [Heap.get?_update_self f ho (by rw [hf]<;>rfl),hf]
 refine I.write (x:=p) (e:=p) (by rw [h];trivial) (.inl rfl) (fun b u hb q=>(Heap.get?_update_other _ _ (Ne.symm hb)).trans q) ⟨_,e⟩ ?_;exact ⟨hz,its',n',r,e⟩
def Z9:V->V->V->Hp->(Hp->Prop)->Prop:=fun o i v H Q=>∃p xs k j,o = .ref p/\i = .int k/\H p=some (.lst xs)/\Nr xs.length k=some j/\Q (upd H p (.lst (xs.set j v)))
theorem set_list:ab2 X Z9:=by
 intro pins s σ H o i v ov iv u Q I ro ri rv h;obtain ⟨p,xs,k,j,rfl,rfl,hp,hj,q⟩:=h;cases ro;obtain ⟨t,rfl⟩:=ri;obtain ⟨its,n,r,ho,hz⟩:=I.lst hp;obtain ⟨h1,h2,h3,h4⟩:=J1 hj;have hl:=r.length;have hn:=uX
 have I':Inv X pins σ (upd H p (.lst (xs.set j v))) {s with heap:=s.heap.update p (Obj.mapSeq (·.setIfInBounds j u))}:=
  I.Yb hp ho (Ij its n j u) (r.set rv j) (by rw [List.length_set];exact hz) s.toks
 by_cases h0:0<=k
 ·have hk:k.toNat=j:=by
   rw [seqIndex_of h0 h4] at h1;exact Option.some.inj h1
  exact PySem.W.ki_setAt ho h0 (by omega) (by rw [List.size_toArray,←hl];exact h4) (by rw [hk];exact ⟨_,I',q⟩)
 ·have hk:(k+(its.toArray.size:Int)).toNat=j:=by
   rw [seqIndex_neg (by omega) h3] at h1;rw [List.size_toArray,←hl];exact Option.some.inj h1
  exact PySem.W.ki_setBack ho (by omega) (by rw [List.size_toArray,←hl];exact h3) (by omega) (by rw [hk];exact ⟨_,I',q⟩)
theorem BL (lo hi:Option Int) (n:Nat):(sliceBounds lo hi none n).1=((HT.iW n 0 lo:Nat):Int)/\(sliceBounds lo hi none n).2.1=((HT.iW n n hi:Nat):Int)/\(sliceBounds lo hi none n).2.2=1:=by
 refine ⟨?_, ?_,rfl⟩
 ·cases lo with
  | none=>simp [sliceBounds,HT.iW]
  | some i=>
    simp only [sliceBounds,HT.iW,Option.getD_none,show (1:Int)>0 by decide,if_true]
    by_cases h:i<0
    ·simp only [h,if_true]<;>omega
    ·simp only [h,if_false]<;>omega
 ·cases hi with
  | none=>simp [sliceBounds,HT.iW]
  | some i=>
    simp only [sliceBounds,HT.iW,Option.getD_none,show (1:Int)>0 by decide,if_true]
    by_cases h:i<0
    ·simp only [h,if_true]<;>omega
    ·simp only [h,if_false]<;>omega
theorem zP (its:List Value) (lo hi:Option Int):slicePick its.toArray lo hi none=((its.drop (HT.iW its.length 0 lo)).take (HT.iW its.length its.length hi - HT.iW its.length 0 lo)).toArray:=by
 obtain ⟨h1,h2,h3⟩:=BL lo hi its.toArray.size;unfold slicePick;rw [h1,h2,h3];simp only [sliceRange_one,pick_run,List.size_toArray]<;>rfl
def Z8 (K:PySem.W.Frag):V->Option Int->Option Int->Hp->VK->Prop:=fun x lo hi H Q=>∃a xs,x = .ref a/\aV K H a xs /\ ∀p,H p=none->Q (.ref p) (upd H p (.lst (mX xs lo hi)))
theorem SQ:SlR X (Z8 X.K):=by
 intro pins s σ H x v vl vu lo hi sl Q I rx hs pl pu h;obtain ⟨a,xs,rfl,hx,q⟩:=h;cases rx;obtain ⟨its,r,ht,hz⟩:=I.list hx;have hlen:=r.length;refine ⟨"list",_,slot_list_getitem.lookup,ht.isList.typeIs, ?_⟩;refine wpAny_getItem_list_slice ht.isList hs pl pu .none (by simp) ?_ (by rw [List.size_toArray]<;>omega);rw [zP,←hlen];refine ⟨.ref s.heap.objs.size,_,I.laid (t':=s.toks) (o:= .lst (mX xs lo hi)) (fun b ob q=>Heap.get?_push_of_some _ q) (Nat.le_refl _) ?_,rfl,q _ (I.hok.fresh (Nat.le_refl _))⟩;exact ⟨Nat.le_trans (vN xs lo hi) hz,_,0,(r.drop (HT.iW xs.length 0 lo)).take (HT.iW xs.length xs.length hi - HT.iW xs.length 0 lo),Heap.get?_push_size _ rfl⟩
def tY:V->Bool
 | .non=>true
 | .bl _=>true
 | .int _=>true
 | .str _=>true
 | _=>false
def Wb:V->V->Bool
 | .non,.non=>true
 | .bl a,.bl b=>a==b
 | .bl a,.int b=>(if a then 1 else 0)==b
 | .int a,.bl b=>a==(if b then 1 else 0)
 | .int a,.int b=>a==b
 | .str a,.str b=>a==b
 | _,_=>false
theorem YJ {A:Around} {s:Shared} {y x:V} {u v:Value} (ry:RelV y u) (rx:RelV x v) (fy:tY y=true) (fx:tY x=true):SeqAt.EqAt A s u v (Wb y x):=by
 cases y with
 | non=>
   cases ry;cases x with
   | non=>cases rx;exact SeqAt.EqAt.same _
   | bl b=>cases rx;exact SeqAt.EqAt.none_bool b
   | int b=>obtain ⟨t,rfl⟩:=rx;exact SeqAt.EqAt.none_int b t
   | str b=>obtain ⟨t,rfl⟩:=rx;exact SeqAt.EqAt.none_str b t
   | _=>exact absurd (show false=true from fx) Bool.false_ne_true
 | bl a=>
   cases ry;cases x with
   | non=>cases rx;exact SeqAt.EqAt.bool_none a
   | bl b=>cases rx;exact SeqAt.EqAt.bool_bool a b
   | int b=>obtain ⟨t,rfl⟩:=rx;exact SeqAt.EqAt.bool_int a b t
   | str b=>obtain ⟨t,rfl⟩:=rx;exact SeqAt.EqAt.bool_str a b t
   | _=>exact absurd (show false=true from fx) Bool.false_ne_true
 | int a=>
   obtain ⟨t',rfl⟩:=ry;cases x with
   | non=>cases rx;exact SeqAt.EqAt.int_none a t'
   | bl b=>cases rx;exact SeqAt.EqAt.int_bool a t' b
   | int b=>obtain ⟨t,rfl⟩:=rx;exact SeqAt.EqAt.int_int a t' b t
   | str b=>obtain ⟨t,rfl⟩:=rx;exact SeqAt.EqAt.int_str a t' b t
   | _=>exact absurd (show false=true from fx) Bool.false_ne_true
 | str a=>
   obtain ⟨t',rfl⟩:=ry;cases x with
   | non=>cases rx;exact SeqAt.EqAt.str_none a t'
   | bl b=>cases rx;exact SeqAt.EqAt.str_bool a t' b
   | int b=>obtain ⟨t,rfl⟩:=rx;exact SeqAt.EqAt.str_int a t' b t
   | str b=>obtain ⟨t,rfl⟩:=rx;exact SeqAt.EqAt.str_str a t' b t
   | _=>exact absurd (show false=true from fx) Bool.false_ne_true
 | _=>exact absurd (show false=true from fy) Bool.false_ne_true
def Vd (x:V) (u:Value):Bool:=match u with
 | .none=>Wb .non x
 | .bool b=>Wb (.bl b) x
 | .int i _=>Wb (.int i) x
 | .str z _=>Wb (.str z) x
 | _=>false
theorem Q0 {x y:V} {u:Value} (r:RelV y u) (f:tY y=true):Vd x u=Wb y x:=by
 cases y with
 | non=>cases r;rfl
 | bl b=>cases r;rfl
 | int i=>obtain ⟨t,rfl⟩:=r;rfl
 | str z=>obtain ⟨t,rfl⟩:=r;rfl
 | _=>exact absurd (show false=true from f) Bool.false_ne_true
theorem Dg {x:V}:∀{xs:List V} {us:List Value},Vals xs us->xs.all tY=true->us.any (Vd x)=xs.any fun y=>Wb y x
 | _,_,.nil,_=>rfl
 | y::xs,u::us,.cons r t,f=>by
   rw [List.all_cons,Bool.and_eq_true] at f;rw [List.any_cons,List.any_cons,Q0 r f.1,Dg t f.2]
theorem yD {A:Around} {s:Shared} {x:V} {v:Value} (rx:RelV x v) (fx:tY x=true):∀{xs:List V} {us:List Value},Vals xs us->xs.all tY=true -> ∀u∈us,SeqAt.EqAt A s u v (Vd x u)
 | _,_,.nil,_=>fun u hu=>by cases hu
 | y::xs,u::us,.cons r t,f=>fun u' hu=>by
   rw [List.all_cons,Bool.and_eq_true] at f;rcases List.mem_cons.mp hu with rfl|hu
   ·rw [Q0 r f.1];exact YJ r rx f.1 fx
   ·exact yD rx fx t f.2 u' hu
def inV (x:V) (xs:List V):Bool:=xs.any fun y=>Wb y x
def rIn (K:PySem.W.Frag) (neg:Bool):R2:=fun x y H Q=>∃p xs,y = .ref p/\(aV K H p xs\/fY K H p xs)/\tY x=true/\xs.all tY=true/\Q (.bl (if neg then !inV x xs else inV x xs)) H
theorem K_:oh X (compareOp .In) (rIn X.K false):=by
 intro pins s σ H x y v u Q I rx ry h;obtain ⟨p,xs,rfl,hq,fx,fs,q⟩:=h;cases ry;rcases hq with hq|hq
 ·obtain ⟨its,r,pl,hz⟩:=I.list hq
  refine SeqAt.in_listAt (Vd x) pl.isList (fun w hw=>yD rx fx r fs w (by simpa using hw)) ⟨.bl _,H,I,rfl, ?_⟩;rw [show its.toArray.any (Vd x)=its.any (Vd x) by simp,Dg r fs];exact q
 ·obtain ⟨its,r,pl,hz⟩:=I.tuple hq
  refine SeqAt.in_tupleAt (Vd x) pl (fun w hw=>yD rx fx r fs w (by simpa using hw)) ⟨.bl _,H,I,rfl, ?_⟩;rw [show its.toArray.any (Vd x)=its.any (Vd x) by simp,Dg r fs];exact q
theorem CT:iZ X (.builtin "len") (fun xs H Q=>∃p ys,xs=[.ref p]/\(aV X.K H p ys\/fY X.K H p ys)/\Q (.int ys.length) H):=by
 intro pins s σ H xs us Q I r h;obtain ⟨p,ys,rfl,hq,q⟩:=h;obtain ⟨u,rfl,rx⟩:=vals1 r;cases rx;have hn:=uX;rcases hq with hq|hq
 ·obtain ⟨its,r',pl,hz⟩:=I.list hq
  have hlen:=r'.length;exact Calls.call_len_list pl.isList (by simp only [List.size_toArray]<;>omega) ⟨.int ys.length,H,I.tok _,⟨s.toks+1,by rw [List.size_toArray,hlen]⟩,q⟩
 ·obtain ⟨its,r',pl,hz⟩:=I.tuple hq
  have hlen:=r'.length;exact len_tuple pl (by simp only [List.size_toArray]<;>omega) ⟨.int ys.length,H,I.tok _,⟨s.toks+1,by rw [List.size_toArray,hlen]⟩,q⟩
theorem CQ:iZ X (.type "list") (fun xs H Q=>∃p ys,xs=[.ref p]/\(aV X.K H p ys\/fY X.K H p ys) /\ ∀l,H l=none->Q (.ref l) (upd H l (.lst ys))):=by
 intro pins s σ H xs us Q I r h;obtain ⟨p,ys,rfl,hq,q⟩:=h;obtain ⟨u,rfl,rx⟩:=vals1 r;cases rx
 have fin:∀(its:List Value),Vals ys its->ys.length<=sizeLine -> ∀(h':Heap) (c':Nat),(∀b o',s.heap.get? b=some o'->h'.get? b=some o') ->
  h'.get? s.heap.objs.size=some {cls:= .type "list",dict:=none,data:= .seq its.toArray c',slots:= #[]}->EP X pins σ Q (.ref s.heap.objs.size) {s with heap:=h'}:=fun its r' hz h' c' kp e=>
  ⟨.ref s.heap.objs.size,_,I.laid (t':=s.toks) kp (Nat.le_refl _) (show cU X.prog X.w _ h' _ (.lst ys) from ⟨hz,its,c',r',e⟩),rfl,q _ (I.hok.fresh (Nat.le_refl _))⟩
 rcases hq with hq|hq
 ·obtain ⟨its,r',pl,hz⟩:=I.list hq
  have hlen:=r'.length;obtain ⟨o,ho,hc,n,hd⟩:=pl.isList;exact call_list_seq p (.inl rfl) ho hc hd (fun h' c' kp e=>fin its r' hz h' c' kp e) (by simp only [List.size_toArray]<;>omega)
 ·obtain ⟨its,r',pl,hz⟩:=I.tuple hq
  have hlen:=r'.length;obtain ⟨o,ho,hc,n,hd⟩:=pl;exact call_list_seq p (.inr rfl) ho hc hd (fun h' c' kp e=>fin its r' hz h' c' kp e) (by simp only [List.size_toArray]<;>omega)
def tyV (K:PySem.W.Frag) (T:String) (x:V) (H:Hp):Prop:=match x with
 | .str _=>T = "str"
 | .int _=>T = "int"
 | .ref p=>(T = "list" /\ ∃xs,aV K H p xs)\/(T = "tuple" /\ ∃o,K.lookup p=some o/\o.cls = .type "tuple" /\ o.dict=none) \/
    (T = "dict" /\ ((∃kvs,H p=some (.dK kvs)) \/ ∃kvs,H p=some (.dT kvs)))\/(T = "set" /\ ∃S n,H p=some (.set S n))
 | _=>False
theorem Og {pins:List (Addr×Obj)} {σ:St} {H:Hp} {s:Shared} {T:String} {x:V} {v:Value} (I:Inv X pins σ H s) (r:RelV x v) (ty:tyV X.K T x H):
 s.TypeIs v T /\ ∀a,v = .ref a -> ∃ob,s.heap.get? a=some ob/\ob.dict=none:=by
 cases x with
 | str z=>
   obtain ⟨t,rfl⟩:=r;cases (show T = "str" from ty);exact ⟨typeIs_str s z t,fun _ e=>nomatch e⟩
 | int i=>
   obtain ⟨t,rfl⟩:=r;cases (show T = "int" from ty);exact ⟨typeIs_int s i t,fun _ e=>nomatch e⟩
 | ref p=>
   cases r;rcases ty with ⟨rfl,xs,hq⟩|⟨rfl,o,hk,hc,hd⟩|⟨rfl,hk⟩|⟨rfl,S,n,hk⟩
   ·obtain ⟨its,_,pl,_⟩:=I.list hq
    refine ⟨pl.isList.typeIs,fun a e=> ?_⟩;cases e;obtain ⟨o,n,e,c,hd,_⟩:=pl;exact ⟨o,e,hd⟩
   ·refine ⟨⟨o,I.rJ p o hk,hc⟩,fun a e=> ?_⟩
    cases e;exact ⟨o,I.rJ _ o hk,hd⟩
   ·have z:∃o,s.heap.get? p=some o/\o.ExactDict:=by
     rcases hk with ⟨kvs,hk⟩|⟨kvs,hk⟩
     ·obtain ⟨_,_,_,_,o,_,_,e,ex,_⟩:=I.hok p _ hk
      exact ⟨o,e,ex⟩
     ·obtain ⟨_,_,_,_,o,_,_,e,ex,_⟩:=I.hok p _ hk
      exact ⟨o,e,ex⟩
    obtain ⟨o,e,ex⟩:=z;refine ⟨⟨o,e,ex.1⟩,fun a e2=> ?_⟩;cases e2;exact ⟨o,e,ex.2.1⟩
   ·obtain ⟨o,_,_,_,e,ex,_⟩:=I.hok p _ hk
    refine ⟨⟨o,e,ex.1⟩,fun a e2=> ?_⟩;cases e2;exact ⟨o,e,ex.2.1⟩
 | _=>exact False.elim ty
def ZV (K:PySem.W.Frag) (T:String) (r:V->List V->Hp->VK->Prop) (to:TE):TE:=fun σ H Q=>to σ H fun x H1=>tyV K T x H1/\r x [] H1 Q
def tBM (K:PySem.W.Frag) (T:String) (r:V->List V->Hp->VK->Prop) (to:TE) (t:TA):TE:=fun σ H Q=>to σ H fun x H1=>tyV K T x H1/\t σ H1 fun xs H2=>r x xs H2 Q
variable {o e:Expr} {es:List Expr} {to:TE} {t:TA} {name:Str} {apos cpos:Pos} {T id:String} {r:V->List V->Hp->VK->Prop}
theorem Xg (pa:PlainAttrs T) (slot:Slot T name id) (hty:typeOf (.builtin id)=pure (.type "method_descriptor")) (hm:MtR X id r) (ho:PE X o to)
 (hbase:attributeBase o name X.env (eval o X.env)=eval o X.env:=by rfl) (hline:(apos.endLine==cpos.line)=true:=by rfl):PE X (.Call (.Attribute o name apos) [] [] cpos) (ZV X.K T r to):=by
 intro pins s σ H Q I h;refine wpAny_Call_method0_late hbase hline (dj (ho pins s σ H _ I h) fun v s1 ⟨x,H1,I1,r1,ty,q1⟩=> ?_);obtain ⟨h1,h2⟩:=Og I1 r1 ty;exact ⟨T,id,pa,slot,hty,h1,h2,Calls.callWith_builtin rfl (PySem.evalArgs_none (hm pins s1 σ H1 x [] v [] Q I1 r1 .nil q1))⟩
theorem VN (pa:PlainAttrs T) (slot:Slot T name id) (hty:typeOf (.builtin id)=pure (.type "method_descriptor")) (hm:MtR X id r) (ho:PE X o to) (ha:PA X (e::es) t)
 (hbase:attributeBase o name X.env (eval o X.env)=eval o X.env:=by rfl)
 (hfew:((backTo cpos (starEach (e::es) X.env)).all (fun x=> !x.1)&&(backToKw cpos (keywordEach [] X.env)).all (fun x=>x.1.isSome)
   && decide ((e::es).length+([]:List Keyword).length+(if ([]:List Keyword).isEmpty then 0 else 1)<30))=true:=by rfl)
 (hline:(apos.endLine==cpos.line)=true:=by rfl) (hs:starEach (e::es) X.env=(false,eval e X.env)::starEach es X.env:=by rfl) (hplain:(backTo cpos (starEach es X.env)).any (·.1)=false:=by rfl):
 PE X (.Call (.Attribute o name apos) (e::es) [] cpos) (tBM X.K T r to t):=by
 intro pins s σ H Q I h;refine wpAny_Call_method_late hbase hfew hline rfl (dj (ho pins s σ H _ I h) fun v s1 ⟨x,H1,I1,r1,ty,q1⟩=> ?_);obtain ⟨h1,h2⟩:=Og I1 r1 ty;refine ⟨T,id,pa,slot,hty,h1,h2, ?_⟩;have hA:=ha cpos pins s1 σ H1 _ I1 q1;rw [hs] at hA ⊢;refine Calls.callWith_builtin (by show (false||(backTo cpos (starEach es X.env)).any (·.1))=false;rw [hplain]<;>rfl) (Calls.evalArgs_plain ?_);exact dj hA fun us s2 ⟨vs,H2,I2,r2,q2⟩=>hm pins s2 σ H2 x vs v us Q I2 r1 r2 q2
end
end L2
namespace L2
open PySem PySem.Spec PyProof.Rows
def MtM (X:Cx) (id:String) (r:V->List V->Hp->VK->Prop):Prop:=
 ∀(pins:List (Addr×Obj)) (s:Shared) (σ:St) (H:Hp) (x:V) (xs:List V) (v:Value) (us:List Value) (Q:VK),Inv X pins σ H s->RelV x v->Vals xs us->r x xs H Q ->
  wpAny (model X.prog X.w) X.A (call (.builtin id) (v::us)) (EP X pins σ Q) X.xe s
theorem Vals.one {x:V} {us:List Value} (h:Vals [x] us):∃u,us=[u]/\RelV x u:=by
 cases h with
 | cons r t=>cases t;exact ⟨_,rfl,r⟩
theorem Vals.zero:∀{us:List Value},Vals [] us->us=[]
 | _,.nil=>rfl
theorem Vals.dropLast {xs:List V} {us:List Value} (h:Vals xs us):Vals xs.dropLast us.dropLast:=by
 induction h with
 | nil=>exact .nil
 | cons r t ih=>
   cases t with
   | nil=>exact .nil
   | cons q t'=>exact .cons r ih
theorem Vals.eraseIdx:∀{xs:List V} {us:List Value} (i:Nat),Vals xs us->Vals (xs.eraseIdx i) (us.eraseIdx i)
 | _,_,_,.nil=> .nil
 | _,_,0,.cons _ t=>t
 | _,_,i+1,.cons r t=> .cons r (Vals.eraseIdx i t)
theorem Vals.rep {xs:List V} {us:List Value} (h:Vals xs us):∀k:Nat,Vals (List.replicate k xs).flatten (List.replicate k us).flatten
 | 0=> .nil
 | k+1=>by
   rw [List.replicate_succ,List.replicate_succ,List.flatten_cons,List.flatten_cons];exact Vals.append h (Vals.rep h k)
theorem IK {α:Type} (l:List α):l.eraseIdx (l.length - 1)=l.dropLast:=by
 induction l with
 | nil=>rfl
 | cons a r ih=>
   cases r with
   | nil=>rfl
   | cons b r=>
     have e:(a::b::r).length - 1=((b::r).length - 1)+1:=by
      have h1:(a::b::r).length=r.length+2:=rfl;have h2:(b::r).length=r.length+1:=rfl;omega
     rw [e,List.eraseIdx_cons_succ,ih]
     all_goals rfl
theorem Ao {α:Type}:∀(l:List α) (i:Nat),(l.eraseIdx i).length<=l.length
 | [],_=>Nat.le_refl _
 | _::_,0=>Nat.le_succ _
 | _::r,i+1=>Nat.succ_le_succ (Ao r i)
theorem foldl_rep (its:List Value):∀(k:Nat) (acc:List Value),
 List.foldl (fun x1 x2=>x1++x2) acc.toArray (List.replicate k its.toArray)=(acc++(List.replicate k its).flatten).toArray
 | 0,acc=>by simp
 | k+1,acc=>by
   have e:acc.toArray++its.toArray=(acc++its).toArray:=by simp
   have e2:(acc++its)++(List.replicate k its).flatten=acc++(List.replicate (k+1) its).flatten:=by
    rw [List.replicate_succ,List.flatten_cons,List.append_assoc]
   rw [←e2,←foldl_rep its k (acc++its),←e,List.replicate_succ,List.foldl_cons]
section
variable {X:Cx} {pins:List (Addr×Obj)} {σ:St} {H:Hp} {s:Shared} {l b:Addr} {xs ys zs:List V}
theorem Inv.Qq {its its':List Value} {n:Nat} {f:Array Value->Array Value} {t':Nat} (I:Inv X pins σ H s) (hH:H l=some (.lst xs))
 (e:s.heap.get? l=some {cls:= .type "list",data:= .seq its.toArray n}) (hf:f its.toArray=its'.toArray) (hv:Vals ys its') (hz:ys.length<=sizeLine):
 Inv X pins σ (upd H l (.lst ys)) {s with heap:=s.heap.update l (Obj.mapSeq f),toks:=t'}:=by
 have q:=PySem.IsL.update e f;rw [hf] at q;refine I.write (x:=l) (e:=l) (by rw [hH];exact trivial) (.inl rfl) (fun b' u hb hu=>(Heap.get?_update_other s.heap (Obj.mapSeq f) (Ne.symm hb)).trans hu) ⟨_,q⟩ ?_;exact ⟨hz,its',_,hv,q⟩
theorem Inv.aay {its:List Value} {t':Nat} (I:Inv X pins σ H s) (hv:Vals ys its) (hz:ys.length<=sizeLine):
 Inv X pins σ (upd H s.heap.objs.size (.lst ys)) {s with heap:=s.heap.push {cls:= .type "list",data:= .seq its.toArray},toks:=t'}:=
 I.laid (fun _ _ q=>Heap.get?_push_of_some _ q) (Nat.le_refl _) ⟨hz,its,0,hv,Heap.get?_push_size _ rfl⟩
theorem Inv.fresh (I:Inv X pins σ H s):H s.heap.objs.size=none:=I.hok.fresh (Nat.le_refl _)
theorem Inv.Cj (I:Inv X pins σ H s) (hH:H l=some (.lst xs)):xs.length<=sizeLine /\ ∃(its:List Value) (n:Nat),Vals xs its/\xs.length=its.length/\s.heap.get? l=some {cls:= .type "list",data:= .seq its.toArray n}:=by
 obtain ⟨z,its,n,r,e⟩:=I.hok l _ hH;exact ⟨z,its,n,r,r.length,e⟩
theorem Et {n:Nat} (h:n<=sizeLine):Builtin.List.listTooLong n=false:=by
 unfold Builtin.List.listTooLong;exact decide_eq_false (by omega)
end
section
variable {X:Cx}
def JF:V->List V->Hp->VK->Prop:=fun x vs H Q=>∃l xs y,x = .ref l/\vs=[y]/\H l=some (.lst xs)/\xs.length<sizeLine/\Q .non (upd H l (.lst (xs++[y])))
theorem uV:MtM X "list.append" JF:=by
 intro pins s σ H x vs v us Q I rx rv h;obtain ⟨l,xs,y,rfl,rfl,hH,hz,q⟩:=h;cases rx;obtain ⟨u,rfl,ru⟩:=rv.one;obtain ⟨z,its,n,r,hl,e⟩:=I.Cj hH;refine call_meets F.slot_list_append ⟨_,e,rfl⟩ F.entry_list_append (F.args_list_append_2 _ _) (PySem.list_append l its.toArray n u (by rw [List.size_toArray];omega)) ⟨e, ?_⟩;refine ⟨.non,_,I.Qq (its':=its++[u]) hH e (by simp) (r.append (.cons ru .nil)) ?_,rfl,q⟩;rw [List.length_append,List.length_singleton];omega
def Tf:V->List V->Hp->VK->Prop:=fun x vs H Q=>∃l b xs zs,x = .ref l/\vs=[.ref b]/\H l=some (.lst xs)/\H b=some (.lst zs)/\xs.length+zs.length<=sizeLine/\Q .non (upd H l (.lst (xs++zs)))
theorem uU:MtM X "list.extend" Tf:=by
 intro pins s σ H x vs v us Q I rx rv h;obtain ⟨l,b,xs,zs,rfl,rfl,hH,hB,hz,q⟩:=h;cases rx;obtain ⟨u,rfl,ru⟩:=rv.one;cases ru;obtain ⟨z,its,n,r,hl,e⟩:=I.Cj hH;obtain ⟨z2,its2,n2,r2,hl2,e2⟩:=I.Cj hB;have hsz:its.toArray.size+its2.toArray.size<=sizeLine:=by rw [List.size_toArray,List.size_toArray];omega
 have QD:¬(!its.toArray.isEmpty&&Builtin.List.listTooLong (its.toArray.size+its2.toArray.size))=true:=by
  rw [Et hsz,Bool.and_false];exact Bool.false_ne_true
 refine call_meets F.slot_list_extend ⟨_,e,rfl⟩ F.entry_list_extend (F.args_list_extend_2 _ _)
  (AutoSeq1.list_extend_list_list_0 l its.toArray n b its2.toArray n2 QD (by rw [List.size_toArray];omega) (by omega)) ⟨e,e2, ?_⟩
 refine ⟨.non,_,I.Qq (its':=its++its2) hH e (by simp) (r.append r2) ?_,rfl,q⟩;rw [List.length_append];omega
def aeN:V->List V->Hp->VK->Prop:=fun x vs H Q=>∃l xs y,x = .ref l/\vs=[]/\H l=some (.lst xs)/\xs[xs.length - 1]? = some y/\Q y (upd H l (.lst xs.dropLast))
theorem X7:MtM X "list.pop" aeN:=by
 intro pins s σ H x vs v us Q I rx rv h;obtain ⟨l,xs,y,rfl,rfl,hH,hy,q⟩:=h;cases rx;have hus:=rv.zero;subst hus;obtain ⟨z,its,n,r,hl,e⟩:=I.Cj hH;obtain ⟨u,hu,ru⟩:=r.get hy
 have hy':its.toArray[its.toArray.size - 1]? = some u:=by
  show its.toArray[its.length - 1]? = some u;rw [←Array.getElem?_toList,←hl];exact hu
 refine call_meets F.slot_list_pop ⟨_,e,rfl⟩ F.entry_list_pop (F.args_list_pop_1 _) (MeetsSeq.list_pop_last l its.toArray n u hy' (by rw [List.size_toArray];omega)) ⟨e, ?_⟩;refine ⟨y,_,I.Qq (its':=its.dropLast) hH e ?_ r.dropLast ?_,ru,q⟩
 ·show its.toArray.eraseIdxIfInBounds (its.toArray.size - 1)=its.dropLast.toArray
  rw [List.size_toArray,List.eraseIdxIfInBounds_toArray,IK]
 ·rw [List.length_dropLast]
  omega
def W0:V->List V->Hp->VK->Prop:=fun x vs H Q=>∃l xs i k y,x = .ref l/\vs=[.int i]/\H l=some (.lst xs) /\ -(2 ^ 63)<=i/\i<2 ^ 63/\seqIndex? i xs.length=some k/\xs[k]? = some y/\Q y (upd H l (.lst (xs.eraseIdx k)))
theorem yw:MtM X "list.pop" W0:=by
 intro pins s σ H x vs v us Q I rx rv h;obtain ⟨l,xs,i,k,y,rfl,rfl,hH,h1,h2,hk,hy,q⟩:=h;cases rx;obtain ⟨u,rfl,ru⟩:=rv.one;obtain ⟨t,rfl⟩:=ru;obtain ⟨z,its,n,r,hl,e⟩:=I.Cj hH;obtain ⟨w,hw,rw'⟩:=r.get hy
 refine call_meets F.slot_list_pop ⟨_,e,rfl⟩ F.entry_list_pop (F.args_list_pop_2 _ _)
  (MeetsSeq.list_pop_at l its.toArray n i t k w (fitsIndex_both h1 h2) (by rw [List.size_toArray,←hl];exact hk) (by rw [←Array.getElem?_toList];exact hw) (by rw [List.size_toArray];omega)) ⟨e, ?_⟩
 refine ⟨y,_,I.Qq (its':=its.eraseIdx k) hH e ?_ (r.eraseIdx k) ?_,rw',q⟩
 ·show its.toArray.eraseIdxIfInBounds k=(its.eraseIdx k).toArray
  rw [List.eraseIdxIfInBounds_toArray]
 ·have:=Ao xs k
  omega
def W4:V->List V->Hp->VK->Prop:=fun x vs H Q=>∃l xs,x = .ref l/\vs=[]/\H l=some (.lst xs)/\Q .non (upd H l (.lst []))
theorem Qm:MtM X "list.clear" W4:=by
 intro pins s σ H x vs v us Q I rx rv h;obtain ⟨l,xs,rfl,rfl,hH,q⟩:=h;cases rx;have hus:=rv.zero;subst hus;obtain ⟨z,its,n,r,hl,e⟩:=I.Cj hH;refine call_meets F.slot_list_clear ⟨_,e,rfl⟩ F.entry_list_clear (F.args_list_clear_1 _) (AutoSeq1.list_clear_list_0 l its.toArray n (by rw [List.size_toArray];omega)) ⟨e, ?_⟩;exact ⟨.non,_,I.Qq (its':=[]) (ys:=[]) hH e rfl .nil (Nat.zero_le _),rfl,q⟩
def aeT:R2:=fun x y H Q=>∃l b xs zs,x = .ref l/\y = .ref b/\H l=some (.lst xs)/\H b=some (.lst zs)/\xs.length+zs.length<=sizeLine /\ ∀p,H p=none->Q (.ref p) (upd H p (.lst (xs++zs)))
theorem rE:oh X (binaryOp .Add) aeT:=by
 intro pins s σ H x y v u Q I rx ry h;obtain ⟨l,b,xs,zs,rfl,rfl,hH,hB,hz,q⟩:=h;cases rx;cases ry;obtain ⟨z,its,n,r,hl,e⟩:=I.Cj hH;obtain ⟨z2,its2,n2,r2,hl2,e2⟩:=I.Cj hB;refine PySem.P.add_list e e2 ?_ (by rw [List.size_toArray,List.size_toArray];omega);have ea:its.toArray++its2.toArray=(its++its2).toArray:=by simp
 rw [ea];exact ⟨.ref _,_,I.aay (t':=s.toks) (r.append r2) (by rw [List.length_append];omega),rfl,q _ I.fresh⟩
def aeM:R2:=fun x y H Q=>∃l k xs,x = .ref l/\y = .int k/\H l=some (.lst xs) /\ -(2 ^ 63)<=k/\k<2 ^ 63/\xs.length*k.toNat<=sizeLine /\
 ∀p,H p=none->Q (.ref p) (upd H p (.lst (List.replicate k.toNat xs).flatten))
theorem len_rep {α:Type} (xs:List α) (k:Nat):(List.replicate k xs).flatten.length=k*xs.length:=by
 induction k with
 | zero=>simp
 | succ k ih=>rw [List.replicate_succ,List.flatten_cons,List.length_append,ih,Nat.succ_mul,Nat.add_comm]
theorem Hy:oh X (binaryOp .Mult) aeM:=by
 intro pins s σ H x y v u Q I rx ry h;obtain ⟨l,k,xs,rfl,rfl,hH,h1,h2,hz,q⟩:=h;cases rx;obtain ⟨t,rfl⟩:=ry;obtain ⟨z,its,n,r,hl,e⟩:=I.Cj hH;have hlen:its.toArray.size*k.toNat<=sizeLine:=by rw [List.size_toArray,←hl];exact hz
 have hcap:¬its.toArray.size*k.toNat>(2 ^ 63 - 1) / 8:=by
  have:(sizeLine:Nat)<=(2 ^ 63 - 1) / 8:=by decide
  omega
 have hfit:¬(!Builtin.List.listFitsIndex k)=true:=by
  rw [fitsIndex_both h1 h2];exact Bool.false_ne_true
 have QD:¬Builtin.List.listTooLong (its.toArray.size*k.toNat)=true:=by
  rw [Et hlen];exact Bool.false_ne_true
 have hnew:List.foldl (fun x1 x2=>x1++x2) #[] (List.replicate (if its.toArray.isEmpty=true then 0 else k.toNat) its.toArray)=(List.replicate k.toNat its).flatten.toArray:=by
  have f0:∀m:Nat,List.foldl (fun x1 x2=>x1++x2) #[] (List.replicate m its.toArray)=(List.replicate m its).flatten.toArray:=fun m=>by
   have:=foldl_rep its m [];rw [List.nil_append] at this;exact this
  rw [f0];cases its with
  | nil=>simp
  | cons a r'=>rw [if_neg (by simp)]
 refine wpAny_binaryOp_repeat_ref (T:= "list") (U:= "int") (by decide) ⟨_,e,rfl⟩ (fun s'=>typeIs_int s' k t) noFill_list_mul F.fills_int_mul F.slot_int_rmul repeat_list F.slot_int_index.lookup
  (call_meets F.slot_int_rmul (typeIs_int s k t) F.entry_int_rmul (F.args_int_rmul_2 _ _) (int___rmul___int_list k t l its.toArray n)
    ⟨e,rfl,⟨_,e,rfl⟩,call_meets F.slot_list_mul ⟨_,e,rfl⟩ F.entry_list_mul (F.args_list_mul_2 _ _) (AutoListH.list___mul___list_int_3 l its.toArray n k t hfit hcap QD) ⟨e, ?_⟩⟩)
 rw [hnew];exact ⟨.ref _,_,I.aay (t':=s.toks) (r.rep k.toNat) (by rw [len_rep,Nat.mul_comm];exact hz),rfl,q _ I.fresh⟩
end
section
variable {prog:Program} {w:World} {A:Around} {E:Value->Shared->Prop} {s:Shared}
end
section
variable {X:Cx}
end
end L2
namespace L2
open PySem PySem.Spec PyProof.Rows
section
variable {κ:Type} [DecidableEq κ]
def sO (kvs:List (κ×V)) (k:κ):Option V:=(kvs.find? fun kv=>decide (kv.1=k)).map (·.2)
def putK (kvs:List (κ×V)) (k:κ) (v:V):List (κ×V):=
 if (kvs.any fun kv=>decide (kv.1=k))=true then kvs.map (fun kv=>if kv.1=k then (kv.1,v) else kv) else kvs++[(k,v)]
theorem sI {p:κ×V} {r:List (κ×V)} {k:κ} (e:p.1=k):sO (p::r) k=some p.2:=by simp [sO,List.find?_cons,e]
theorem sJ {p:κ×V} {r:List (κ×V)} {k:κ} (e:¬p.1=k):sO (p::r) k=sO r k:=by simp [sO,List.find?_cons,e]
theorem xu (k:κ):∀kvs:List (κ×V),(kvs.any fun kv=>decide (kv.1=k))=(sO kvs k).isSome
 | []=>rfl
 | p::r=>by
   rw [List.any_cons]
   by_cases e:p.1=k
   ·simp only [sI e,decide_eq_true e,Bool.true_or,Option.isSome_some]
   ·rw [sJ e,decide_eq_false e,Bool.false_or];exact xu k r
theorem pH (kvs:List (κ×V)) (k:κ) (v:V):(putK kvs k v).length<=kvs.length+1:=by
 unfold putK;split
 ·rw [List.length_map];omega
 ·rw [List.length_append,List.length_cons,List.length_nil];omega
theorem oM.Mh {o:Option V} {u:Option Value} (r:oM o u):o.isSome=u.isSome:=by
 cases o with
 | none=>cases u with
   | none=>rfl
   | some _=>exact (show False from r).elim
 | some _=>cases u with
   | none=>exact (show False from r).elim
   | some _=>rfl
theorem oM.getD {o:Option V} {u:Option Value} {d:V} {d':Value} (r:oM o u) (rd:RelV d d'):RelV (o.getD d) (u.getD d'):=by
 cases o with
 | none=>cases u with
   | none=>exact rd
   | some _=>exact (show False from r).elim
 | some _=>cases u with
   | none=>exact (show False from r).elim
   | some _=>exact r
theorem KV.val {kvs:List (κ×V)} {vs:List (κ×Value)} (r:KV kvs vs) (k:κ):oM (sO kvs k) (valueAt vs k):=by
 unfold KV at r
 induction r with
 | nil=>exact True.intro
 | @cons p q ps qs h t ih=>
   obtain ⟨h1,h2⟩:=h
   by_cases e:p.1=k
   ·have e':q.1=k:=h1.symm.trans e
    have b:valueAt (q::qs) k=some q.2:=by simp [valueAt,List.find?_cons,e']
    rw [sI e,b];exact h2
   ·have e':¬q.1=k:=fun z=>e (h1.trans z)
    have b:valueAt (q::qs) k=valueAt qs k:=by simp [valueAt,List.find?_cons,e']
    rw [sJ e,b];exact ih
theorem KV.any {kvs:List (κ×V)} {vs:List (κ×Value)} (r:KV kvs vs) (k:κ):(kvs.any fun kv=>decide (kv.1=k))=vs.any fun kv=>decide (kv.1=k):=by
 unfold KV at r
 induction r with
 | nil=>rfl
 | cons h t ih=>rw [List.any_cons,List.any_cons,ih,h.1]
theorem KV.repl {kvs:List (κ×V)} {vs:List (κ×Value)} (r:KV kvs vs) (k:κ) {y:V} {u:Value} (ry:RelV y u):
 KV (kvs.map fun kv=>if kv.1=k then (kv.1,y) else kv) (vs.map fun kv=>if kv.1=k then (kv.1,u) else kv):=by
 unfold KV at r ⊢
 induction r with
 | nil=>exact .nil
 | @cons p q ps qs h t ih=>
   rw [List.map_cons,List.map_cons];refine .cons ?_ ih;obtain ⟨h1,h2⟩:=h
   by_cases e:p.1=k
   ·rw [if_pos e,if_pos (h1.symm.trans e)];exact ⟨h1,ry⟩
   ·rw [if_neg e,if_neg (fun z=>e (h1.trans z))];exact ⟨h1,h2⟩
theorem KV.put {kvs:List (κ×V)} {vs:List (κ×Value)} (r:KV kvs vs) (k:κ) {y:V} {u:Value} (ry:RelV y u):KV (putK kvs k y) (stored vs k u):=by
 unfold putK stored;rw [r.any k]
 by_cases e:(vs.any fun kv=>decide (kv.1=k))=true
 ·rw [if_pos e,if_pos e];exact r.repl k ry
 ·rw [if_neg e,if_neg e];exact Paired.snoc r ⟨rfl,ry⟩
theorem KV.length {kvs:List (κ×V)} {vs:List (κ×Value)} (r:KV kvs vs):kvs.length=vs.length:=Paired.length r
end
theorem Fp {P:Program} {w:World} {k:Key} {u:Value} (r:RelV (kV k) u):(cY P w).is k u=true:=by
 cases k with
 | inl i=>obtain ⟨t,e⟩:=(show ∃t,u=Value.int i t from r);subst e;exact E_ P w i t
 | inr x=>obtain ⟨t,e⟩:=(show ∃t,u=Value.str x t from r);subst e;exact EY P w x t
theorem Aq {P:Program} {w:World}:∀{ks:List Key} {us:List Value},Vals (ks.map kV) us->ItemsAre (cY P w) ks us
 | [],_,r=>by rw [List.map_nil] at r;cases r;exact .nil
 | k::ks,_,r=>by
   rw [List.map_cons] at r;cases r with
   | cons h t=>exact .cons (Fp h) (Aq t)
abbrev KT (H:Hp):List (List Key×V)->List (List Key×Addr×Value)->Prop:=Paired fun p q=>p.1=q.1/\H q.2.1=some (.tup (p.1.map kV))/\RelV p.2 q.2.2
theorem KT.val {H:Hp} {kvs:List (List Key×V)} {xs:List (List Key×Addr×Value)} (r:KT H kvs xs) (k:List Key):oM (sO kvs k) ((atKey xs k).map (·.2)):=by
 induction r with
 | nil=>exact True.intro
 | @cons p q ps qs h t ih=>
   obtain ⟨h1,_,h2⟩:=h
   by_cases e:p.1=k
   ·have e':q.1=k:=h1.symm.trans e
    have b:atKey (q::qs) k=some q.2:=by simp [atKey,List.find?_cons,e']
    rw [sI e,b];exact h2
   ·have e':¬q.1=k:=fun z=>e (h1.trans z)
    have b:atKey (q::qs) k=atKey qs k:=by simp [atKey,List.find?_cons,e']
    rw [sJ e,b];exact ih
theorem KT.repl {H:Hp} {kvs:List (List Key×V)} {xs:List (List Key×Addr×Value)} (r:KT H kvs xs) (k:List Key) {y:V} {u:Value} (ry:RelV y u):
 KT H (kvs.map fun kv=>if kv.1=k then (kv.1,y) else kv) (xs.map (putAt k u)):=by
 induction r with
 | nil=>exact .nil
 | @cons p q ps qs h t ih=>
   rw [List.map_cons,List.map_cons];refine .cons ?_ ih;obtain ⟨h1,h2,h3⟩:=h;unfold putAt
   by_cases e:p.1=k
   ·rw [if_pos e,if_pos (h1.symm.trans e)];exact ⟨h1,h2,ry⟩
   ·rw [if_neg e,if_neg (fun z=>e (h1.trans z))];exact ⟨h1,h2,h3⟩
theorem KT.put {H:Hp} {kvs:List (List Key×V)} {xs:List (List Key×Addr×Value)} (r:KT H kvs xs) (k:List Key) {b:Addr} {y:V} {u:Value} (hb:H b=some (.tup (k.map kV))) (ry:RelV y u):
 KT H (putK kvs k y) (storedH xs k b u):=by
 have e:(kvs.any fun kv=>decide (kv.1=k))=(atKey xs k).isSome:=by
  rw [xu,(r.val k).Mh,Option.isSome_map]
 unfold putK storedH;rw [e]
 by_cases q:(atKey xs k).isSome=true
 ·rw [if_pos q,if_pos q];exact r.repl k ry
 ·rw [if_neg q,if_neg q];exact Paired.snoc r ⟨rfl,hb,ry⟩
theorem KT.keeps {H H':Hp} {kvs:List (List Key×V)} {xs:List (List Key×Addr×Value)} (r:KT H kvs xs) (ht:∀b ys,H b=some (.tup ys)->H' b=some (.tup ys)):KT H' kvs xs:=
 Paired.aax r fun _ _ z=>⟨z.1,ht _ _ z.2.1,z.2.2⟩
section
variable {P:Program} {w:World} {H:Hp} {h:Heap} {a:Addr}
theorem VJ {u:HO} (ok:sH P w H h) (e:Rd H a u):cU P w H h a u:=e.ok ok
theorem FQ {kvs:List (Key×V)} (ok:sH P w H h) (e:Rd H a (.dK kvs)):kvs.length<=sizeLine/\(a==sysModules)=false /\ ∃vs,KV kvs vs/\h.DictOf (cY P w) a vs:=
 show cU P w H h a (.dK kvs) from VJ ok e
theorem Q5 {kvs:List (Key×V)} (ok:sH P w H h) (e:H a=some (.dK kvs)):kvs.length<=sizeLine/\(a==sysModules)=false /\ ∃vs,KV kvs vs/\h.DictOf (cY P w) a vs:=FQ ok (.inl e)
theorem Cp {ks:List Key} (ok:sH P w H h) (e:H a=some (.tup (ks.map kV))):(tupleKind (cY P w)).is h ks a:=by
 obtain ⟨_,its,r,o,h1,h2,n,h3⟩:=(show cU P w H h a (.tup (ks.map kV)) from ok a _ e);exact ⟨o,its.toArray,n,h1,h2,h3,by simpa using Aq r⟩
theorem FP {kvs:List (List Key×V)} (ok:sH P w H h) (e:Rd H a (.dT kvs)):kvs.length<=sizeLine/\(a==sysModules)=false /\
 ∃xs,KT H kvs xs/\h.DictOfH (tupleKind (cY P w)) a xs:=by
 obtain ⟨z,y,xs,r,o,es,ep,h1,h2,h3,h4,h5⟩:=(show cU P w H h a (.dT kvs) from VJ ok e);refine ⟨z,y,xs,r,o,es,ep,h1,h2,h3,h4,fun x hx=> ?_,h5⟩
 have all:∀{l:List (List Key×V)} {m:List (List Key×Addr×Value)},KT H l m -> ∀x∈m,(tupleKind (cY P w)).is h x.1 x.2.1:=by
  intro l m q
  induction q with
  | nil=>intro x hx;exact nomatch hx
  | @cons p q ps qs hq t ih=>
    intro x hx;rcases List.mem_cons.mp hx with e|hx
    ·subst e
     exact Cp ok (by rw [←hq.1];exact hq.2.1)
    ·exact ih x hx
 exact all r x hx
theorem aa_ {kvs:List (List Key×V)} (ok:sH P w H h) (e:H a=some (.dT kvs)):kvs.length<=sizeLine/\(a==sysModules)=false /\
 ∃xs,KT H kvs xs/\h.DictOfH (tupleKind (cY P w)) a xs:=FP ok (.inl e)
end
def zK (H:Hp) (a:Addr) (y:V) (r:Option V):Prop:=
 (∃kvs k,Rd H a (.dK kvs)/\y=kV k/\r=sO kvs k) \/ ∃kvs k b,Rd H a (.dT kvs)/\y = .ref b/\H b=some (.tup (k.map kV))/\r=sO kvs k
def RV (H:Hp) (a:Addr) (y v:V) (H':Hp):Prop:=
 (∃kvs k,H a=some (.dK kvs)/\y=kV k/\kvs.length<sizeLine/\H'=upd H a (.dK (putK kvs k v))) \/
 ∃kvs k b,H a=some (.dT kvs)/\y = .ref b/\H b=some (.tup (k.map kV))/\kvs.length<sizeLine/\H'=upd H a (.dT (putK kvs k v))
theorem zK.k {H:Hp} {a:Addr} {kvs:List (Key×V)} {k:Key} (e:H a=some (.dK kvs)):zK H a (kV k) (sO kvs k):= .inl ⟨kvs,k,.inl e,rfl,rfl⟩
theorem RV.k {H:Hp} {a:Addr} {kvs:List (Key×V)} {k:Key} {v:V} (e:H a=some (.dK kvs)) (hl:kvs.length<sizeLine):RV H a (kV k) v (upd H a (.dK (putK kvs k v))):= .inl ⟨kvs,k,e,rfl,hl,rfl⟩
section
variable {X:Cx} {pins:List (Addr×Obj)} {σ:St} {H:Hp} {s:Shared} {a:Addr} {y v:V} {u r:Value} {o:Option V} {A:Around} {E:Value->Shared->Prop}
theorem Inv.big (I:Inv X pins σ H s):sysModules<s.heap.objs.size:=by
 have h:mainGlobals<s.heap.objs.size:=(I.mod.glob.keeps I.bk).lt;exact Nat.lt_trans (by decide) h
theorem Mw {Q:Value->Shared->Prop} (hu:A.units+1<cLine) (I:Inv X pins σ H s) (g:zK H a y (some v)) (ry:RelV y u) (h:∀w' s',Inv X pins σ H s'->RelV v w'->Q w' s'):
 wpAny (model X.prog X.w) A (getItem (.ref a) u) Q E s:=by
 rcases g with ⟨kvs,k,e,ey,l⟩|⟨kvs,k,b,e,ey,eb,l⟩
 ·subst ey
  obtain ⟨z,hd,vs,rel,dd⟩:=FQ I.hok e;obtain ⟨w',hw,rw'⟩:=oM.some_of (v:=v) (o:=valueAt vs k) (by rw [l];exact rel.val k);exact wpAny_getItem_of (Fp ry) dd.mapOf hw (h w' _ (I.tok _) rw')
 ·subst ey
  cases (show u=Value.ref b from ry);obtain ⟨z,hd,xs,rel,dd⟩:=FP I.hok e;obtain ⟨w',hw,rw'⟩:=oM.some_of (v:=v) (o:=(atKey xs k).map (·.2)) (by rw [l];exact rel.val k);obtain ⟨p,hp,hp2⟩:=Option.map_eq_some_iff.mp hw;refine wpAny_getItem_heap (tupleKind_room_in1 hu) (Cp I.hok eb) dd hp ?_;rw [hp2];exact h w' _ (I.tok _) rw'
theorem CP {h':Heap} {t':Nat} {ob:HO} (I:Inv X pins σ H s) (mu:Mut (H a)) (hs:Heap.SameBut a s.heap h') (he:∃q,h'.get? a=some q) (new:cU X.prog X.w (upd H a ob) h' a ob):
 Inv X pins σ (upd H a ob) {s with heap:=h',toks:=t'}:=
 I.write (x:=a) (e:=a) mu (.inl rfl) (fun b q hb z=>(hs.2 b hb).trans z) he new
theorem Q6 {P:Program} {w:World} {H':Hp} {h':Heap} {kvs:List (Key×V)} {vs:List (Key×Value)} (z:kvs.length<=sizeLine) (hd:(a==sysModules)=false) (rel:KV kvs vs) (dd:h'.DictOf (cY P w) a vs):
 cU P w H' h' a (.dK kvs):=⟨z,hd,vs,rel,dd⟩
theorem Mv {H':Hp} {Q:Unit->Shared->Prop} (hu:A.units+1<cLine) (I:Inv X pins σ H s) (g:RV H a y v H') (ry:RelV y u) (rv:RelV v r) (h:∀s',Inv X pins σ H' s'->Q () s'):
 wpAny (model X.prog X.w) A (setItem (.ref a) u r) Q E s:=by
 rcases g with ⟨kvs,k,e,ey,l,eH⟩|⟨kvs,k,b,e,ey,eb,l,eH⟩
 ·subst ey eH
  obtain ⟨z,hd,vs,rel,dd⟩:=Q5 I.hok e;have hz:vs.length<=sizeLine:=by rw [←rel.length];exact z
  have hl:(putK kvs k v).length<=sizeLine:=by have:=pH kvs k v;omega
  refine wpAny_setItem_pairs (hsz:=hz) (Fp ry) dd fun h' YT hs=>h _ ?_;have he:∃q,h'.get? a=some q:=let ⟨q,_,_,hq,_⟩:=YT;⟨q,hq⟩
  exact CP I (by rw [e];exact True.intro) hs he (Q6 hl hd (rel.put k rv) YT)
 ·subst ey eH
  cases (show u=Value.ref b from ry);obtain ⟨z,hd,xs,rel,dd⟩:=aa_ I.hok e;have hz:xs.length<=sizeLine:=by rw [←Paired.length rel];exact z
  have hl:(putK kvs k v).length<=sizeLine:=by have:=pH kvs k v;omega
  refine wpAny_setItem_heap (hsz:=hz) (tupleKind_room_in1 hu) (Cp I.hok eb) dd fun h' YT hs=>h _ ?_;obtain ⟨q,es,ep,hq,h2,h3,h4,_,h5⟩:=YT;refine CP I (by rw [e];exact True.intro) hs ⟨q,hq⟩ ⟨hl,hd,_,(rel.put k eb rv).keeps fun c ys ec=> ?_,q,es,ep,hq,h2,h3,h4,h5⟩;rw [aO (jx ec e (fun z=>nomatch z))];exact ec
end
section
variable {X:Cx} {pins:List (Addr×Obj)} {σ:St} {H:Hp} {s:Shared} {a:Addr} {kvs:List (Key×V)} {k:Key} {u:Value} {A:Around} {E:Value->Shared->Prop}
end
def ab4 (i:Expr):Prop:=∀ov iv,subscripted i false ov iv=operate [ov,iv] (getItem ov iv)
theorem SM {prog:Program} {w:World} {A:Around} {E:Value->Shared->Prop} {s:Shared} {env:Env} {value slice:Expr} {pos:Pos} {T id:String} {Q:Value->Shared->Prop}
 (hl:typeLookup (.type T) "__getitem__" = pure (some (.builtin id))) (hs:ab4 slice)
 (h:wpAny (model prog w) A (eval value env) (fun o s₁=>wpAny (model prog w) A (eval slice env) (fun i s₂=>s₂.TypeIs o T/\wpAny (model prog w) A (getItem o i) Q E s₂) E s₁) E s):
 wpAny (model prog w) A (eval (.Subscript value slice pos) env) Q E s:=by
 refine Subscript_ (wpAny_mono h (fun o s₁ h₁=>wpAny_mono h₁ (fun i s₂ h₂=> ?_) fun _ _ x=>x) fun _ _ x=>x);obtain ⟨hT,h₂⟩:=h₂;unfold subscriptTail;refine wpAny_bind ?_;rw [getitemInPython_of_ne hT.not_modules];refine wpAny_bind (wpAny_specialOf hT hl ?_)
 have fin:wpAny (model prog w) A (subscripted slice false o i) (fun r s₃=>wpAny (model prog w) A (letTemporaryGo value o r >>= fun _=>pure r) Q E s₃) E s₂:=by
  rw [hs o i];exact wpAny_operating (wpAny_mono h₂ (fun r s₃ h₃=>wpAny_bind (wpAny_letTemporaryGo (wpAny_pure h₃))) fun _ _ x=>x)
 first
  | exact wpAny_pure (wpAny_bind fin)
  | exact wpAny_bind (wpAny_pure (wpAny_bind fin))
  | exact wpAny_bind fin
theorem FW {X:Cx} {pins:List (Addr×Obj)} {σ:St} {H:Hp} {s:Shared} {a:Addr} {y:V} {o:Option V} (I:Inv X pins σ H s) (g:zK H a y o):s.TypeIs (.ref a) "dict" :=by
 rcases g with ⟨kvs,k,e,_,_⟩|⟨kvs,k,b,e,_,_,_⟩
 ·obtain ⟨_,_,vs,_,dd⟩:=FQ I.hok e
  exact dd.typeIs
 ·obtain ⟨_,_,xs,_,dd⟩:=FP I.hok e
  exact dd.typeIs
def ZS (td ty:TE):TE:=fun σ H Q=>td σ H fun x H1=>ty σ H1 fun y H2=>∃a v,x = .ref a/\zK H2 a y (some v)/\Q v H2
def Z2 (td ty tv:TE):TS:=fun D σ H=>tv σ H fun v H1=>td σ H1 fun x H2=>ty σ H2 fun y H3=>∃a H4,x = .ref a/\RV H3 a y v H4/\D.nx σ H4
section
variable {X:Cx} {o i e value:Expr} {pos pos' tpos:Pos} {td ty tv:TE}
theorem TJ (hu:X.A.units+1<cLine) (ho:PE X o td) (hi:PE X i ty) (hs:ab4 i):PE X (.Subscript o i pos) (ZS td ty):=by
 intro pins s σ H Q I h;refine SM PySem.F.slot_dict_getitem.lookup hs (dj (ho pins s σ H _ I h) fun u s1 ⟨x,H1,I1,rx,q1⟩=>dj (hi pins s1 σ H1 _ I1 q1) fun iv s2 ⟨y,H2,I2,ry,a,v,ex,g,q2⟩=> ?_);subst ex;obtain rfl:u=Value.ref a:=rx;exact ⟨FW I2 g,Mw hu I2 g ry fun w' s3 I3 rw'=>⟨v,H2,I3,rw',q2⟩⟩
theorem Tn (hu:X.A.units+1<cLine) (ho:PE X o td) (hi:PE X i ty) (hv:PE X value tv) (hs:swapsWith value (some (.Subscript o i pos')) pos.line X.env=pure false):
 PS X (.Assign [.Subscript o i pos'] value pos) (Z2 td ty tv):=by
 intro pins s σ H D I h;refine wpAny_Assign_Subscript (dj (hv pins s σ H _ I h) fun r s1 ⟨v,H1,I1,rv,q1⟩=>dj (ho pins s1 σ H1 _ I1 q1) fun u s2 ⟨x,H2,I2,rx,q2⟩=>dj (hi pins s2 σ H2 _ I2 q2) fun iv s3 ⟨y,H3,I3,ry,a,H4,ex,g,q3⟩=> ?_) hs;subst ex;obtain rfl:u=Value.ref a:=rx;exact Mv hu I3 g ry rv fun s4 I4=>⟨σ,H4,I4,q3⟩
end
theorem FT {P:Program} {w:World} {H:Hp} (h:Heap) (hb:sysModules<h.objs.size):cU P w H (h.push {cls:= .type "dict",data:= .dict #[]}) h.objs.size (.dK []):=
 ⟨Nat.zero_le _,beq_eq_false_iff_ne.mpr (Ne.symm (Nat.ne_of_lt hb)),[],.nil,Heap.DictOf.new h⟩
def Wu:TE:=fun _ H Q=>∀p,H p=none->Q (.ref p) (upd H p (.dK []))
section
variable {X:Cx} {pos:Pos}
theorem Ef:PE X (.Dict [] [] pos) Wu:=fun pins s σ H Q I h=>
 wpAny_Dict_empty ⟨.ref s.heap.objs.size,_,I.laid (a:=s.heap.objs.size) (o:= .dK []) (t':=s.toks) (fun _ _ q=>Heap.get?_push_of_some _ q) (Nat.le_refl _) (FT s.heap I.big),rfl,h _ (I.hok.fresh (Nat.le_refl _))⟩
end
def G3:List (TE×TE)->St->Hp->(List (V×V)->Hp->Prop)->Prop
 | [],_,H,Q=>Q [] H
 | (tk,tv)::r,σ,H,Q=>tk σ H fun x H1=>tv σ H1 fun y H2=>G3 r σ H2 fun ps H3=>Q ((x,y)::ps) H3
abbrev VV:List (V×V)->List (Value×Value)->Prop:=Paired fun p q=>RelV p.1 q.1/\RelV p.2 q.2
def PPs (X:Cx) (pos:Pos) (keys:List (Option Expr)) (values:List Expr) (Sv:List (TE×TE)):Prop:=
 ∀(pins:List (Addr×Obj)) (s:Shared) (σ:St) (H:Hp) (Q:List (V×V)->Hp->Prop),Inv X pins σ H s->G3 Sv σ H Q ->
  wpAny (model X.prog X.w) X.A (evalPairs (pairTrees keys values X.env pos)) (fun vs s'=>∃ps H',Inv X pins σ H' s'/\VV ps vs/\Q ps H') X.xe s
theorem Tp {X:Cx} {pos:Pos}:PPs X pos [] [] []:=fun pins s σ H Q I h=>pairTrees_nil_walk ⟨[],H,I,.nil,h⟩
theorem Pg {X:Cx} {pos:Pos} {k v:Expr} {ks:List (Option Expr)} {vs:List Expr} {tk tv:TE} {Sv:List (TE×TE)} (hk:PE X k tk) (hv:PE X v tv) (hr:PPs X pos ks vs Sv):
 PPs X pos (some k::ks) (v::vs) ((tk,tv)::Sv):=fun pins s σ H Q I h=>
 pairTrees_cons_walk (dj (hk pins s σ H _ I h) fun u s1 ⟨x,H1,I1,rx,q1⟩=>dj (hv pins s1 σ H1 _ I1 q1) fun w2 s2 ⟨y,H2,I2,ry,q2⟩=>
  dj (hr pins s2 σ H2 _ I2 q2) fun ws s3 ⟨ps,H3,I3,rel,q3⟩=>⟨(x,y)::ps,H3,I3,.cons ⟨rx,ry⟩ rel,q3⟩)
def uW (kvs more:List (Key×V)):List (Key×V):=more.foldl (fun acc kv=>putK acc kv.1 kv.2) kvs
theorem KV.merge:∀{more:List (Key×V)} {rs:List (Key×Value)} {kvs:List (Key×V)} {vs:List (Key×Value)},KV more rs->KV kvs vs->KV (uW kvs more) (merged vs rs):=by
 intro more rs kvs vs r;unfold KV at r
 induction r generalizing kvs vs with
 | nil=>intro q;exact q
 | @cons p q ps qs h t ih=>
   intro r0
   have e:KV (putK kvs p.1 p.2) (stored vs q.1 q.2):=by
    have:=r0.put p.1 h.2;rw [←h.1];exact this
   exact ih e
theorem qQ:∀(more kvs:List (Key×V)),(uW kvs more).length<=kvs.length+more.length
 | [],kvs=>by show kvs.length<=kvs.length+0;omega
 | p::r,kvs=>by
   have h1:=qQ r (putK kvs p.1 p.2);have h2:=pH kvs p.1 p.2;show (uW (putK kvs p.1 p.2) r).length<=_;rw [List.length_cons];omega
theorem zc {P:Program} {w:World}:∀{kvs:List (Key×V)} {ws:List (Value×Value)},VV (kvs.map fun kv=>(kV kv.1,kv.2)) ws -> ∃rs,Carries (cY P w) ws rs/\KV kvs rs
 | [],_,r=>by rw [List.map_nil] at r;cases r;exact ⟨[],True.intro,.nil⟩
 | p::kvs,_,r=>by
   rw [List.map_cons] at r;cases r with
   | @cons a b as bs h t=>
     obtain ⟨rs,c,q⟩:=zc (P:=P) (w:=w) t;obtain ⟨b1,b2⟩:=b;exact ⟨(p.1,b2)::rs,⟨Fp h.1,rfl,c⟩,.cons ⟨rfl,h.2⟩ q⟩
def ZR (Sv:List (TE×TE)):TE:=fun σ H Q=>∀p,H p=none->G3 Sv σ (upd H p (.dK [])) fun ps H2=>H2 p=some (.dK []) /\ ∃kvs:List (Key×V),ps=kvs.map (fun kv=>(kV kv.1,kv.2))/\kvs.length<=15/\Q (.ref p) (upd H2 p (.dK (uW [] kvs)))
theorem TF {X:Cx} {pos:Pos} {keys:List (Option Expr)} {values:List Expr} {Sv:List (TE×TE)} (h:PPs X pos keys values Sv) (hall:keys.all (·.isSome)=true) (hl:keys.length=values.length) (h0:keys≠[])
 (h15:keys.length<=15):PE X (.Dict keys values pos) (ZR Sv):=by
 intro pins s σ H Q I q;have hn:=I.hok.fresh (Nat.le_refl s.heap.objs.size);have I1:=I.laid (a:=s.heap.objs.size) (o:= .dK []) (h':=s.heap.push {cls:= .type "dict",data:= .dict #[]}) (t':=s.toks) (fun _ _ q=>Heap.get?_push_of_some _ q) (Nat.le_refl _) (FT s.heap I.big);refine wpAny_Dict_walk (knd:=cY X.prog X.w) hall hl h0 h15 (dj (h pins _ σ _ _ I1 (q _ hn)) fun ws s2 ⟨ps,H2,I2,rel,e,kvs,ep,lk,q2⟩=> ?_);subst ep;obtain ⟨rs,c,rk⟩:=zc (P:=X.prog) (w:=X.w) rel;obtain ⟨z,hd,vs0,r0,dd⟩:=Q5 I2.hok e;cases r0;refine ⟨rs,c,dd,fun h' YT hs=>⟨.ref s.heap.objs.size,_, ?_,rfl,q2⟩⟩
 have hz:(uW [] kvs).length<=sizeLine:=by
  have h1:=qQ kvs [];rw [List.length_nil] at h1;rw [sizeLine_eq];omega
 have he:∃q,h'.get? s.heap.objs.size=some q:=let ⟨q,_,_,hq,_⟩:=YT;⟨q,hq⟩
 exact CP I2 (by rw [e];exact True.intro) hs he (Q6 hz hd (rk.merge .nil) YT)
structure M2 (X:Cx) (o:Expr) (m:Str) (apos:Pos) (e f:Expr) (cpos:Pos):Prop where
 base:attributeBase o m X.env (eval o X.env)=eval o X.env
 few:((backTo cpos (starEach [e,f] X.env)).all (fun x=> !x.1)&&(backToKw cpos (keywordEach [] X.env)).all (fun x=>x.1.isSome)
  && decide (([e,f]:List Expr).length+([]:List Keyword).length+(if ([]:List Keyword).isEmpty then 0 else 1)<30))=true
 line:(apos.endLine==cpos.line)=true
 trees:backTo cpos (starEach [e,f] X.env)=[(false,eval e X.env),(false,eval f X.env)]
def IsD (H:Hp) (a:Addr):Prop:=(∃kvs,Rd H a (.dK kvs)) \/ ∃kvs,Rd H a (.dT kvs)
theorem Ym {X:Cx} {pins:List (Addr×Obj)} {σ:St} {H:Hp} {s:Shared} {a:Addr} (I:Inv X pins σ H s) (d:IsD H a):
 s.TypeIs (.ref a) "dict" /\ (∀b,Value.ref a = .ref b -> ∃ob,s.heap.get? b=some ob/\ob.dict=none)/\(a==sysModules)=false:=by
 rcases d with ⟨kvs,e⟩|⟨kvs,e⟩
 ·obtain ⟨_,hd,vs,_,dd⟩:=FQ I.hok e
  refine ⟨dd.typeIs,fun b q=> ?_,hd⟩;cases q;obtain ⟨ob,_,_,h1,h2,_⟩:=dd;exact ⟨ob,h1,h2.2.1⟩
 ·obtain ⟨_,hd,xs,_,dd⟩:=FP I.hok e
  refine ⟨dd.typeIs,fun b q=> ?_,hd⟩;cases q;obtain ⟨ob,_,_,h1,h2,_⟩:=dd;exact ⟨ob,h1,h2.2.1⟩
section
variable {X:Cx} {pins:List (Addr×Obj)} {σ:St} {H:Hp} {s:Shared} {a:Addr} {y d:V} {u r:Value} {o:Option V} {A:Around} {E:Value->Shared->Prop}
theorem YW {Q:Value->Shared->Prop} (hu:A.units+1<cLine) (I:Inv X pins σ H s) (g:zK H a y o) (ry:RelV y u) (rd:RelV d r) (h:∀w' s',Inv X pins σ H s'->RelV (o.getD d) w'->Q w' s'):
 wpAny (model X.prog X.w) A (call (.builtin "dict.get") [.ref a,u,r]) Q E s:=by
 rcases g with ⟨kvs,k,e,ey,l⟩|⟨kvs,k,b,e,ey,eb,l⟩
 ·subst ey
  obtain ⟨z,hd,vs,rel,dd⟩:=FQ I.hok e;refine call_meetsIn PySem.F.slot_dict_get dd.typeIs PySem.F.entry_dict_get (PySem.F.args_dict_get_3 _ _ _) (meets_dict_get_default (cY X.prog X.w) a (Fp ry) hd r) ⟨_,dd.mapOf,h _ _ (I.tok _) ?_⟩;rw [l];exact (rel.val k).getD rd
 ·subst ey
  cases (show u=Value.ref b from ry);obtain ⟨z,hd,xs,rel,dd⟩:=FP I.hok e;refine call_meetsIn PySem.F.slot_dict_get dd.typeIs PySem.F.entry_dict_get (PySem.F.args_dict_get_3 _ _ _) (meetsH_dict_get_default (tupleKind (cY X.prog X.w)) a b hd r) ⟨tupleKind_room_in1 hu,k,xs,Cp I.hok eb,dd,h _ _ (I.tok _) ?_⟩;rw [l];exact (rel.val k).getD rd
end
def Om (td ty tx:TE):TE:=fun σ H Q=>td σ H fun x H1=>∃a,x = .ref a/\IsD H1 a/\ty σ H1 fun y H2=>tx σ H2 fun z H3=>∃o,zK H3 a y o/\Q (o.getD z) H3
section
variable {X:Cx} {o e f:Expr} {apos cpos:Pos} {td ty tx:TE}
theorem yp (hu:X.A.units+1<cLine) (ho:PE X o td) (he:PE X e ty) (hf:PE X f tx) (m:M2 X o "get" apos e f cpos):PE X (.Call (.Attribute o "get" apos) [e,f] [] cpos) (Om td ty tx):=by
 intro pins s σ H Q I h;refine wpAny_Call_method m.base m.few m.line PySem.F.plainAttrs_dict PySem.F.slot_dict_get PySem.F.type_dict_get (dj (ho pins s σ H _ I h) fun u s1 ⟨x,H1,I1,rx,a,ex,d,q1⟩=> ?_);subst ex;obtain rfl:u=Value.ref a:=rx;obtain ⟨t1,t2,_⟩:=Ym I1 d;refine ⟨t1,t2, ?_⟩;rw [m.trees]
 refine Calls.callWith_builtin rfl (Calls.evalArgs_plain (Calls.spliced_cons (dj (he pins s1 σ H1 _ I1 q1) fun iv s2 ⟨y,H2,I2,ry,q2⟩=>
  Calls.spliced_cons (dj (hf pins s2 σ H2 _ I2 q2) fun fv s3 ⟨z,H3,I3,rz,ov,g,q3⟩=>Calls.spliced_nil ?_))))
 exact YW hu I3 g ry rz fun w' s4 I4 rw'=>⟨_,H3,I4,rw',q3⟩
end
section
variable {X:Cx} {pins:List (Addr×Obj)} {σ:St} {H:Hp} {s:Shared} {a:Addr} {kvs:List (Key×V)} {A:Around} {E:Value->Shared->Prop}
end
section
variable {X:Cx} {pins:List (Addr×Obj)} {σ:St} {H:Hp} {s:Shared} {a:Addr} {y:V} {u:Value} {A:Around} {E:Value->Shared->Prop}
end
end L2
namespace Att
open PySem PySem.W PySem.Calls PyProof.Rows
theorem vX {P:Params} {h:Heap}:∀(ns:List Int) (vs:List Value),WellAll P h vs (ns.map WData.int)->IntsAre vs ns:=by
 intro ns
 induction ns with
 | nil=>
   intro vs w;rw [List.map_nil] at w;cases w;exact .nil
 | cons n ns ih=>
   intro vs w;rw [List.map_cons] at w;cases w with
   | cons a b=>
     cases a;exact .cons _ _ (ih _ b)
theorem KZ {l:OpenLaw} {n:Nat} (hn:l.most=some n) {P:Params} {h:Heap} {args:List WData} {vals:List Value}
 (hpre:l.row.toRowW.claim.pre args=true) (hwl:WellAll P h vals args):
 ∃a vs ns,vals=[Value.ref a]/\args=[WData.list (ns.map WData.int)]/\h.get? a=some {cls:= .type "list",data:= .seq vs.toArray}/\IntsAre vs ns/\ns.length<=n:=by
 have hsh:WShape.hasAll [] args [.list .int]=true:=(pre_splitW hpre).1;have hc:l.pre.holds [] {args:=args}=true:=(pre_splitW hpre).2;obtain ⟨d,r,rfl,h1,h2⟩:=hasAllW_cons hsh;obtain rfl:=hasAllW_nil h2;obtain ⟨xs,rfl,h3⟩:=hasW_list h1;obtain ⟨ns,rfl⟩:=items_int h3
 have hlen:ns.length<=n:=by
  unfold OpenLaw.pre at hc
  have h4:(WTm.not (.lt (.lit (.int (n:Int))) (.len (.arg 0)))).holds [] {args:=[.list (ns.map .int)]}=true:=by
   have h4:=(holds_andW hc).1;rw [hn] at h4;exact h4
  have h5:=condW_of h4 (w_not (w_lt w_lit (w_len_list (w_arg rfl))));rw [List.length_map] at h5;refine Nat.le_of_not_lt fun q=> ?_;have q':(n:Int)<((ns.length:Nat):Int):=by omega
  first
   | (rw [decide_eq_true q'] at h5;exact absurd h5 (by decide))
   | (simp at h5;omega)
 cases hwl with
 | cons w1 w2=>
   cases w2;cases w1 with
   | list ho hall=>exact ⟨_,_,ns,rfl,rfl,ho,vX ns _ hall,hlen⟩
theorem K9 (l:OpenLaw) (args:List WData):l.row.toRowW.claim.post args (.bool true) args=true:=
 postW_of (r:=l.row.toRowW) (X:=(true==true))
  (show WShape.has [] (.bool true) .bool=true by first |rfl|decide|simp [WShape.has,WShape.arms,WShape.armsAll])
  (show (WTm.eq .res (.lit (.bool true))).value [] {args:=args,res:=some (.bool true),after:=args}=some (.bool (true==true)) from w_eq_bool (w_res rfl) w_lit) rfl
theorem Gk {l:OpenLaw} {n:Nat} {q:Program} {loose:List Str} {XP:(Str->Option Value)->Heap->Prop} {YP:World->Heap->Prop} {d:DefRec}
 (hn:l.most=some n) (hdf:d.params.defaults=[])
 (call:∀(w:World) (s₀ s₁:Shared) (mg mb:Str->Option Value) (fa:Addr) (o:Obj) (pm cd doc:Value) (a:Addr) (vs:List Value) (ns:List Int),
   Ground q loose [] XP w s₀ mg mb s₁.heap->YP w s₁.heap ->
   s₁.heap.get? fa=some o->o.data = .func (docDef d.name d.params d.body d.scope pm cd doc)->s₁.heap.CodeRec cd d.name->mg d.name=some (.ref fa) ->
   s₁.heap.get? a=some {cls:= .type "list",data:= .seq vs.toArray}->IntsAre vs ns->ns.length<=n->s₁.gens = #[] ->
   codeAny (model l.prog w) callerA (.call (.ref fa) ⟨[.ref a],[]⟩) (fun r s'=>r = .ok (.ret (.bool true))/\OldK s₁.heap s'.heap/\s'.os=s₁.os/\AllBare s'.gens) s₁):
 WalkO q loose XP YP l.row.toRowW d [] (fun f vs=>PySem.call f vs):=by
 intro w s₀ s₁ mg mb G Y fa o pm cd doc dV kV ho hd hcd hD hmg hg args vals as hpre hlay hrd hwl hlo;obtain rfl:dV = .none:=Dflts.none hD hdf;obtain rfl:kV = .none:=Dflts.noKw hD;obtain ⟨a,vs,ns,rfl,rfl,hobj,hints,hlen⟩:=KZ hn hpre hwl;refine enter_call (codeAny_mono (call w s₀ s₁ mg mb fa o pm cd doc a vs ns G Y ho (fd_plain hd) hcd hmg hobj hints hlen hg) fun r s' hq=> ?_);obtain ⟨rfl,h2,h3,h4⟩:=hq;exact ⟨.inl ⟨.bool true,.bool true,[],rfl,fun _=>rfl,.bool true,K9 l _,fun _=>⟨List.Pairwise.nil,fun _ hm=>(nomatch hm)⟩⟩,h2,h3,h4⟩
section
variable {prog:Program} {w:World} {A:Around} {E:Value->Shared->Prop} {s:Shared} {K:Frag}
def ledger (h:Heap) (L d:Addr):List (Addr×Obj):=(List.range h.objs.size).filterMap fun a=>if a=L\/a=d then none else (h.get? a).map fun o=>(a,o)
end
end Att
namespace L2
open PySem PySem.Spec PyProof.Rows
theorem KD {vs:List Value} {ns:List Int} (h:IntsAre vs ns):Vals (ns.map V.int) vs:=by
 induction h with
 | nil=>exact .nil
 | cons n t h ih=>exact .cons ⟨t,rfl⟩ ih
def Only (H:Hp):Prop:=∀b,H b=none \/ ∃o xs,H b=some (.oF o (.lst xs))
theorem Qs {P:Program} {w:World} {K:PySem.W.Frag} {mg mb:Str->Option Value} {CX:RX} {k:Nat} {fa a:Addr} {fd:FuncData} {x:Str} {sp:Sp} {s₁:Shared} {vs:List Value} {ns:List Int}
 (KX:K.In s₁.heap) (hns:s₁.heap.Ns mainGlobals mg) (hb:s₁.heap.Ns builtinsNs mb) (hbb:∀x:Str,x ≠ "__name__" -> mb x=bootBuiltins x) (hlim:s₁.heap.NoLimit) (hg:s₁.gens = #[])
 (ha:s₁.heap.get? a=some {cls:= .type "list",data:= .seq vs.toArray}) (hi:IntsAre vs ns) (hl:ns.length<=sizeLine) (hr:dH k callerA)
 (F:∀base:Heap,K.In base->base.Ns mainGlobals mg->cj P w K mg base CX k fa fd [x] sp) (hbind:∀(s:Shared) (u:Value),BindsTo s fd ⟨[u],[]⟩ [(x,u)])
 (hsp:∀H:Hp,Only H->aV K H a (ns.map V.int)->sp [.ref a] H (fun v _=>v = .bl true) fun _ _ _=>False)
 (hCX:∀H e s',CX [] H s₁ (fun _ _ _=>False) e s'->False):
 codeAny (model P w) callerA (.call (.ref fa) ⟨[.ref a],[]⟩) (fun r s'=>r = .ok (.ret (.bool true))/\OldK s₁.heap s'.heap/\s'.os=s₁.os/\AllBare s'.gens) s₁:=by
 have rv:=KD hi;have lenV:=hi.length
 have core:∀H:Hp,Only H->aV K H a (ns.map V.int)->sH P w H s₁.heap->(∀b,H b≠none->b=a)->(H a≠none->K.lookup a=none) ->
  codeAny (model P w) callerA (.call (.ref fa) ⟨[.ref a],[]⟩) (fun r s'=>r = .ok (.ret (.bool true))/\OldK s₁.heap s'.heap/\s'.os=s₁.os/\AllBare s'.gens) s₁:=by
  intro H hO hS hok hA hK;have Ko:∀{b:Addr} {o:Obj},s₁.heap.get? b=some o->H b=none->(Cu s₁.heap H).get? b=some o:=fun e n=>QF e n
  have noA:∀{b:Addr} {o:Obj} {es:Array DictEntry} {ep:Nat},s₁.heap.get? b=some o->o.data = .dict es ep->H b=none:=fun {b o es ep} e d=>by
   cases q:H b with
   | none=>rfl
   | some u=>
     have e':b=a:=hA b (by rw [q];simp);subst e';rw [ha] at e;cases e;have d':Data.seq vs.toArray _=Data.dict es ep:=d;cases d'
  have nsK:∀{b:Addr} {m:Str->Option Value},s₁.heap.Ns b m->(Cu s₁.heap H).Ns b m:=fun {b m} ⟨o,es,ep,e,d,r⟩=>⟨o,es,ep,Ko e (noA e d),d,r⟩
  have hKb:K.In (Cu s₁.heap H):=fun b o e=>Ko (KX b o e) (by
   cases q:H b with
   | none=>rfl
   | some u=>
     have e':b=a:=hA b (by rw [q];simp);subst e';rw [hK (by rw [q];simp)] at e;cases e)
  have hM:Mod K mg (Cu s₁.heap H):=⟨hKb,nsK hns,⟨mb,nsK hb,hbb⟩,let ⟨mc,h1,h2⟩:=hlim;⟨mc,nsK h1,h2⟩⟩;have e0:Aa P w K mg (Cu s₁.heap H) callerA [] s₁ H:=⟨rfl,hM,fun b o e=>Uh e,Nat.le_of_eq (Mr _ _),trivial,fun b hb=>absurd (show b∈([]:List Addr) from hb) (by simp),hok,.of_eq hg⟩;refine codeAny_mono ((F _ hKb (nsK hns)).run callerA [] s₁ H ⟨[.ref a],[]⟩ [.ref a] [.ref a] _ _ hr e0 (hbind s₁ (.ref a)) (.cons rfl .nil) (hsp H hO hS)) fun r s' h=> ?_;cases r with
  | error e=>exact (hCX H e s' h).elim
  | ok fl=>
    cases fl with
    | next=>exact False.elim h
    | brk=>exact False.elim h
    | cont=>exact False.elim h
    | ret u=>
      obtain ⟨v,H',os,bare,un,hok',r',q⟩:=h;have q':v = .bl true:=q;subst q';obtain rfl:u=Value.bool true:=r';refine ⟨rfl,OldK.of_keep fun b o e=> ?_,os,bare⟩;cases q:H b with
      | none=>exact un.keep b o e q (by intro z;exact absurd (show b∈([]:List Addr) from z) (by simp)) (by simp)
      | some u=>
        rcases hO b with z|⟨ob,xs,z⟩
        ·rw [q] at z;cases z
        ·have z2:=un.u_ b ob _ z
         obtain ⟨e1,_⟩:=hok b _ z;obtain ⟨e2,_⟩:=hok' b _ z2;rw [e] at e1;cases e1;exact e2
 cases hk:K.lookup a with
 | some o=>
   have e:=KX a o hk;rw [ha] at e;cases e;refine core (fun _=>none) (fun _=> .inl rfl) (.inr ⟨_,vs.toArray,_,hk,rfl,rfl,rfl,by rw [List.size_toArray,lenV];exact hl,by simpa using rv⟩) (fun b u z=>by have z':(none:Option HO)=some u:=z;cases z') (fun b z=>absurd rfl z) fun z=>absurd rfl z
 | none=>
   refine core (fun b=>if b=a then some (.oF {cls:= .type "list",data:= .seq vs.toArray} (.lst (ns.map V.int))) else none) (fun b=> ?_) (.inl (.inr ⟨{cls:= .type "list",data:= .seq vs.toArray},if_pos rfl⟩)) (fun b u z=> ?_) (fun b z=> ?_) fun _=>hk
   ·by_cases hb:b=a
    ·exact .inr ⟨_,_,if_pos hb⟩
    ·exact .inl (if_neg hb)
   ·by_cases hb:b=a
    ·have z':=(if_pos hb).symm.trans z
     cases z';subst hb;exact ⟨ha,by rw [List.length_map];exact hl,vs,_,rv,ha⟩
    ·have z':=(if_neg hb).symm.trans z
     cases z'
   ·by_cases hb:b=a
    ·exact hb
    ·exact absurd (if_neg hb) z
end L2
namespace L2
open PySem PySem.Spec PyProof.Rows
abbrev KOf {K:PySem.W.Frag} {h:Heap} (_:K.In h):PySem.W.Frag:=K
theorem Sq {l:PySem.W.OpenLaw} {n k:Nat} {q:Program} {loose:List Str} {XP:(Str->Option Value)->Heap->Prop} {YP:World->Heap->Prop} {d:DefRec} {K:Params->PySem.W.Frag} {CX:World->RX} {sp:World->Sp} {x:Str}
 (hn:l.most=some n) (hn2:n<=sizeLine) (hdf:d.params.defaults=[]) (hr:dH k callerA)
 (hY:∀(w:World) (h:Heap),YP w h->(K w.params).In h)
 (F:∀(w:World) (mg:Str->Option Value) (fa:Addr) (h:Heap),(K w.params).In h->h.Ns mainGlobals mg->mg d.name=some (.ref fa) ->
   ∃fd:FuncData,(∀(s:Shared) (u:Value),BindsTo s fd ⟨[u],[]⟩ [(x,u)]) /\
    ∀base:Heap,(K w.params).In base->base.Ns mainGlobals mg->cj l.prog w (K w.params) mg base (CX w) k fa fd [x] (sp w))
 (hsp:∀(w:World) (H:Hp) (a:Addr) (ns:List Int),ns.length<=n->Only H->aV (K w.params) H a (ns.map V.int)->sp w [.ref a] H (fun v _=>v = .bl true) fun _ _ _=>False)
 (hCX:∀(w:World) (H:Hp) (s:Shared) (e:Value) (s':Shared),CX w [] H s (fun _ _ _=>False) e s'->False):
 PySem.W.WalkO q loose XP YP l.row.toRowW d [] (fun f vs=>PySem.call f vs):=by
 refine Att.Gk hn hdf fun w s₀ s₁ mg mb fa o pm cd doc a vs ns G Y ho hd hcd hmg hobj hints hlen hg=> ?_;have KX:=hY w _ Y;obtain ⟨fd,hb,hF⟩:=F w mg fa _ KX G.T.g hmg;exact Qs KX G.T.g G.T.b G.T.builtins G.T.nolimit hg hobj hints (Nat.le_trans hlen hn2) hr hF hb (fun H hO hS=>hsp w H a ns hlen hO hS) fun H e s'=>hCX w H s₁ e s'
end L2
namespace L2
open PySem PySem.Spec PyProof.Rows
def inClass (s:Stmt) (j:Nat):Stmt:=match s with
 | .ClassDef _ _ _ body _ _ _ _ _ _ _=>body.getD j (.Pass ⟨0,0,0,0⟩)
 | _=> .Pass ⟨0,0,0,0⟩
def aL (s:Stmt):Arguments:=match s with
 | .FunctionDef _ a _ _ _ _ _ _ _ _=>a
 | _=>{posonlyargs:=[],args:=[],vararg:=none,kwonlyargs:=[],kw_defaults:=[],kwarg:=none,defaults:=[]}
def aK (s:Stmt):List Stmt:=match s with
 | .FunctionDef _ _ b _ _ _ _ _ _ _=>b
 | _=>[]
def aC (s:Stmt):Scope:=match s with
 | .FunctionDef _ _ _ _ _ _ sc _ _ _=>sc
 | _=>{kind:= .function,names:=[],isGenerator:=false,isCoroutine:=false}
abbrev gZ:RX:=fun _ _ _ _ _ _=>False
abbrev E0:XK:=fun _ _ _=>False
theorem Ai {X:Cx}:Passes gZ X E0:=fun _ _ _ _ _ _ _ h=>h.elim
structure jW (K:PySem.W.Frag) (x qual:Str) (st:Stmt) (f:Addr) (fd:FuncData):Prop where
 ex:∃(oc:Value) (od:Option Addr) (kV doc pm:Value) (an:Option Addr) (cdv ct:Value) (osl:Array (Option Value)),
  fd=PySem.W.fnOf x qual (aL st) (aK st) (aC st) .none kV doc pm an cdv ct/\K.lookup f=some ⟨oc,od,.func fd,osl⟩/\PySem.W.codeIn K cdv qual=true
 kp:PySem.W.keepIn K (.ref f)=true
section
variable {P:Program} {w:World} {K:PySem.W.Frag} {mg:Str->Option Value} {base:Heap}
theorem jW.ok {x qual:Str} {st:Stmt} {f:Addr} {fd:FuncData} {N ps:List Str} {k:Nat} {sp:Sp} (F:jW K x qual st f fd) (S:aY N ps (aC st)) (len:∀vs H Q E,sp vs H Q E->vs.length=ps.length)
 (hbody:∀(cdv:Value) (A:Around) (outer:List Env) (s:Shared) (H:Hp) (vs:List V) (Q:VK) (E:XK),dH k (A.deeper (envOfC qual (aC st) s.heap.objs.size f cdv))->sp vs H Q E ->
   ∃t,Ku (IW gZ P w K mg base N qual (aC st) f cdv A outer s H E).Zn (aK st) t/\t {nx:=fun _ H'=>Q .non H',rt:=Q} (start N vs) H):cj P w K mg base gZ (k+1) f fd ps sp:=by
 obtain ⟨oc,od,kV,doc,pm,an,cdv,ct,osl,rfl,lk,hcd⟩:=F.ex;refine V_ lk hcd S len fun A outer s H vs Q E hr hsp=> ?_;obtain ⟨t,h,q⟩:=hbody cdv A outer s H vs Q E hr hsp;exact ⟨t,h.Zn,q⟩
theorem jW.binds {x qual:Str} {st:Stmt} {f:Addr} {fd:FuncData} {ps:List Str} (F:jW K x qual st f fd)
 (h:∀(kV doc pm:Value) (an:Option Addr) (cdv ct:Value) (us:List Value),us.length=ps.length->bindArgs (PySem.W.fnOf x qual (aL st) (aK st) (aC st) .none kV doc pm an cdv ct) ⟨us,[]⟩=pure (ps.zip us)):Binds K fd ps []:=by
 obtain ⟨oc,od,kV,doc,pm,an,cdv,ct,osl,rfl,lk,hcd⟩:=F.ex;exact .all (h kV doc pm an cdv ct)
theorem bK {x qual:Str} {st:Stmt} {f:Addr} {oc:Value} {od an:Option Addr} {osl:Array (Option Value)} {kV doc pm cdv ct:Value} (l:K.lookup f=some ⟨oc,od,.func (PySem.W.fnOf x qual (aL st) (aK st) (aC st) .none kV doc pm an cdv ct),osl⟩)
 (c:PySem.W.codeIn K cdv qual=true) (k:PySem.W.keepIn K (.ref f)=true):jW K x qual st f (PySem.W.fnOf x qual (aL st) (aK st) (aC st) .none kV doc pm an cdv ct):=⟨⟨oc,od,kV,doc,pm,an,cdv,ct,osl,rfl,l,c⟩,k⟩
end
theorem J7 {A:Around} {k:Nat} (hr:dH k A):A.units+1<cLine:=Nat.lt_of_le_of_lt (Nat.add_le_add_left (by decide:1<=64) _) hr.units
section
variable {X:Cx}
theorem pv (i:Nat) {x:Str} {pos:Pos} (hN:X.N[i]? = some x:=by rfl) (hv:Vis X.env.scope x:=by first |exact Or.inl rfl|exact Or.inr (Or.inl rfl)|exact Or.inr (Or.inr rfl)) (hd:(x==("__debug__" :Str))=false:=by decide)
 (hcd:(x==("__classdict__" :Str))=false:=by decide):PE X (.Name x pos) (xH i):=Xe hN hv hd hcd
end
theorem dJ {A B:Prop} (h:B):if false=true then A else B:=by
 rw [if_neg Bool.false_ne_true];exact h
theorem iY {A B:Prop} (h:A):if true=true then A else B:=by
 rw [if_pos rfl];exact h
theorem nW {c A B:Prop} [Decidable c] (h1:c->A) (h2:¬c->B):if c then A else B:=by
 by_cases h:c
 ·rw [if_pos h]
  exact h1 h
 ·rw [if_neg h]
  exact h2 h
theorem pP {c A B:Prop} [Decidable c] (hc:c) (h:B):if (!decide c)=true then A else B:=by
 rw [decide_eq_true hc];exact dJ h
def Same (H H':Hp):Prop:=∀b o,H b=some o->H' b=some o
theorem Same.refl (H:Hp):Same H H:=fun _ _ h=>h
theorem Same.trans {H H1 H2:Hp} (a:Same H H1) (b:Same H1 H2):Same H H2:=fun c o h=>b c o (a c o h)
theorem Same.free {H H':Hp} (e:Same H H') {l:Addr} (h:H' l=Option.none):H l=Option.none:=by
 cases q:H l with
 | none=>rfl
 | some o=>
   rw [e l o q] at h;cases h
theorem Same.seq {K:PySem.W.Frag} {H H':Hp} {a:Addr} {xs:List V} (e:Same H H') (h:aV K H a xs):aV K H' a xs:=by
 rcases h with (h|⟨o,h⟩)|h
 ·exact .inl (.inl (e _ _ h))
 ·exact .inl (.inr ⟨o,e _ _ h⟩)
 ·exact .inr h
section
variable {κ:Type} [DecidableEq κ]
end
end L2
set_option Elab.async false
set_option linter.all false
set_option maxRecDepth 100000
set_option maxHeartbeats 4000000
namespace L2
open PySem PySem.Spec PyProof.Rows
theorem lQ {a n:Addr} (h:a<n): @LT.lt Nat _ a n:=h
def lE (env:Env):List (Str×NameKind)->List (Str×Addr)->List (Str×Addr)
 | [],acc=>acc
 | (n,k)::r,acc=>if k == .free then lE env r ((n,(env.cells.lookup n).getD 0)::acc) else lE env r acc
theorem yX {env:Env} {scope:Scope} (h:∀y∈scope.names,y.2 = .free->(env.cells.lookup y.1).isSome=true):closureFor scope env=pure (lE env scope.names []):=by
 have go:∀(ns:List (Str×NameKind)) (acc:List (Str×Addr)),(∀y∈ns,y.2 = .free->(env.cells.lookup y.1).isSome=true) ->
  (forIn ns acc (fun x cs=>match x with |(name,kind)=>if (kind == .free)=true then do let c ←cellOf env name;pure (ForInStep.yield ((name,c)::cs)) else pure (ForInStep.yield cs)):Sem (List (Str×Addr)))=pure (lE env ns acc):=by
  intro ns
  induction ns with
  | nil=>intro acc _;rfl
  | cons y r ih=>
    intro acc hy;obtain ⟨n,k⟩:=y;rw [List.forIn_cons]
    by_cases hk:k = .free
    ·subst hk
     have hs:=hy (n,.free) List.mem_cons_self rfl;obtain ⟨c,hc⟩:=Option.isSome_iff_exists.mp hs;have e:cellOf env n=pure c:=by unfold cellOf;rw [hc]
     show _=pure (lE env r ((n,(env.cells.lookup n).getD 0)::acc));rw [←ih _ fun y hm=>hy y (List.mem_cons_of_mem _ hm)];simp only [beq_self_eq_true,if_true,e,pure_bind,hc,Option.getD_some]
    ·have hb:(k==NameKind.free)=false:=by simpa using hk
     have hc:lE env ((n,k)::r) acc=lE env r acc:=by
      show (if (k==NameKind.free)=true then _ else _)=_;rw [if_neg (by rw [hb];decide)]
     rw [hc,←ih _ fun y hm=>hy y (List.mem_cons_of_mem _ hm)];simp only [hb,Bool.false_eq_true,if_false,pure_bind]
 have q:=go scope.names [] h;unfold closureFor;show (forIn scope.names [] _ >>= fun r=>pure r)=_;rw [bind_pure];exact q
theorem fG {env:Env}:∀(ns:List (Str×NameKind)) (acc:List (Str×Addr)) (x:Str),(∀y∈ns,y.2 = .free->(env.cells.lookup y.1).isSome=true) ->
 (lE env ns acc).lookup x=if (x,NameKind.free)∈ns then env.cells.lookup x else acc.lookup x
 | [],acc,x,_=>by simp [lE]
 | (n,k)::r,acc,x,h=>by
   have hr:∀y∈r,y.2 = .free->(env.cells.lookup y.1).isSome=true:=fun y hm=>h y (List.mem_cons_of_mem _ hm)
   by_cases hk:k = .free
   ·subst hk
    show (lE env r ((n,(env.cells.lookup n).getD 0)::acc)).lookup x=_;rw [fG r _ x hr];obtain ⟨c,hc⟩:=Option.isSome_iff_exists.mp (h (n,.free) List.mem_cons_self rfl);have hc:env.cells.lookup n=some c:=hc
    by_cases hm:(x,NameKind.free)∈r
    ·rw [if_pos hm,if_pos (List.mem_cons_of_mem _ hm)]
    ·rw [if_neg hm]
     by_cases e:x=n
     ·subst e
      rw [if_pos List.mem_cons_self,List.lookup_cons,hc];simp
     ·rw [if_neg (fun z=>(List.mem_cons.mp z).elim (fun q=>e (congrArg Prod.fst q)) hm),List.lookup_cons]
      have:(x==n)=false:=by simpa using e
      rw [this]
   ·have hb:(k==NameKind.free)=false:=by simpa using hk
    have hc:lE env ((n,k)::r) acc=lE env r acc:=by
     show (if (k==NameKind.free)=true then _ else _)=_;rw [if_neg (by rw [hb];decide)]
    rw [hc,fG r acc x hr]
    have:((x,NameKind.free)∈(n,k)::r)↔(x,NameKind.free)∈r:=by
     constructor
     ·intro z
      rcases List.mem_cons.mp z with q|q
      ·exact absurd (congrArg Prod.snd q).symm hk
      ·exact q
     ·exact List.mem_cons_of_mem _
    simp only [this]
theorem gC (env:Env):∀(ns:List (Str×NameKind)) (x:Str),
 (ns.map fun (n,k)=>if (k == .free&&env.scope.kind == .function&&env.kindOf n==some .cell) then (n,NameKind.cell) else (n,k)).lookup x =
   (ns.lookup x).map fun k=>if (k == .free&&env.scope.kind == .function&&env.kindOf x==some .cell)=true then NameKind.cell else k
 | [],x=>rfl
 | (n,k)::r,x=>by
   show List.lookup x ((if (k==NameKind.free&&env.scope.kind == .function&&env.kindOf n==some .cell)=true then (n,NameKind.cell) else (n,k))::_)=_;cases hx:x==n with
   | true=>
     have e:x=n:=by simpa using hx
     subst e
     by_cases hc:(k==NameKind.free&&env.scope.kind == .function&&env.kindOf x==some .cell)=true
     ·rw [if_pos hc];simp only [List.lookup_cons,hx,Option.map_some,if_pos hc]
     ·rw [if_neg hc];simp only [List.lookup_cons,hx,Option.map_some,if_neg hc]
   | false=>
     have ih:=gC env r x
     by_cases hc:(k==NameKind.free&&env.scope.kind == .function&&env.kindOf n==some .cell)=true
     ·rw [if_pos hc];simp only [List.lookup_cons,hx];exact ih
     ·rw [if_neg hc];simp only [List.lookup_cons,hx];exact ih
structure bh (N own:List Str) (caps:List Nat) (XN:List Str) (outer scope:Scope):Prop where
 kind:scope.kind = .function
 Qj:∀y∈scope.names,y.2 ≠ .cell
 names:∀y∈scope.names,y.2 = .local->scope.names.lookup y.1=some .local
 free:∀y∈scope.names,y.2 = .free->outer.names.lookup y.1=some .cell\/outer.names.lookup y.1=some .free
 nd:N.Nodup
 len:N.length=own.length+caps.length
 cap:∀(j:Nat),j<caps.length->N[own.length+j]? = XN[caps.getD j 0]? /\ ∃x,N[own.length+j]? = some x/\(x,NameKind.free)∈scope.names/\scope.names.lookup x=some .free
def st0 (own:List Str) (caps:List Nat) (σ:St):St:=own.map (fun _=>none)++caps.map (fun i=>(σ[i]?).join)
def gj (X:Cx) (scope:Scope) (C:Addr) (N:List Str) (s:Shared) (H:Hp) (fp:List Addr):Cx:=
 {X with N:=N,s₀:=s,H₀:=H,env:=compEnvC scope (lE X.env scope.names []) C X.env,outer:=X.stack,ex:=fp,fn:=fun _=>false,pn:=[],xe:=fun _ _=>False}
section
variable {X:Cx} {pins:List (Addr×Obj)} {σ:St} {H:Hp} {s:Shared} {scope:Scope} {N own:List Str} {caps:List Nat} {fp:List Addr} {C:Nat}
theorem bh.yW (S:bh N own caps X.N X.env.scope scope) (ok:X.Ok):∀y∈scope.names,y.2 = .free->(X.env.cells.lookup y.1).isSome=true:=fun y hy hf=>by
 obtain ⟨c,e⟩:=ok.has y.1 (S.free y hy hf);rw [e];rfl
theorem bh.csub (S:bh N own caps X.N X.env.scope scope) (ok:X.Ok) {x:Str} {c:Addr} (h:(lE X.env scope.names []).lookup x=some c):X.env.cells.lookup x=some c:=by
 rw [fG _ _ _ (S.yW ok)] at h;split at h
 ·exact h
 ·simp at h
theorem bh.yE {S:bh N own caps X.N X.env.scope scope} {x:Str} (h:(relabel scope X.env).names.lookup x=some .cell\/(relabel scope X.env).names.lookup x=some .free):(x,NameKind.free)∈scope.names:=by
 have e:=gC X.env scope.names x;have e':(relabel scope X.env).names.lookup x=(scope.names.lookup x).map fun k=>if (k == .free&&X.env.scope.kind == .function&&X.env.kindOf x==some .cell)=true then NameKind.cell else k:=e;rw [e'] at h;cases q:scope.names.lookup x with
 | none=>rw [q] at h;simp at h
 | some k=>
   have hm:=PySem.mem_of_lookup q
   by_cases hk:k = .free
   ·subst hk;exact hm
   ·rw [q] at h
    have hb:(k==NameKind.free)=false:=by simpa using hk
    simp only [Option.map_some,hb,Bool.false_and,Bool.false_eq_true,if_false] at h;rcases h with h|h
    ·exact absurd (Option.some.inj h) (S.Qj _ hm)
    ·exact absurd (Option.some.inj h) hk
theorem Inv.comp {h1:Heap} {D:Nat} (I:Inv X pins σ H s) (S:bh N own caps X.N X.env.scope scope) (hfp:∀b∈fp,ou X pins H b) (hfo:∀b∈fp,∃o,s.heap.get? b=some o)
 (hD:D=s.heap.objs.size) (hC:C=s.heap.objs.size+1) (old:∀b o,s.heap.get? b=some o->h1.get? b=some o) (hns:h1.Ns C (fun _=>none)) (hl:h1.get? D=some {cls:= .type "list",data:= .seq #[]}) {t:Nat}:
 Inv (gj X scope C N s H fp) [] (st0 own caps σ) (upd H D (.lst [])) {s with heap:=h1,toks:=t}:=by
 have some':=S.yW I.ok;have sub:∀{x c},(lE X.env scope.names []).lookup x=some c->X.env.cells.lookup x=some c:=fun h=>S.csub I.ok h;have freshD:H D=none:=I.hok.fresh (by rw [hD];exact Nat.le_refl _);have Iz:H C=none:=I.hok.fresh (by rw [hC];exact Nat.le_succ _)
 have yZ:∀x c,X.env.cells.lookup x=some c->c<s.heap.objs.size:=fun x c e=>by
  obtain ⟨v,z⟩:=I.cell x c e;exact z.lt
 have U7:∀b∈fp,b<s.heap.objs.size:=fun b hb=>by
  obtain ⟨o,e⟩:=hfo b hb;exact Heap.lt_size e
 have DC:D≠C:=by omega
 refine ⟨⟨I.ok.mod,S.kind,I.ok.glob,I.ok.blt,by show s.heap.objs.size<=C;omega,fun x y c e1 e2=>I.ok.inj x y c (sub e1) (sub e2),fun x h=> ?_,fun x c h=>(by cases h),I.ok.hd,I.ok.frames,Or.inl rfl,fun b hb=>⟨?_,fun x c e=> ?_⟩,I.bs,Nat.le_trans I.ok.M5 I.sz,fun b o e hb=> ?_,fun b hb z=> ?_,I.stack,I.Bm⟩,
  rfl,I.bare,Un.laid old (by show s.heap.objs.size<=D;omega) freshD,⟨_,hns,fun j x v e1 e2 e3=> ?_⟩,fun x c e=> ?_, ?_,fun x c e=> ?_,fun p hp=> ?_,I.hok.laid old (by omega) ?_, ?_⟩
 ·have hm:=bh.yE (S:=S) (X:=X) h
  obtain ⟨c,e⟩:=Option.isSome_iff_exists.mp (some' _ hm rfl);exact ⟨c,by show (lE X.env scope.names []).lookup x=_;rw [fG _ _ _ some',if_pos hm];exact e⟩
 ·exact Nat.ne_of_lt (show @LT.lt Nat _ b C by have:=lQ (U7 b hb);omega)
 ·exact (hfp b hb).2.2.2.2.1 x c (sub e)
 ·rcases (hfp b hb).2.2.2.1 with z|z
  ·exact I.ok.Lw b o e z
  ·exact absurd (Nat.lt_of_lt_of_le (Heap.lt_size e) (Nat.le_trans I.ok.M5 z)) (Nat.lt_irrefl _)
 ·rcases List.mem_cons.mp (I.uH b z) with q|q
  ·exact (hfp b hb).2.1 q
  ·exact (hfp b hb).2.2.1 q
 ·have e1:N[j]? = some x:=e1
  have hj:own.length<=j:=by
   by_cases q:own.length<=j
   ·exact q
   ·exfalso
    unfold st0 at e2;rw [List.getElem?_append_left (by simp;omega),List.getElem?_map] at e2;cases r:own[j]? with
    | none=>rw [r] at e2;cases e2
    | some a=>rw [r] at e2;cases e2
  have hjl:j<N.length:=(List.getElem?_eq_some_iff.mp e1).1;have hjc:j - own.length<caps.length:=by have:=S.len;omega
  obtain ⟨c1,x',c2,c3,c4⟩:=S.cap (j - own.length) hjc;rw [show own.length+(j - own.length)=j by omega] at c1 c2;rw [e1] at c2;cases c2
  have e2':(σ[caps.getD (j - own.length) 0]?).join=some v:=by
   unfold st0 at e2;rw [List.getElem?_append_right (by simp;omega),List.getElem?_map,List.length_map] at e2;rw [List.getD_eq_getElem?_getD];cases r:caps[j - own.length]? with
   | none=>rw [r] at e2;cases e2
   | some a=>rw [r] at e2;exact Option.some.inj e2
  have YQ:σ[caps.getD (j - own.length) 0]? = some (some v):=by
   cases r:σ[caps.getD (j - own.length) 0]? with
   | none=>rw [r] at e2';cases e2'
   | some a=>rw [r] at e2';exact congrArg Option.some e2'
  have kx:X.env.kindOf x=some .cell\/X.env.kindOf x=some .free:=S.free _ c3 rfl;obtain ⟨m,hn,hl'⟩:=I.loc;obtain ⟨u,r,l⟩:=hl' _ x v (by rw [←c1];exact e1) YQ (by rcases kx with z|z;exact .inr (.inl z);exact .inr (.inr z));refine ⟨u,r,.inr ⟨?_, ?_⟩⟩
  ·show (relabel scope X.env).names.lookup x=some .cell\/(relabel scope X.env).names.lookup x=some .free
   have e:(relabel scope X.env).names.lookup x=(scope.names.lookup x).map fun k=>if (k == .free&&X.env.scope.kind == .function&&X.env.kindOf x==some .cell)=true then NameKind.cell else k:=gC X.env scope.names x;rw [e,c4,Option.map_some];split
   ·exact .inl rfl
   ·exact .inr rfl
  ·rcases l with ⟨hk,_⟩|⟨_,c,hc,z⟩
   ·rcases kx with q|q<;>rw [hk] at q<;>cases q
   ·refine ⟨c, ?_, ?_⟩
    ·show (lE X.env scope.names []).lookup x=_
     rw [fG _ _ _ some',if_pos c3];exact hc
    ·obtain ⟨o,ho,hd⟩:=z
     exact ⟨o,old c o ho,hd⟩
 ·obtain ⟨v,o,ho,hd⟩:=I.cell x c (sub e)
  exact ⟨v,o,old c o ho,hd⟩
 ·show upd H D (.lst []) C=none
  rw [aO DC.symm];exact Iz
 ·show upd H D (.lst []) c=none
  rw [aO (Nat.ne_of_lt (by have:=lQ (yZ x c (sub e));omega))];exact I.mV x c (sub e)
 ·cases hp
 ·exact ⟨Nat.zero_le _,[],0,.nil,hl⟩
 ·show (own.map (fun _=>none)++caps.map _).length=N.length
  rw [List.length_append,List.length_map,List.length_map,S.len]
theorem Inv.Od {Ag:List (Addr×Obj)} {σ':St} {H':Hp} {s':Shared} {h':Heap} (I:Inv X pins σ H s) (hfp:∀b∈fp,ou X pins H b) (hC:s.heap.objs.size<=C) (J:Inv (gj X scope C N s H fp) Ag σ' H' s') (hs:Heap.SameBut C s'.heap h'):
 Inv X pins σ H' {s' with heap:=h'}:=by
 have nC:∀b o,s.heap.get? b=some o->b≠C:=fun b o e=>Nat.ne_of_lt (by have:=lQ (Heap.lt_size e);omega);have u:=J.base;have frC:H' C=none:=J.free;refine I.call' (ch:=fp) (s':={s' with heap:=h'}) J.os ⟨fun b o e n hb hx=> ?_,fun b o e n hb hx=> ?_,u.free,fun b o e hx=> ?_,u.tups,u.u_,u.xG⟩ (fun a o e=>(J.hok a o e).stay (fun b v hb q=> ?_) (fun _ q=>q) fun _ _ q=>q) J.bare fun b hb=> ?_
 ·exact (hs.2 b (nC b o e)).trans (u.keep b o e n hb hx)
 ·obtain ⟨sl,q⟩:=u.slot b o e n hb hx
  exact ⟨sl,(hs.2 b (nC b o e)).trans q⟩
 ·obtain ⟨o',q⟩:=u.there b o e hx
  exact ⟨o',(hs.2 b (nC b o e)).trans q⟩
 ·refine (hs.2 b ?_).trans q
  intro z;subst z;rcases hb with z|z
  ·subst z;rw [frC] at e;cases e
  ·rw [frC] at z;cases z
 ·exact ⟨(hfp b hb).2.2.2.1,(hfp b hb).2.1,(hfp b hb).2.2.2.2.1,(hfp b hb).2.2.2.2.2⟩
end
section
variable {prog:Program} {w:World} {A:Around} {R:Result->Shared->Prop} {s:Shared}
theorem t_ {elt target iter:Expr} {ifs:List Expr} {scope:Scope} {pos:Pos} {it acc:Value} {env:Env} (I:Nat->Shared->Prop)
 (turn:∀n s,I n s->wpAny (model prog w) A (pyNext it) (fun r s1=>match r with
   | none=>R (.ok .next) s1
   | some v=>wpAny (model prog w) A (letOwnedTupleGo target it v) (fun _ s1'=>wpAny (model prog w) A (assign target env v) (fun _ s2=>
      wpAny (model prog w) A (forIn ifs true fun c r=>if r=true then do let ok ←isTrue c env (eval c env);pure (ForInStep.yield ok) else pure (ForInStep.yield r)) (fun ok s3=>
       if ok=true then wpAny (model prog w) A (eval elt env) (fun x s4=>
        wpAny (model prog w) A (call (.builtin "list.append") [acc,x]) (fun _ s5=>∃m,m<n/\I m s5) (fun _ _=>False) s4) (fun _ _=>False) s3
       else ∃m,m<n/\I m s3) (fun _ _=>False) s2) (fun _ _=>False) s1') (fun _ _=>False) s1) (fun _ _=>False) s)
 (n:Nat) (h:I n s):
 codeAny (model prog w) A (.compLoop (.ListComp elt [⟨target,iter,ifs,0⟩] scope pos) 0 it acc env) R s:=by
 refine codeAny_loop rfl I (fun n s hI=> ?_) n h;show wpAny _ A ((compTurn (.ListComp elt [⟨target,iter,ifs,0⟩] scope pos) 0 it acc env).onRaise (fun x=>do noteFrame x env;theTreesLotGoes x)) _ _ s;refine wpAny_noted ?_;rw [compTurn_list];refine wpAny_bind (wpAny_standAt (wpAny_bind (wpAny_mono (turn n s hI) (fun r s1 h1=> ?_) fun _ _ h'=>h'.elim)));cases r with
 | none=>exact wpAny_pure h1
 | some v=>
   refine wpAny_bind (wpAny_mono h1 (fun _ s1' h1'=> ?_) fun _ _ h'=>h'.elim);refine wpAny_bind (wpAny_mono h1' (fun _ s2 h2=>wpAny_bind (wpAny_mono h2 (fun ok s3 h3=> ?_) fun _ _ h'=>h'.elim)) fun _ _ h'=>h'.elim);cases ok with
   | false=>exact wpAny_pure ⟨rfl,h3⟩
   | true=>
     exact wpAny_bind (wpAny_bind (wpAny_mono h3 (fun x s4 h4=>wpAny_bind (wpAny_mono h4 (fun _ s5 h5=>wpAny_pure (wpAny_pure ⟨rfl,h5⟩)) fun _ _ h'=>h'.elim)) fun _ _ h'=>h'.elim))
end
def Y8 (X:Cx) (ifs:List Expr) (t:TT):Prop:=
 ∀(pins:List (Addr×Obj)) (s:Shared) (σ:St) (H:Hp) (Q:Bool->Hp->Prop),Inv X pins σ H s->t σ H Q ->
  wpAny (model X.prog X.w) X.A (forIn ifs true fun c r=>if r=true then do let ok ←isTrue c X.env (eval c X.env);pure (ForInStep.yield ok) else pure (ForInStep.yield r)) (TP X pins σ Q) X.xe s
def Ot:TT:=fun _ H Q=>Q true H
theorem eE {X:Cx}:Y8 X [] Ot:=fun _ _ _ H _ I h=>wpAny_tests_nil ⟨H,I,h⟩
theorem tE {X:Cx} {c:Expr} {t:TT} (h:PT X c t):Y8 X [c] t:=fun pins s σ H Q I q=>wpAny_tests_one (h pins s σ H Q I q)
def oH (J:It) (g:TG) (tc:TT) (te:TE) (Q:VK) (D:Addr) (σ0:St) (H1:Hp):Prop:=
 ∃W:Nat->Nat->St->Hp->Prop,(∃m,W 0 m σ0 (upd H1 D (.lst []))) /\ ∀i m σ H,W i m σ H ->
  (J.stop i H/\Q (.ref D) H)\/(J.go i H /\ ∃N:St->Hp->Prop,(∀σ' H',N σ' H' -> ∃m',m'<m/\W (i+1) m' σ' H') /\ ∀x H',J.Wo i H x H'->g x σ H' fun σ2 H2=>tc σ2 H2 fun b H3=>
    if b=true then te σ2 H3 fun y H4=>∃acc,H4 D=some (.lst acc)/\acc.length<sizeLine/\N σ2 (upd H4 D (.lst (acc++[y]))) else N σ2 H3)
def Ac (own:List Str) (caps:List Nat) (wi:TI) (g:TG) (tc:TT) (te:TE):TE:=fun σ H Q=>wi σ H fun J H1=>∀D,H1 D=none->oH J g tc te Q D (st0 own caps σ) H1
section
variable {X:Cx} {elt tg iter:Expr} {ifs:List Expr} {scope:Scope} {pos:Pos} {N own:List Str} {caps:List Nat} {wi:TI} {g:TG} {tc:TT} {te:TE}
theorem Gd {use:Option (Value->Sem Unit)} {Qv:Value->Shared->Prop} {pins:List (Addr×Obj)} {σ:St} {H:Hp} {s:Shared} {Q:VK} (hc:X.calm=true) (S:bh N own caps X.N X.env.scope scope)
 (hg:∀C s H fp,PG (gj X scope C N s H fp) tg g) (hcs:∀C s H fp,Y8 (gj X scope C N s H fp) ifs tc) (he:∀C s H fp,PE (gj X scope C N s H fp) elt te)
 (hi:PI X tg iter wi) (hs:∀x,foldedSetIterable iter X.env x=pure x)
 (I:Inv X pins σ H s) (h:Ac own caps wi g tc te σ H Q)
 (fin:∀(D C:Addr) (H':Hp) (s':Shared),(∃m,s'.heap.Ns C m)->Inv X pins σ H' s'->(∀h',Heap.SameBut C s'.heap h'->Inv X pins σ H' {s' with heap:=h'})->ou X pins H' C->Q (.ref D) H' ->
   compPost (model X.prog X.w) X.A X.xe use Qv (.ref D) C (.ok .next) s'):
 wpAny (model X.prog X.w) X.A (comprehension (.ListComp elt [⟨tg,iter,ifs,0⟩] scope pos) scope X.env (firstIterPos [⟨tg,iter,ifs,0⟩] pos) (newList []) false (eval iter X.env) use) Qv X.xe s:=by
 refine wpAny_comprehension_free (use:=use) rfl hs (yX (S.yW I.ok)) S.kind S.names (dj (hi pins s σ H _ I h) fun xv s1 h1=>dj h1 fun itv s2 h2=> ?_);obtain ⟨it,fp,tn,J,H2,e,I2,T,st2,f2,q2⟩:=h2;subst e;refine wpAny_newList ?_;refine wpAny_newFunctionEnv S.Qj (by intro y hy;simp at hy) (fun h1 U0 hsb1=> ?_) S.kind;dsimp only at U0 hsb1 ⊢;have hD:H2 s2.heap.objs.size=none:=I2.hok.fresh (Nat.le_refl _);have hsz:(s2.heap.push {cls:= .type "list",data:= .seq ([]:List Value).toArray}).objs.size=s2.heap.objs.size+1:=Heap.size_push ..
 have old:∀b o,s2.heap.get? b=some o->h1.get? b=some o:=fun b o e=>by
  refine hsb1.extBut b o (Nat.ne_of_lt (by have:=lQ (Heap.lt_size e);rw [hsz];omega)) (Heap.get?_push_of_some _ (Heap.get?_push_of_some _ e))
 have hl:h1.get? s2.heap.objs.size=some {cls:= .type "list",data:= .seq #[]}:=
  hsb1.extBut _ _ (Nat.ne_of_lt (by rw [hsz];omega)) (Heap.get?_push_of_some _ (Heap.get?_push_size _ rfl))
 have hfo:∀b∈fp,∃o,s2.heap.get? b=some o:=fun b hb=>let ⟨o,e,_⟩:=T.obj _ _ st2 b hb;⟨o,e⟩
 have I4:=Inv.comp (C:=(s2.heap.push {cls:= .type "list",data:= .seq ([]:List Value).toArray}).objs.size) (t:=s2.toks+([]:List (Str×Value)).length) I2 S f2 hfo rfl hsz old U0 hl;obtain ⟨W,⟨m0,w0⟩,turn⟩:=q2 _ hD;generalize hCe:(s2.heap.push {cls:= .type "list",data:= .seq ([]:List Value).toArray}).objs.size=C at *;generalize hDe:s2.heap.objs.size=D at *;have hDC:D≠C:=by omega
 have loop:∀s3:Shared,s3={s2 with heap:=h1,toks:=s2.toks+([]:List (Str×Value)).length} ->
  codeAny (model X.prog X.w) X.A (.compLoop (.ListComp elt [⟨tg,iter,ifs,0⟩] scope pos) 0 (.ref it) (.ref D) (gj X scope C N s2 H2 fp).env) (compPost (model X.prog X.w) X.A X.xe use Qv (.ref D) C) s3:=by
  rintro s3 rfl
  have oF:∀b∈fp,(upd H2 D (.lst [])) b=none:=fun b hb=>by
   obtain ⟨o,e⟩:=hfo b hb;rw [aO (Nat.ne_of_lt (by have:=lQ (Heap.lt_size e);omega))];exact (f2 b hb).1
  have stat:∀{H':Hp},(∀b∈fp,H' b=none) -> ∀b∈fp,ou (gj X scope C N s2 H2 fp) [] H' b:=fun hn b hb=>by
   obtain ⟨o,e⟩:=hfo b hb;have hlt:=lQ (Heap.lt_size e);refine ⟨hn b hb, ?_,fun z=> ?_,.inl hb,fun x c e'=>(f2 b hb).2.2.2.2.1 x c (S.csub I2.ok e'),fun p hp=>(by cases hp)⟩
   ·exact Nat.ne_of_lt (show @LT.lt Nat _ b C by omega)
   ·rcases List.mem_cons.mp (I2.uH b z) with q|q
    ·exact (f2 b hb).2.1 q
    ·exact (f2 b hb).2.2.1 q
  refine t_ (fun n s'=>∃i σ' H',Inv (gj X scope C N s2 H2 fp) [] σ' H' s'/\tn i s'.heap/\(∀b∈fp,H' b=none)/\W i n σ' H') ?_ m0
   ⟨0,_,_,I4,T.keep _ _ _ st2 fun b _ o e=>old b o e,oF,w0⟩
  rintro n s3 ⟨i,σ3,H3,I3,st3,V9,w3⟩;rcases turn i n σ3 H3 w3 with ⟨stop,qn⟩|⟨go,Nx,hNx,step⟩
  ·refine dj (T.done (gj X scope C N s2 H2 fp) rfl rfl rfl hc i [] s3 σ3 H3 _ I3 (stat V9) st3 stop) fun r s4 ⟨hr,J4⟩=> ?_
   subst hr;obtain ⟨m4,Fy,_⟩:=J4.loc;exact fin D C H3 s4 ⟨m4,Fy⟩ (I2.Od f2 (by omega) J4 (Heap.SameBut.refl _ _)) (fun h' hs'=>I2.Od f2 (by omega) J4 hs') (I2.zZ (show s2.heap.objs.size<=C by omega) J4.free) qn
  ·refine dj (T.item (gj X scope C N s2 H2 fp) rfl rfl rfl hc i [] s3 σ3 H3 _ I3 (stat V9) st3 go) fun r s4 ⟨u,hr,h4⟩=> ?_
   subst hr;refine dj h4 fun _ s5 ⟨x,H5,I5,r5,y5,zN,R_⟩=> ?_;have I5':=I5.pinned (stat R_) (T.obj _ _ zN);refine dj (hg C s2 H2 fp _ s5 σ3 H5 x u _ I5' r5 (step x H5 y5)) fun _ s6 ⟨σ6,H6,I6,q6⟩=> ?_;refine dj (hcs C s2 H2 fp _ s6 σ6 H6 _ I6 q6) fun ok s7 ⟨H7,I7,q7⟩=> ?_
   have again:∀{σ8:St} {H8:Hp} {s8:Shared},Inv (gj X scope C N s2 H2 fp) ([]++uQ fp s5.heap) σ8 H8 s8->Nx σ8 H8 -> ∃m,m<n /\ ∃i σ' H',Inv (gj X scope C N s2 H2 fp) [] σ' H' s8/\tn i s8.heap/\(∀b∈fp,H' b=none)/\W i m σ' H':=fun {σ8 H8 s8} I8 n8=>by
    obtain ⟨m',hm,w8⟩:=hNx _ _ n8;refine ⟨m',hm,i+1,σ8,H8,I8.oW,T.keep _ _ _ zN fun b hb o e=>(I8.pin (b,o) (List.mem_append_right _ (List.mem_append_right _ (jh hb e)))).1,fun b hb=> ?_,w8⟩;obtain ⟨o,e,d⟩:=T.obj _ _ zN b hb;exact (I8.pin (b,o) (List.mem_append_right _ (List.mem_append_right _ (jh hb e)))).2.1
   cases ok with
   | false=>
     rw [if_neg (by decide)] at q7;exact again I7 q7
   | true=>
     rw [if_pos rfl] at q7;refine dj (he C s2 H2 fp _ s7 σ6 H7 _ I7 q7) fun y s8 ⟨yv,H8,I8,r8,acc,ha,hlen,q8⟩=> ?_;exact dj (uV _ s8 σ6 H8 (.ref D) [yv] (.ref D) [y] (fun v H9=>Nx σ6 H9) I8 rfl (.cons r8 .nil) ⟨D,acc,yv,rfl,rfl,ha,hlen,q8⟩) fun _ s9 ⟨_,H9,I9,_,q9⟩=>again I9 q9
 exact codeAny_compStart_list (loop _ rfl) (T.self _ 0 _ _ _ (T.keep _ _ _ st2 fun b _ o e=>old b o e) (loop _ rfl))
theorem eV (hc:X.calm=true) (S:bh N own caps X.N X.env.scope scope) (hi:PI X tg iter wi)
 (hg:∀C s H fp,PG (gj X scope C N s H fp) tg g) (hcs:∀C s H fp,Y8 (gj X scope C N s H fp) ifs tc) (he:∀C s H fp,PE (gj X scope C N s H fp) elt te)
 (hs:∀x,foldedSetIterable iter X.env x=pure x:=by intro _;rfl):PE X (.ListComp elt [⟨tg,iter,ifs,0⟩] scope pos) (Ac own caps wi g tc te):=by
 intro pins s σ H Q I h;rw [eval_ListComp];refine Gd (use:=none) hc S hg hcs he hi hs I h ?_;intro D C H' s' hn I' hk _ q;obtain ⟨m,hn⟩:=hn;exact ⟨m,hn,fun h' hs'=>⟨.ref D,H',hk h' hs',rfl,q⟩⟩
theorem wK {i:Nat} {x:Str} {px sp:Pos} (hc:X.calm=true) (hN:X.N.Nodup) (hx:X.N[i]? = some x) (hl:Loc X.env.scope x) (S:bh N own caps X.N X.env.scope scope) (hi:PI X tg iter wi)
 (hg:∀C s H fp,PG (gj X scope C N s H fp) tg g) (hcs:∀C s H fp,Y8 (gj X scope C N s H fp) ifs tc) (he:∀C s H fp,PE (gj X scope C N s H fp) elt te)
 (hsw:swapsWith (.ListComp elt [⟨tg,iter,ifs,0⟩] scope pos) (some (.Name x px)) sp.line X.env=pure true:=by rfl)
 (hs:∀x,foldedSetIterable iter X.env x=pure x:=by intro _;rfl) (hf:X.fn x=true\/X.env.scope.names.lookup x=some .local:=by first |exact .inl rfl|exact .inr rfl|assumption):
 PS X (.Assign [.Name x px] (.ListComp elt [⟨tg,iter,ifs,0⟩] scope pos) sp) (SJ (Ac own caps wi g tc te) (jz i)):=by
 intro pins s σ H D I h;rw [exec_Assign_Name_used _ _ _ _ hsw];refine wpAny_bind (wpAny_standAt (wpAny_bind ?_));show wpAny _ X.A (do let _ ←comprehension (.ListComp elt [⟨tg,iter,ifs,0⟩] scope pos) scope X.env (firstIterPos [⟨tg,iter,ifs,0⟩] pos) (newList []) false (eval iter X.env) (some (assign (.Name x px) X.env))) _ _ s;refine wpAny_bind (wpAny_mono (Gd (use:=some (assign (.Name x px) X.env)) (Qv:=fun _ s'=>SP X pins D .next s') hc S hg hcs he hi hs I h ?_) (fun _ s' hq=>wpAny_pure (wpAny_pure hq)) fun _ _ e=>e);intro E C H' s' hn I' hk fC q;obtain ⟨m,hn⟩:=hn;obtain ⟨f0,f1,f2,f3,f4,f5⟩:=fC;show wpAny _ X.A (assign (.Name x px) X.env (.ref E)) _ _ _;refine wpAny_assign_Name (uG I' hN hx hl (v:= .ref E) rfl (fun s2 I2 k=> ?_) hf);refine ⟨m, ?_,fun h' hs'=> ?_⟩
 ·obtain ⟨o,es,ep,ho,r⟩:=hn
  obtain ⟨a,ks,ka⟩:=k
  have hCa:C≠a:=fun z=>by
   rcases ka with q'|q'
   ·exact f1 (z.trans q')
   ·exact f4 x a q' z.symm
  exact ⟨o,es,ep,(ks.2 C hCa).trans ho,r⟩
 ·exact ⟨_,H',I2.turned (t':=s2.toks) (fun b o hb e=>(hs'.2 b hb).trans e) f0 f1 f3 f4 f5,q⟩
end
def Q_ (N own:List Str) (caps:List Nat) (XN:List Str) (outer scope:Scope):Bool:=
 decide (scope.kind = .function)&&scope.names.all (fun y=>decide (y.2 ≠ .cell))&&scope.names.all (fun y=>decide (y.2 ≠ .local)||decide (scope.names.lookup y.1=some .local)) &&
 scope.names.all (fun y=>decide (y.2 ≠ .free)||decide (outer.names.lookup y.1=some .cell)||decide (outer.names.lookup y.1=some .free))&&decide N.Nodup&&decide (N.length=own.length+caps.length) &&
 (List.range caps.length).all (fun j=>match N[own.length+j]? with |some x=>decide (XN[caps.getD j 0]? = some x)&&decide ((x,NameKind.free)∈scope.names)&&decide (scope.names.lookup x=some .free)|none=>false)
theorem bh.of {N own:List Str} {caps:List Nat} {XN:List Str} {outer scope:Scope} (h:Q_ N own caps XN outer scope=true):bh N own caps XN outer scope:=by
 unfold Q_ at h;simp only [Bool.and_eq_true,decide_eq_true_eq,List.all_eq_true,Bool.or_eq_true] at h;obtain ⟨⟨⟨⟨⟨⟨h1,h2⟩,h3⟩,h4⟩,h5⟩,h6⟩,h7⟩:=h;refine ⟨h1,h2,fun y hy e=> ?_,fun y hy e=> ?_,h5,h6,fun j hj=> ?_⟩
 ·rcases h3 y hy with z|z
  ·exact absurd e z
  ·exact z
 ·rcases h4 y hy with (z|z)|z
  ·exact absurd e z
  ·exact .inl z
  ·exact .inr z
 ·have q:=h7 j (List.mem_range.mpr hj)
  cases e:N[own.length+j]? with
  | none=>rw [e] at q;cases q
  | some x=>
    rw [e] at q;simp only [Bool.and_eq_true,decide_eq_true_eq] at q;exact ⟨q.1.1.symm,x,rfl,q.1.2,q.2⟩
end L2
set_option Elab.async false
set_option linter.all false
set_option maxRecDepth 100000
set_option maxHeartbeats 4000000
namespace L2
open PySem PySem.Spec PyProof.Rows
mutual
def Dat (H:Hp):V->PyData->Prop
 | v,.none=>v = .non
 | v,.bool b=>v = .bl b
 | v,.int i=>v = .int i
 | v,.str x=>v = .str x
 | v,.list ds=>∃a vs,v = .ref a/\H a=some (.lst vs)/\aM H vs ds
 | v,.tuple ds=>∃a vs,v = .ref a/\H a=some (.tup vs)/\aM H vs ds
 | _,.dict _=>False
def aM (H:Hp):List V->List PyData->Prop
 | [],[]=>True
 | v::vs,d::ds=>Dat H v d/\aM H vs ds
 | [],_::_=>False
 | _::_,[]=>False
end
section
variable {H H':Hp}
theorem aM.length:∀{vs:List V} {ds:List PyData},aM H vs ds->vs.length=ds.length
 | [],[],_=>rfl
 | _::_,_::_,h=>by simp only [aM] at h;simp [aM.length h.2]
 | [],_::_,h=>by simp only [aM] at h
 | _::_,[],h=>by simp only [aM] at h
theorem aM.get:∀{vs:List V} {ds:List PyData} {i:Nat} {v:V},aM H vs ds->vs[i]? = some v -> ∃d,ds[i]? = some d/\Dat H v d
 | _::_,_::_,0,_,h,e=>by simp only [aM] at h;simp at e;subst e;exact ⟨_,rfl,h.1⟩
 | _::_,_::_,i+1,_,h,e=>by simp only [aM] at h;simp at e;obtain ⟨d,q,r⟩:=aM.get h.2 e;exact ⟨d,by simpa using q,r⟩
 | [],[],_,_,_,e=>by simp at e
 | [],_::_,_,_,h,_=>by simp only [aM] at h
 | _::_,[],_,_,h,_=>by simp only [aM] at h
theorem aM.getD:∀{vs:List V} {ds:List PyData} {i:Nat} {d:PyData},aM H vs ds->ds[i]? = some d -> ∃v,vs[i]? = some v/\Dat H v d
 | _::_,_::_,0,_,h,e=>by simp only [aM] at h;simp at e;subst e;exact ⟨_,rfl,h.1⟩
 | _::_,_::_,i+1,_,h,e=>by simp only [aM] at h;simp at e;obtain ⟨d,q,r⟩:=aM.getD h.2 e;exact ⟨d,by simpa using q,r⟩
 | [],[],_,_,_,e=>by simp at e
 | [],_::_,_,_,h,_=>by simp only [aM] at h
 | _::_,[],_,_,h,_=>by simp only [aM] at h
theorem aM.append:∀{vs ws:List V} {ds es:List PyData},aM H vs ds->aM H ws es->aM H (vs++ws) (ds++es)
 | [],_,[],_,_,g=>g
 | _::_,_,_::_,_,h,g=>by simp only [aM,List.cons_append] at h ⊢;exact ⟨h.1,aM.append h.2 g⟩
 | [],_,_::_,_,h,_=>by simp only [aM] at h
 | _::_,_,[],_,h,_=>by simp only [aM] at h
theorem aM.take:∀{vs:List V} {ds:List PyData} (n:Nat),aM H vs ds->aM H (vs.take n) (ds.take n)
 | _,_,0,_=>by simp only [List.take_zero,aM]
 | [],[],_+1,_=>by simp only [List.take_nil,aM]
 | _::_,_::_,n+1,h=>by simp only [aM,List.take_succ_cons] at h ⊢;exact ⟨h.1,aM.take n h.2⟩
 | [],_::_,_+1,h=>by simp only [aM] at h
 | _::_,[],_+1,h=>by simp only [aM] at h
theorem aM.drop:∀{vs:List V} {ds:List PyData} (n:Nat),aM H vs ds->aM H (vs.drop n) (ds.drop n)
 | _,_,0,h=>by simpa using h
 | [],[],_+1,_=>by simp only [List.drop_nil,aM]
 | _::_,_::_,n+1,h=>by simp only [aM,List.drop_succ_cons] at h ⊢;exact aM.drop n h.2
 | [],_::_,_+1,h=>by simp only [aM] at h
 | _::_,[],_+1,h=>by simp only [aM] at h
theorem aM.ints (ns:List Int):aM H (ns.map V.int) (ns.map PyData.int):=by
 induction ns with
 | nil=>simp only [List.map_nil,aM]
 | cons n r ih=>simp only [List.map_cons,aM,Dat];exact ⟨trivial,ih⟩
mutual
theorem Dat.mono (hl:∀a xs,H a=some (HO.lst xs)->H' a=some (HO.lst xs)) (ht:∀a xs,H a=some (HO.tup xs)->H' a=some (HO.tup xs)):∀(d:PyData) {v:V},Dat H v d->Dat H' v d
 | .none,_,h=>by simp only [Dat] at h ⊢;exact h
 | .bool _,_,h=>by simp only [Dat] at h ⊢;exact h
 | .int _,_,h=>by simp only [Dat] at h ⊢;exact h
 | .str _,_,h=>by simp only [Dat] at h ⊢;exact h
 | .list ds,_,h=>by simp only [Dat] at h ⊢;obtain ⟨a,vs,e,q,r⟩:=h;exact ⟨a,vs,e,hl _ _ q,aM.mono hl ht ds r⟩
 | .tuple ds,_,h=>by simp only [Dat] at h ⊢;obtain ⟨a,vs,e,q,r⟩:=h;exact ⟨a,vs,e,ht _ _ q,aM.mono hl ht ds r⟩
 | .dict _,_,h=>by simp only [Dat] at h
theorem aM.mono (hl:∀a xs,H a=some (HO.lst xs)->H' a=some (HO.lst xs)) (ht:∀a xs,H a=some (HO.tup xs)->H' a=some (HO.tup xs)):∀(ds:List PyData) {vs:List V},aM H vs ds->aM H' vs ds
 | [],[],_=>by simp only [aM]
 | d::ds,v::vs,h=>by simp only [aM] at h ⊢;exact ⟨Dat.mono hl ht d h.1,aM.mono hl ht ds h.2⟩
 | _::_,[],h=>by simp only [aM] at h
 | [],_::_,h=>by simp only [aM] at h
end
mutual
def R7:PyData->Bool
 | .tuple ds=>Fq ds
 | .list _ | .dict _=>false
 | .none | .bool _ | .int _ | .str _=>true
def Fq:List PyData->Bool
 | []=>true
 | d::ds=>R7 d&&Fq ds
end
mutual
theorem Dat.keep (ht:∀a xs,H a=some (HO.tup xs)->H' a=some (HO.tup xs)):∀(d:PyData) {v:V},R7 d=true->Dat H v d->Dat H' v d
 | .none,_,_,h=>by simp only [Dat] at h ⊢;exact h
 | .bool _,_,_,h=>by simp only [Dat] at h ⊢;exact h
 | .int _,_,_,h=>by simp only [Dat] at h ⊢;exact h
 | .str _,_,_,h=>by simp only [Dat] at h ⊢;exact h
 | .list ds,_,i,h=>by simp only [R7] at i;cases i
 | .tuple ds,_,i,h=>by simp only [Dat] at h ⊢;simp only [R7] at i;obtain ⟨a,vs,e,q,r⟩:=h;exact ⟨a,vs,e,ht _ _ q,aM.keep ht ds i r⟩
 | .dict _,_,_,h=>by simp only [Dat] at h
theorem aM.keep (ht:∀a xs,H a=some (HO.tup xs)->H' a=some (HO.tup xs)):∀(ds:List PyData) {vs:List V},Fq ds=true->aM H vs ds->aM H' vs ds
 | [],[],_,_=>by simp only [aM]
 | d::ds,v::vs,i,h=>by simp only [aM] at h ⊢;simp only [Fq,Bool.and_eq_true] at i;exact ⟨Dat.keep ht d i.1 h.1,aM.keep ht ds i.2 h.2⟩
 | _::_,[],_,h=>by simp only [aM] at h
 | [],_::_,_,h=>by simp only [aM] at h
end
theorem bJ {α:Type} (f:α->PyData) (h:∀x,R7 (f x)=true):∀l:List α,Fq (l.map f)=true
 | []=>rfl
 | a::l=>by simp only [List.map_cons,Fq,h a,bJ f h l,Bool.and_self]
end
section
variable {X:Cx} {pins:List (Addr×Obj)} {σ:St} {H:Hp} {s:Shared}
mutual
theorem Inv.reads (I:Inv X pins σ H s):∀(d:PyData) {v:V} {u:Value},Dat H v d->RelV v u -> ∃as,Reads s.heap u d as
 | .none,v,u,h,r=>by
   simp only [Dat] at h;subst h;cases (show u=Value.none from r);exact ⟨_,.none⟩
 | .bool b,v,u,h,r=>by
   simp only [Dat] at h;subst h;cases (show u=Value.bool b from r);exact ⟨_,.bool b⟩
 | .int i,v,u,h,r=>by
   simp only [Dat] at h;subst h;obtain ⟨t,q⟩:=(show ∃t,u=Value.int i t from r);cases q;exact ⟨_,.int i t⟩
 | .str x,v,u,h,r=>by
   simp only [Dat] at h;subst h;obtain ⟨t,q⟩:=(show ∃t,u=Value.str x t from r);cases q;exact ⟨_,.str x t⟩
 | .list ds,v,u,h,r=>by
   simp only [Dat] at h;obtain ⟨a,vs,rfl,q,g⟩:=h;cases (show u=Value.ref a from r);obtain ⟨its,rv,p,hz⟩:=I.list (aV.of q);obtain ⟨o,ho,hc,n,hd⟩:=p.isList;obtain ⟨as,ra⟩:=Inv.readsAll I ds g rv;exact ⟨_,.list ho hc hd (by simpa using ra)⟩
 | .tuple ds,v,u,h,r=>by
   simp only [Dat] at h;obtain ⟨a,vs,rfl,q,g⟩:=h;cases (show u=Value.ref a from r);obtain ⟨its,rv,p,hz⟩:=I.tuple (fY.of q);obtain ⟨o,ho,hc,n,hd⟩:=p;obtain ⟨as,ra⟩:=Inv.readsAll I ds g rv;exact ⟨_,.tuple ho hc hd (by simpa using ra)⟩
 | .dict _,_,_,h,_=>by simp only [Dat] at h
theorem Inv.readsAll (I:Inv X pins σ H s):∀(ds:List PyData) {vs:List V} {us:List Value},aM H vs ds->Vals vs us -> ∃as,ReadsAll s.heap us ds as
 | [],[],_,_,.nil=>⟨_,.nil⟩
 | d::ds,v::vs,_,h,.cons r rs=>by
   simp only [aM] at h;obtain ⟨as,ra⟩:=Inv.reads I d h.1 r;obtain ⟨bs,rb⟩:=Inv.readsAll I ds h.2 rs;exact ⟨_,.cons ra rb⟩
 | _::_,[],_,h,_=>by simp only [aM] at h
 | [],_::_,_,h,_=>by simp only [aM] at h
end
def Tg (neg:Bool):R2:=fun x y H Q=>∃d e,Dat H x d/\Dat H y e/\SeqAt.shaped d=true/\SeqAt.shaped e=true/\Q (.bl (if neg then !PyData.eqv d e else PyData.eqv d e)) H
theorem Xm (hu:X.A.units+64<cLine):oh X (compareOp .Eq) (Tg false):=by
 intro pins s σ H x y v u Q I rx ry h;obtain ⟨d,e,h1,h2,s1,s2,q⟩:=h;obtain ⟨as,ra⟩:=I.reads d h1 rx;obtain ⟨bs,rb⟩:=I.reads e h2 ry;exact SeqAt.compareEq_shaped ra rb s1 s2 hu ⟨.bl _,H,I,rfl,q⟩
theorem Xk (hu:X.A.units+64<cLine):oh X (compareOp .NotEq) (Tg true):=by
 intro pins s σ H x y v u Q I rx ry h;obtain ⟨d,e,h1,h2,s1,s2,q⟩:=h;obtain ⟨as,ra⟩:=I.reads d h1 rx;obtain ⟨bs,rb⟩:=I.reads e h2 ry;exact SeqAt.compareNe_shaped ra rb s1 s2 hu ⟨.bl _,H,I,rfl,q⟩
theorem Rg {c:Value} {cv:V} (rc:RelV cv c):iZ X (.builtin "isinstance") (fun xs H Q=>∃x t b,xs=[x,cv]/\oK X.K H x t/\PySem.W.kitOne X.K t c=some b/\Q (.bl b) H):=by
 intro pins s σ H xs us Q I r h;obtain ⟨x,t,b,rfl,ty,e,q⟩:=h;obtain ⟨u,w',rfl,r1,r2⟩:=vals2 r
 have:w'=c:=by
  cases cv with
  | non=>exact (show w'=Value.none from r2).trans (show c=Value.none from rc).symm
  | bl b=>exact (show w'=Value.bool b from r2).trans (show c=Value.bool b from rc).symm
  | ref a=>exact (show w'=Value.ref a from r2).trans (show c=Value.ref a from rc).symm
  | ty n=>exact (show w'=Value.type n from r2).trans (show c=Value.type n from rc).symm
  | int i=>obtain ⟨t1,rfl⟩:=(show ∃t,c=Value.int i t from rc);unfold PySem.W.kitOne at e;exact absurd e (by cases ty<;>simp [PySem.W.kitCls])
  | str i=>obtain ⟨t1,rfl⟩:=(show ∃t,c=Value.str i t from rc);unfold PySem.W.kitOne at e;exact absurd e (by cases ty<;>simp [PySem.W.kitCls])
  | Jd i=>obtain ⟨t1,rfl⟩:=(show ∃t,c=Value.bytes i t from rc);unfold PySem.W.kitOne at e;exact absurd e (by cases ty<;>simp [PySem.W.kitCls])
  | flt i=>obtain ⟨t1,rfl⟩:=(show ∃t,c=Value.float i t from rc);unfold PySem.W.kitOne at e;exact absurd e (by cases ty<;>simp [PySem.W.kitCls])
 subst this;exact Mf I r1 ty e fun tk=>⟨.bl b,H,I.tok _,rfl,q⟩
end
section
variable {prog:Program} {w:World} {A:Around}
theorem GJ (hh:A.handled=none) (it a:Addr) (hne:it≠a) (its:List Value):Walks prog w A it [it,a] [it] its.length (fun i v=>its[i]? = some v) (fun i h=>h.IsListIter it a i/\h.IsList a its.toArray) where
 sub:=by simp
 frame:=fun i h h' ⟨s1,o,ho,hc⟩ k=>⟨s1.at fun o e=>k it (by simp) o e,o,k a (by simp) o ho,hc⟩
 item:=fun i s Q E hi ⟨s1,s2⟩ hQ=>wpAny_pyNext_list_item s1 s2 (x:=its[i]) (by simp [hi]) fun h' st' sb=>
  hQ _ h' s.toks (by simp [hi]) ⟨st',s2.extBut sb.extBut hne.symm⟩ fun b o hb e=>(sb.2 b (by simpa using hb)).trans e
 done:=fun s Q E ⟨s1,s2⟩ hQ=>wpAny_pyNext_list_end hh s1 s2 (by simp) fun h' eb=>hQ h' s.toks fun b o hb e=>eb b o (by simpa using hb) e
 self:=fun i s Q E ⟨s1,_⟩ hQ=>wpAny_pyIter_listiter s1 hQ
end
section
variable {X:Cx}
theorem zT (bs:List Bool):(List.range bs.length).all (fun i=>(bs[i]?).getD false)=bs.all id:=by
 rw [Bool.eq_iff_iff,List.all_eq_true,List.all_eq_true];constructor
 ·intro h b hb
  obtain ⟨i,hi,rfl⟩:=List.getElem_of_mem hb;have:=h i (by simpa using hi);simpa [hi] using this
 ·intro h i hi
  have hi':i<bs.length:=by simpa using hi
  simpa [hi'] using h bs[i] (List.getElem_mem hi')
theorem GP {bs:List Bool}:∀{us:List Value},Vals (bs.map V.bl) us->us=bs.map Value.bool:=by
 induction bs with
 | nil=>intro us r;cases r;rfl
 | cons b bs ih=>
   intro us r;cases r with
   | cons r rs=>cases (show _=Value.bool b from r);rw [ih rs];rfl
theorem zj (hc:X.calm=true):iZ X (.builtin "all") (fun xs H Q=>∃(p:Addr) (bs:List Bool),xs=[.ref p]/\aV X.K H p (bs.map V.bl)/\Q (.bl (bs.all id)) H):=by
 intro pins s σ H xs us Q I r h;obtain ⟨p,bs,rfl,hq,q⟩:=h;obtain ⟨u,rfl,rx⟩:=vals1 r;cases rx;obtain ⟨its,rv,pl,hz⟩:=I.list hq;have e:=GP rv;have hlen:its.length=bs.length:=by rw [e,List.length_map]
 refine call_all_walk (wpAny_pyIter_list pl.isList ⟨s.heap.objs.size,[s.heap.objs.size,p],[s.heap.objs.size],its.length,_,_,fun i=>(bs[i]?).getD false,rfl,
  GJ (show X.A.in1.handled=none from I.ok.hd hc) s.heap.objs.size p ?_ its,⟨⟨_,Heap.get?_push_size _ rfl,rfl,rfl⟩, ?_⟩, ?_, ?_⟩)
 ·intro z
  obtain ⟨o,ho,_⟩:=pl.isList;have:=Heap.lt_size ho;rw [←z] at this;exact Nat.lt_irrefl _ this
 ·obtain ⟨o,ho,hcl⟩:=pl.isList
  exact ⟨o,Heap.get?_push_of_some _ ho,hcl⟩
 ·intro i v s1 Q1 E1 hP hQ
  rw [e,List.getElem?_map] at hP;cases r:bs[i]? with
  | none=>rw [r] at hP;cases hP
  | some b=>
    rw [r] at hP;cases hP;simp only [r,Option.getD_some] at hQ;exact wpAny_truthy_bool hQ
 ·intro h' tk k
  rw [hlen,zT];have f:=I.zZ (H':=H) (b:=s.heap.objs.size) (Nat.le_refl _) (I.hok.fresh (Nat.le_refl _));have I2:Inv X pins σ H {s with heap:=h',toks:=tk}:=I.turned (h':=h') (t':=tk) (it:=s.heap.objs.size) (fun b o hb e=>k b o (by simpa using hb) (Heap.get?_push_of_some _ e)) f.1 f.2.1 f.2.2.2.1 f.2.2.2.2.1 f.2.2.2.2.2;exact ⟨.bl _,H,I2,rfl,q⟩
end
end L2
set_option Elab.async false
set_option linter.all false
set_option maxRecDepth 100000
set_option maxHeartbeats 4000000
namespace L2
open PySem PySem.Spec PyProof.Rows
def FnAt (P:Program) (w:World) (K:PySem.W.Frag) (mg:Str->Option Value) (base:Heap) (k:Nat) (x:Str) (ps:List Str) (sp:Sp):Prop:=
 ∃f fd,cj P w K mg base gZ k f fd ps sp/\mg x=some (.ref f)/\PySem.W.keepIn K (.ref f)=true/\Binds K fd ps []
section
variable {X:Cx} {k j:Nat} {x:Str} {ps:List Str} {sp:Sp} {e:Expr} {es:List Expr} {t:TA} {p pos:Pos}
theorem bD (F:FnAt X.prog X.w X.K X.mg X.base k x ps sp) (hr:dH k X.A) (hg:Gl X x) (ha:PA X (e::es) t) (hd:(x==("__debug__" :Str))=false:=by decide)
 (he:starEach (e::es) X.env=(false,eval e X.env)::starEach es X.env:=by rfl) (hpl:(backTo pos (starEach es X.env)).any (·.1)=false:=by rfl):
 PE X (.Call (.Name x p) (e::es) [] pos) (VF sp [] E0 t):=by
 obtain ⟨f,fd,G,hm,hk,hb⟩:=F;exact TQ G hr hg hm hk hb .nil Ai ha (hdb:=hd) (he:=he) (hpl:=hpl)
end
theorem Rj:bootBuiltins "all" = some (.builtin "all"):=by kernel_rfl
theorem cB:bootBuiltins "len" = some (.builtin "len"):=by kernel_rfl
theorem Rh:bootBuiltins "max" = some (.builtin "max"):=by kernel_rfl
theorem qF:bootBuiltins "sorted" = some (.builtin "sorted"):=by kernel_rfl
theorem cC:bootBuiltins "isinstance" = some (.builtin "isinstance"):=by kernel_rfl
theorem Ri:bootBuiltins "int" = some (.type "int"):=by kernel_rfl
theorem Km:bootBuiltins "bool" = some (.type "bool"):=by kernel_rfl
theorem gn:bootBuiltins "list" = some (.type "list"):=by kernel_rfl
theorem zm:bootBuiltins "tuple" = some (.type "tuple"):=by kernel_rfl
theorem mF:bootBuiltins "str" = some (.type "str"):=by kernel_rfl
section
variable {X:Cx}
end
def Kp (r:Addr) (H H':Hp):Prop:=∀b o,H b=some o->b≠r->H' b=some o
theorem Kp.of_same {r:Addr} {H H':Hp} (h:Same H H'):Kp r H H':=fun b o e _=>h b o e
theorem Kp.trans {r:Addr} {H H1 H2:Hp} (a:Kp r H H1) (b:Kp r H1 H2):Kp r H H2:=fun c o h n=>b c o (a c o h n) n
theorem Kp.refl (r:Addr) (H:Hp):Kp r H H:=fun _ _ h _=>h
theorem Kp.set {r:Addr} {H:Hp} {o:HO}:Kp r H (upd H r o):=fun b u e n=>by rw [aO n];exact e
theorem aF {H:Hp} {p:Addr} {o:HO} (h:H p=none):Same H (upd H p o):=fun b u e=>by rw [aO (aB e h)];exact e
theorem Same.tups {H H':Hp} (e:Same H H'):∀a xs,H a=some (HO.tup xs)->H' a=some (HO.tup xs):=fun a xs h=>e _ _ h
theorem Same.sqL {K:PySem.W.Frag} {H H':Hp} (e:Same H H'):∀a xs,aV K H a xs->aV K H' a xs:=fun a xs h=>e.seq h
theorem Kp.tups {H H':Hp} {r:Addr} {ys:List V} (e:Kp r H H') (hr:H r=some (.lst ys)):∀a xs,H a=some (HO.tup xs)->H' a=some (HO.tup xs):=fun a xs h=>e _ _ h (jx h hr (by intro z;cases z))
end L2
namespace L2
open PySem PySem.Spec PyProof.Rows
section
variable {X:Cx} {K:PySem.W.Frag}
theorem aJ (h:X.K=K):Nz X (W2 K):=by subst h;exact J0
theorem bL (h:X.K=K):Nz X (BW K):=by subst h;exact Qy
theorem JZ (h:X.K=K):Nz X (rIx K):=by subst h;exact Yl
theorem kZ (h:X.K=K):SlR X (Z8 K):=by subst h;exact SQ
theorem JB (h:X.K=K):SlR X (Z7 K):=by subst h;exact Wz
theorem HB (h:X.K=K):oh X (compareOp .In) (rIn K false):=by subst h;exact K_
def aad (K:PySem.W.Frag):List V->Hp->VK->Prop:=fun xs H Q=>∃(p:Addr) (ys:List V),xs=[.ref p]/\(aV K H p ys\/fY K H p ys)/\Q (.int ys.length) H
theorem aP (h:X.K=K):iZ X (.builtin "len") (aad K):=by subst h;exact CT
def Te (K:PySem.W.Frag):List V->Hp->VK->Prop:=fun xs H Q=>∃(p:Addr) (ys:List V),xs=[.ref p]/\(aV K H p ys\/fY K H p ys) /\ ∀l,H l=none->Q (.ref l) (upd H l (.lst ys))
theorem cO (h:X.K=K):iZ X (.type "list") (Te K):=by subst h;exact CQ
def aag (K:PySem.W.Frag):List V->Hp->VK->Prop:=fun xs H Q=>∃(p:Addr) (bs:List Bool),xs=[.ref p]/\aV K H p (bs.map V.bl)/\Q (.bl (bs.all id)) H
theorem oG (h:X.K=K) (hc:X.calm=true):iZ X (.builtin "all") (aag K):=by subst h;exact zj hc
theorem B_ (h:X.K=K) (hu:X.A.units+64<cLine):oh X (compareOp .Eq) (Tg false):=by subst h;exact Xm hu
theorem TY (h:X.K=K) (hu:X.A.units+64<cLine):oh X (compareOp .NotEq) (Tg true):=by subst h;exact Xk hu
theorem cJ {tg l:Expr} {tl:TE} (h:X.K=K) (hl:PE X l tl):PI X tg l (V6 K tl):=by subst h;exact Tt hl
theorem Tr {tg l:Expr} {tl:TE} (h:X.K=K) (hl:PE X l tl):PI X tg l (aaG K tl):=by subst h;exact Xb hl
def aeP (K:PySem.W.Frag) (c:Value) (cv:V):List V->Hp->VK->Prop:=fun xs H Q=>∃x t b,xs=[x,cv]/\oK K H x t/\PySem.W.kitOne K t c=some b/\Q (.bl b) H
theorem fX {c:Value} {cv:V} (h:X.K=K) (rc:RelV cv c):iZ X (.builtin "isinstance") (aeP K c cv):=by subst h;exact Rg rc
theorem dz {o e:Expr} {to:TE} {t:TA} {apos cpos:Pos} (h:X.K=K) (ho:PE X o to) (ha:PA X [e] t)
 (hbase:attributeBase o "append" X.env (eval o X.env)=eval o X.env:=by rfl)
 (hfew:((backTo cpos (starEach [e] X.env)).all (fun x=> !x.1)&&(backToKw cpos (keywordEach [] X.env)).all (fun x=>x.1.isSome)
   && decide (([e]:List Expr).length+([]:List Keyword).length+(if ([]:List Keyword).isEmpty then 0 else 1)<30))=true:=by rfl)
 (hline:(apos.endLine==cpos.line)=true:=by rfl) (hs:starEach [e] X.env=(false,eval e X.env)::starEach [] X.env:=by rfl) (hplain:(backTo cpos (starEach [] X.env)).any (·.1)=false:=by rfl):
 PE X (.Call (.Attribute o "append" apos) [e] [] cpos) (tBM K "list" JF to t):=by
 subst h;exact VN PySem.F.plainAttrs_list PySem.F.slot_list_append PySem.F.type_list_append uV ho ha hbase hfew hline hs hplain
end
end L2
namespace L2
open PySem
section
variable {K:PySem.W.Frag} {a D:Addr} {xs:List V} {g:TG} {tc:TT} {te:TE} {Q:VK} {σ0:St} {H1:Hp}
theorem mY (Pv:Nat->St->Hp->Prop) (h0:Pv 0 σ0 (upd H1 D (.lst []))) (hl:∀i σ H,i<=xs.length->Pv i σ H->aV K H a xs)
 (hs:∀i x σ H,xs[i]? = some x->Pv i σ H->g x σ H fun σ2 H2=>tc σ2 H2 fun b H3=>
   if b=true then te σ2 H3 fun y H4=>∃acc,H4 D=some (.lst acc)/\acc.length<sizeLine/\Pv (i+1) σ2 (upd H4 D (.lst (acc++[y]))) else Pv (i+1) σ2 H3)
 (hd:∀σ H,Pv xs.length σ H->Q (.ref D) H):oH (Wk K a) g tc te Q D σ0 H1:=by
 refine ⟨fun i m σ H=>m=xs.length - i/\i<=xs.length/\Pv i σ H,⟨xs.length,by simp,Nat.zero_le _,h0⟩, ?_⟩;rintro i m σ H ⟨rfl,hi,p⟩;have q:=hl i σ H hi p
 by_cases hlt:i<xs.length
 ·refine .inr ⟨⟨xs,xs[i],q,by simp [hlt]⟩,Pv (i+1),fun σ' H' p'=>⟨xs.length - (i+1),by omega,rfl,hlt,p'⟩,fun x H' y=> ?_⟩
  obtain ⟨e,y⟩:=y;subst e;exact hs i x σ _ (y xs q) p
 ·have e:i=xs.length:=by omega
  subst e;exact .inl ⟨⟨xs,q,Nat.le_refl _⟩,hd σ H p⟩
theorem Q9 (Pv:Nat->St->Hp->Prop) (h0:Pv 0 σ0 (upd H1 D (.lst []))) (hl:∀i σ H,i<=xs.length->Pv i σ H->fY K H a xs)
 (hs:∀i x σ H,xs[i]? = some x->Pv i σ H->g x σ H fun σ2 H2=>tc σ2 H2 fun b H3=>
   if b=true then te σ2 H3 fun y H4=>∃acc,H4 D=some (.lst acc)/\acc.length<sizeLine/\Pv (i+1) σ2 (upd H4 D (.lst (acc++[y]))) else Pv (i+1) σ2 H3)
 (hd:∀σ H,Pv xs.length σ H->Q (.ref D) H):oH (Itt K a) g tc te Q D σ0 H1:=by
 refine ⟨fun i m σ H=>m=xs.length - i/\i<=xs.length/\Pv i σ H,⟨xs.length,by simp,Nat.zero_le _,h0⟩, ?_⟩;rintro i m σ H ⟨rfl,hi,p⟩;have q:=hl i σ H hi p
 by_cases hlt:i<xs.length
 ·refine .inr ⟨⟨xs,xs[i],q,by simp [hlt]⟩,Pv (i+1),fun σ' H' p'=>⟨xs.length - (i+1),by omega,rfl,hlt,p'⟩,fun x H' y=> ?_⟩
  obtain ⟨e,y⟩:=y;subst e;exact hs i x σ _ (y xs q) p
 ·have e:i=xs.length:=by omega
  subst e;exact .inl ⟨⟨xs,q,Nat.le_refl _⟩,hd σ H p⟩
theorem rO {lo:Int} {n:Nat} (Pv:Nat->St->Hp->Prop) (h0:Pv 0 σ0 (upd H1 D (.lst [])))
 (hs:∀i σ H,i<n->Pv i σ H->g (.int (lo+i)) σ H fun σ2 H2=>tc σ2 H2 fun b H3=>
   if b=true then te σ2 H3 fun y H4=>∃acc,H4 D=some (.lst acc)/\acc.length<sizeLine/\Pv (i+1) σ2 (upd H4 D (.lst (acc++[y]))) else Pv (i+1) σ2 H3)
 (hd:∀σ H,Pv n σ H->Q (.ref D) H):oH (Wj lo n) g tc te Q D σ0 H1:=by
 refine ⟨fun i m σ H=>m=n - i/\i<=n/\Pv i σ H,⟨n,by simp,Nat.zero_le _,h0⟩, ?_⟩;rintro i m σ H ⟨rfl,hi,p⟩
 by_cases hlt:i<n
 ·refine .inr ⟨hlt,Pv (i+1),fun σ' H' p'=>⟨n - (i+1),by omega,rfl,hlt,p'⟩,fun x H' y=> ?_⟩
  obtain ⟨e,y⟩:=y;subst e y;exact hs i σ _ hlt p
 ·have e:i=n:=by omega
  subst e;exact .inl ⟨Nat.le_refl _,hd σ H p⟩
end
end L2
set_option Elab.async false
set_option linter.all false
set_option maxRecDepth 100000
set_option maxHeartbeats 4000000
namespace L2
open PySem PySem.Spec PyProof.Rows
section
variable {α:Type} (f:α->PyData)
theorem zf:∀(l:List α),(∀x∈l,(f x).canLay0=true)->PyData.canLayAll0 (l.map f)=true
 | [],_=>rfl
 | a::l,h=>by
   show (PyData.canLay0 (f a)&&PyData.canLayAll0 (l.map f))=true;rw [h a List.mem_cons_self,zf l fun x hx=>h x (List.mem_cons_of_mem _ hx)];rfl
theorem kh (k:Nat):∀(l:List α),(∀x∈l,(f x).depth<=k)->PyData.depthAll (l.map f)<=k
 | [],_=>Nat.zero_le _
 | a::l,h=>by
   show max (PyData.depth (f a)) (PyData.depthAll (l.map f))<=k;exact Nat.max_le.mpr ⟨h a List.mem_cons_self,kh k l fun x hx=>h x (List.mem_cons_of_mem _ hx)⟩
theorem vH {l:List α} (k:Nat) (hk:k<64) (h1:∀x∈l,(f x).canLay0=true) (h2:∀x∈l,(f x).depth<=k):SeqAt.shaped (.list (l.map f))=true:=by
 unfold SeqAt.shaped;have e1:PyData.canLay0 (.list (l.map f))=true:=zf f l h1
 have e2:PyData.depth (.list (l.map f))<=64:=by
  show PyData.depthAll (l.map f)+1<=64;have:=kh f k l h2;omega
 rw [e1,decide_eq_true e2];rfl
theorem yQ [DecidableEq α] (h:∀x y,PyData.eqv (f x) (f y)=decide (x=y)):∀(l m:List α),PyData.eqvAll (l.map f) (m.map f)=decide (l=m)
 | [],[]=>rfl
 | [],_::_=>by simp only [List.map_nil,List.map_cons,PyData.eqvAll];exact (decide_eq_false (by intro z;cases z)).symm
 | _::_,[]=>by simp only [List.map_nil,List.map_cons,PyData.eqvAll];exact (decide_eq_false (by intro z;cases z)).symm
 | a::l,b::m=>by
   simp only [List.map_cons,PyData.eqvAll];rw [h a b,yQ h l m]
   by_cases e1:a=b
   ·subst e1
    by_cases e2:l=m
    ·subst e2;simp
    ·simp [e2]
   ·simp [e1]
theorem pW [DecidableEq α] (h:∀x y,PyData.eqv (f x) (f y)=decide (x=y)) (l m:List α):PyData.eqv (.list (l.map f)) (.list (m.map f))=decide (l=m):=by
 simp only [PyData.eqv];exact yQ f h l m
end
theorem jC {H:Hp} {a:Addr} {vs:List V} {ds:List PyData} (h:H a=some (.lst vs)) (d:aM H vs ds):Dat H (.ref a) (.list ds):=by
 simp only [Dat];exact ⟨a,vs,rfl,h,d⟩
theorem vM (K:PySem.W.Frag):PySem.W.kitOne K (.type "int") (.type "int")=some true:=rfl
theorem tV (K:PySem.W.Frag):PySem.W.kitOne K (.type "int") (.type "bool")=some false:=by kernel_rfl
theorem mz (K:PySem.W.Frag):PySem.W.kitOne K (.type "list") (.type "list")=some true:=rfl
theorem oE (K:PySem.W.Frag):PySem.W.kitOne K (.type "tuple") (.type "tuple")=some true:=rfl
end L2
namespace L2
open PySem
theorem pX (xs:List V) (k:Nat):mX xs none (some (k:Int))=xs.take k:=by
 unfold mX;rw [HT.DW,HT.JC,List.drop_zero,Nat.sub_zero]
 by_cases h:k<=xs.length
 ·rw [Nat.min_eq_left h]
 ·rw [Nat.min_eq_right (by omega),List.take_of_length_le (Nat.le_refl _),List.take_of_length_le (by omega)]
theorem Ga (xs:List V) (k:Nat):mX xs (some (k:Int)) none=xs.drop k:=by
 unfold mX;rw [HT.DW,HT.JC]
 by_cases h:k<=xs.length
 ·rw [Nat.min_eq_left h,List.take_of_length_le (by rw [List.length_drop];exact Nat.le_refl _)]
 ·rw [Nat.min_eq_right (by omega),Nat.sub_self,List.take_zero,List.drop_of_length_le (by omega)]
end L2
set_option Elab.async false
set_option linter.all false
set_option maxRecDepth 100000
set_option maxHeartbeats 4000000
namespace PySem.W
open PySem PySem.Spec PySem.Calls PyProof.Rows
section
variable {prog:Program} {w:World} {A:Around} {E:Value->Shared->Prop} {s:Shared} {K:Frag} {x D:Addr} {ox:Obj} {odo:Option Obj} {name:Str}
end
end PySem.W
set_option Elab.async false
set_option linter.all false
set_option maxRecDepth 100000
set_option maxHeartbeats 4000000
namespace L2
open PySem PySem.Spec PyProof.Rows
section
variable {M:Model} {A:Around} {E:Value->Shared->Prop} {s:Shared} {base:Heap} {env:Env} {outer:List Env} {L e:Addr}
end
section
variable {X:Cx} {pins:List (Addr×Obj)} {σ:St} {H:Hp} {s:Shared} {e:Addr}
end
end L2
set_option Elab.async false
set_option linter.all false
set_option maxRecDepth 100000
set_option maxHeartbeats 4000000
namespace L2
open PySem PySem.Spec PyProof.Rows
section
variable {X:Cx} {k:Nat} {x:Str} {ps:List Str} {sp:Sp} {e:Expr} {es:List Expr} {t:TA} {p pos:Pos} {E:St->XK}
end
section
variable {P:Program} {w:World} {K:PySem.W.Frag} {mg:Str->Option Value} {base:Heap}
end
section
variable {X:Cx} {E:St->XK} {x:Str} {C:Addr} {B newId initId:String} {bmB:List Value} {e0:Expr} {rest:List Expr} {ta:TA} {np cpos pos:Pos}
end
section
variable {X:Cx} {pins:List (Addr×Obj)} {σ:St} {H:Hp} {s:Shared}
end
section
variable {M:Model} {A:Around} {Er:Value->Shared->Prop} {s:Shared} {K:PySem.W.Frag} {e C D:Addr}
end
end L2
set_option Elab.async false
set_option linter.all false
set_option maxRecDepth 100000
set_option maxHeartbeats 4000000
namespace L2
open PySem PySem.Spec PyProof.Rows
section
variable {X:Cx} {pins:List (Addr×Obj)} {σ:St} {H:Hp} {s:Shared}
end
section
variable {X:Cx} {body suite:List Stmt} {b0:Stmt} {n cn:Str} {i:Nat} {Dc:Addr} {tb:(St->XK)->TS} {th:TS} {cp hpos pos:Pos}
end
section
variable {X:Cx} {K:PySem.W.Frag}
end
end L2
set_option Elab.async false
set_option linter.all false
set_option maxRecDepth 100000
set_option maxHeartbeats 4000000
namespace L2
open PySem PySem.Spec PyProof.Rows
section
variable {X:Cx} {K:PySem.W.Frag}
end
end L2
namespace L2
open PySem
end L2
set_option Elab.async false
set_option linter.all false
set_option maxRecDepth 100000
set_option maxHeartbeats 4000000
namespace L2
open PySem PySem.Spec PyProof.Rows
section
variable {X:Cx} {pins:List (Addr×Obj)} {σ:St} {H:Hp} {s:Shared} {h':Heap}
theorem Inv.Jr {t':Nat} {fp:List Addr} (I:Inv X pins σ H s) (hf:∀b∈fp,ou X pins H b) (k:∀b o,b∉fp->s.heap.get? b=some o->h'.get? b=some o):Inv X pins σ H {s with heap:=h',toks:=t'}:=by
 have Xz:∀b u,H b=some u->b∉fp:=fun b u e z=>by rw [(hf b z).1] at e;cases e
 refine I.step (g':=s.gens) (d':=s.drawn) (ch:=fp) (fun b hb=> ?_) (fun b o _ _ hc e _=>k b o hc e) (fun b o _ _ hc e _=>⟨o.slots,k b o hc e⟩) (fun _ _ _ _ n=>n)
  (fun b o hc e=>⟨o,k b o hc e⟩) (fun _ _ e=>e) (fun _ _ _ e=>e) (fun b ps e=>⟨#[],by rw [e];simp⟩) (fun m hm=> ?_) (fun b u e=> ?_) I.bare
 ·obtain ⟨f0,f1,f2,f3,f4,f5⟩:=hf b hb
  exact ⟨f3,f1,f4,f5⟩
 ·obtain ⟨o,es,ep,ho,r⟩:=hm
  exact ⟨o,es,ep,k _ o (fun z=>(hf _ z).2.1 rfl) ho,r⟩
 ·refine (I.hok b u e).stay (fun c v hc q=>k c v ?_ q) (fun _ q=>q) fun _ _ q=>q
  rcases hc with z|z
  ·rw [z];exact Xz b u e
  ·exact Xz c _ z
theorem ou.upd {b p:Addr} {o:HO} (h:ou X pins H b) (n:b≠p):ou X pins (upd H p o) b:=by
 obtain ⟨f0,r⟩:=h;exact ⟨by rw [aO n];exact f0,r⟩
theorem QS {h:Heap} {o u:Obj} {b:Addr} (ho:o.isFreed=false) (e:(h.push o).get? b=some u):(b=h.objs.size/\u=o)\/h.get? b=some u:=by
 by_cases hb:b=h.objs.size
 ·subst hb
  rw [Heap.get?_push_size _ ho] at e;exact .inl ⟨rfl,(Option.some.inj e).symm⟩
 ·refine .inr ?_
  have lt:=Heap.lt_size e
  have lt2:b<h.objs.size:=by
   have:(h.push o).objs.size=h.objs.size+1:=by simp [Heap.push]
   rw [this] at lt;exact Nat.lt_of_le_of_ne (Nat.le_of_lt_succ lt) hb
  have:(h.push o).get? b=h.get? b:=by
   simp only [Heap.get?,Heap.push];rw [Array.getElem?_push_lt lt2,Array.getElem?_eq_getElem lt2]
  rw [←this];exact e
end
section
variable {X:Cx}
end
def Itz (K:PySem.W.Frag) (l1 l2:Addr):It:=
 ⟨fun i H=>∃xs ys x y,aV K H l1 xs/\aV K H l2 ys/\xs[i]? = some x/\ys[i]? = some y,
  fun i H x H'=>∃(p:Addr) (y z:V),x = .ref p/\H p=none/\(∀xs,aV K H l1 xs->xs[i]? = some y)/\(∀ys,aV K H l2 ys->ys[i]? = some z)/\H'=upd H p (.tup [y,z]),
  fun i H=>∃xs ys,aV K H l1 xs/\aV K H l2 ys/\(xs.length<=i\/ys.length<=i)⟩
theorem Oh {P:Program} {w:World} {K:PySem.W.Frag} {elts:List Expr} {x1:Nat} {pos:Pos} (z TI TO i1 i2 l1 l2:Addr) (ap:ZipApart z TI TO i1 i2 l1 l2):Turn P w K (.Tuple elts x1 pos) (Itz K l1 l2) [z,TI,TO,i1,i2] z
 (fun i h=>IsZip h z TI TO .none/\IsPair h TI (.ref i1) (.ref i2)/\(∃a b,IsPair h TO a b)/\h.IsListIter i1 l1 i/\h.IsListIter i2 l2 i) where
 mem:=by simp
 obj:=fun i h st b hb=>by
  obtain ⟨hz,hTI,⟨a,c,hTO⟩,⟨o1,h1,c1,d1⟩,⟨o2,h2,c2,d2⟩⟩:=st;have hb':b=z\/b=TI\/b=TO\/b=i1\/b=i2:=by simpa using hb
  rcases hb' with rfl|rfl|rfl|rfl|rfl
  ·exact ⟨_,hz,fun v z=>by cases z⟩
  ·exact ⟨_,hTI,fun v z=>by cases z⟩
  ·exact ⟨_,hTO,fun v z=>by cases z⟩
  ·exact ⟨_,h1,fun v z=>by rw [d1] at z;cases z⟩
  ·exact ⟨_,h2,fun v z=>by rw [d2] at z;cases z⟩
 keep:=fun i h h' st k=>by
  obtain ⟨hz,hTI,⟨a,c,hTO⟩,⟨o1,h1,c1,d1⟩,⟨o2,h2,c2,d2⟩⟩:=st;exact ⟨k z (by simp) _ hz,k TI (by simp) _ hTI,⟨a,c,k TO (by simp) _ hTO⟩,⟨o1,k i1 (by simp) _ h1,c1,d1⟩,⟨o2,k i2 (by simp) _ h2,c2,d2⟩⟩
 item:=by
  intro X hP hw hK hc i pins s σ H E I hf st hg;subst hP hw hK;obtain ⟨xs,ys,x,y,hq1,hq2,hx,hy⟩:=hg;obtain ⟨aaD,rv1,p1,hz1⟩:=I.list hq1;obtain ⟨its2,rv2,p2,hz2⟩:=I.list hq2;obtain ⟨u1,hu1,ru1⟩:=rv1.get hx;obtain ⟨u2,hu2,ru2⟩:=rv2.get hy;obtain ⟨hz,hTI,⟨a,c,hTO⟩,hi1,hi2⟩:=st;have ZC:=Heap.lt_size hz;have ak3:=Heap.lt_size hTI;have ak2:=Heap.lt_size hTO;have aia:i1<s.heap.objs.size:=by obtain ⟨o,ho,_⟩:=id hi1;exact Heap.lt_size ho
  have ah':i2<s.heap.objs.size:=by obtain ⟨o,ho,_⟩:=id hi2;exact Heap.lt_size ho
  refine wpAny_pyNext_zip_item ap hz hTI hTO hi1 hi2 p1.isList p2.isList (x:=u1) (y:=u2) (by simpa using hu1) (by simpa using hu2) fun h' hz' aiq ain hi2' hnew hsz hk=> ?_;refine ⟨_,rfl, ?_⟩;refine wpAny_letOwnedTupleGo_zip hz' fun h2 aib sb=> ?_;have hfr:H s.heap.objs.size=none:=I.hok.fresh (Nat.le_refl _)
  have I0:Inv X pins σ (upd H s.heap.objs.size (.tup [x,y])) {s with heap:=s.heap.push {cls:= .type "tuple",data:= .seq #[u1,u2]}}:=
   I.laid (t':=s.toks) (fun b u e=>Heap.get?_push_of_some _ e) (Nat.le_refl _) ⟨by show 2<=sizeLine;decide,[u1,u2],.cons ru1 (.cons ru2 .nil),⟨_,Heap.get?_push_size _ rfl,rfl,_,rfl⟩⟩
  have Yv:∀b∈[z,TI,TO,i1,i2],ou X pins (upd H s.heap.objs.size (.tup [x,y])) b:=fun b hb=>by
   refine (hf b hb).upd ?_;have hb':b=z\/b=TI\/b=TO\/b=i1\/b=i2:=by simpa using hb
   rcases hb' with rfl|rfl|rfl|rfl|rfl
   ·exact Nat.ne_of_lt ZC
   ·exact Nat.ne_of_lt ak3
   ·exact Nat.ne_of_lt ak2
   ·exact Nat.ne_of_lt aia
   ·exact Nat.ne_of_lt ah'
  have I1:=I0.Jr (h':=h2) (t':=s.toks) Yv (fun b o hb eb=>by
   have b1:b≠z:=fun e=>hb (by simp [e]);have b2:b≠TO:=fun e=>hb (by simp [e]);have b3:b≠i1:=fun e=>hb (by simp [e]);have b4:b≠i2:=fun e=>hb (by simp [e]);rw [sb.2 b b1];rcases QS rfl eb with ⟨rfl,rfl⟩|eb
   ·exact hnew
   ·exact hk b o b1 b2 b3 b4 eb)
  refine ⟨.ref s.heap.objs.size,_,I1,rfl,⟨s.heap.objs.size,x,y,rfl,hfr,fun ys hy=>by rw [I.yF hy hq1];exact hx,fun ys' hy'=>by rw [I.yF hy' hq2];exact hy,rfl⟩, ?_,fun b hb=>(Yv b hb).1⟩;obtain ⟨o1,ho1,c1,d1⟩:=ain;obtain ⟨o2,ho2,c2,d2⟩:=hi2';exact ⟨aib,(sb.2 TI ap.TIz).trans (hk TI _ ap.TIz ap.TITO ap.TIi1 ap.TIi2 hTI),⟨_,_,(sb.2 TO ap.TOz).trans aiq⟩,⟨o1,(sb.2 i1 ap.i1z).trans ho1,c1,d1⟩,⟨o2,(sb.2 i2 ap.i2z).trans ho2,c2,d2⟩⟩
 done:=by
  intro X hP hw hK hc i pins s σ H E I hf st hg;subst hP hw hK;obtain ⟨xs,ys,hq1,hq2,hx⟩:=hg;obtain ⟨aaD,rv1,p1,hz1⟩:=I.list hq1;obtain ⟨its2,rv2,p2,hz2⟩:=I.list hq2;obtain ⟨hz,hTI,⟨a,c,hTO⟩,hi1,hi2⟩:=st;have hl1:=rv1.length;have hl2:=rv2.length;refine wpAny_pyNext_zip_end (I.ok.hd hc) ap hz hTI hTO hi1 hi2 p1.isList p2.isList ?_ fun h' eb=>⟨rfl,I.Jr (t':=s.toks) hf (fun b o hb e=>eb b o (fun z=>hb (by simp [z])) (fun z=>hb (by simp [z])) (fun z=>hb (by simp [z])) (fun z=>hb (by simp [z])) e)⟩;rcases hx with hx|hx
  ·exact .inl (by simp;omega)
  ·exact .inr (by simp;omega)
 self:=fun _ _ _ _ _ st h=>wpAny_pyIter_zip st.1 h
section
variable {X:Cx}
def ah9 (K:PySem.W.Frag) (ta:TA):TI:=fun σ H R=>ta σ H fun vs H1=>∃l1 l2 xs ys,vs=[.ref l1,.ref l2]/\aV K H1 l1 xs/\aV K H1 l2 ys/\R (Itz K l1 l2) H1
theorem Tq {K:PySem.W.Frag} {a b:Expr} {ta:TA} {p pos:Pos} {elts:List Expr} {x1:Nat} {tpos:Pos} (hK:X.K=K) (hg:Gl X "zip") (hm:X.mg "zip" = none) (ha:PA X [a,b] ta) (hs:starEach [a,b] X.env=[(false,eval a X.env),(false,eval b X.env)]:=by rfl) (hs2:starEach [b] X.env=[(false,eval b X.env)]:=by rfl):PI X (.Tuple elts x1 tpos) (.Call (.Name "zip" p) [a,b] [] pos) (ah9 K ta):=by
 subst hK;intro pins s σ H R I h;refine Call_ (uY I hg hm boot_zip (PyProof.Rows.callWith_type1 (dj (ha pos pins s σ H _ I h) fun us s1 ⟨vs,H1,I1,r1,q1⟩=> ?_) (by rw [hs,hs2]) (by rw [hs2];rfl)));obtain ⟨l1,l2,xs,ys,e,hq1,hq2,q⟩:=q1;subst e;cases r1 with
 | cons r rr=>
   cases rr with
   | cons r' rr=>
     cases rr;cases r;cases r';obtain ⟨aaD,rv1,tH,hz1⟩:=I1.list hq1;obtain ⟨its2,rv2,yh,hz2⟩:=I1.list hq2;have lt1:l1<s1.heap.objs.size:=by obtain ⟨o,ho,_⟩:=tH.isList;exact Heap.lt_size ho
     have lt2:l2<s1.heap.objs.size:=by obtain ⟨o,ho,_⟩:=yh.isList;exact Heap.lt_size ho
     refine call_zip_2 tH.isList yh.isList fun h' hZ hTI hTO hi1 hi2 hsz hk=> ?_;refine wpAny_pyIter_zip hZ ?_;have I2:Inv X pins σ H1 {s1 with heap:=h'}:=I1.kept (t':=s1.toks) hk;refine ⟨s1.heap.objs.size+4,[s1.heap.objs.size+4,s1.heap.objs.size+2,s1.heap.objs.size+3,s1.heap.objs.size,s1.heap.objs.size+1],_,_,H1,rfl,I2,Oh _ _ _ _ _ l1 l2 (zipApart_new lt1 lt2),⟨hZ,hTI,⟨_,_,hTO⟩,hi1,hi2⟩,fun b hb=> ?_,q⟩
     have hb':s1.heap.objs.size<=b:=by
      have:b=s1.heap.objs.size+4\/b=s1.heap.objs.size+2\/b=s1.heap.objs.size+3\/b=s1.heap.objs.size\/b=s1.heap.objs.size+1:=by simpa using hb
      rcases this with rfl|rfl|rfl|rfl|rfl
      ·exact Nat.le_add_right _ _
      ·exact Nat.le_add_right _ _
      ·exact Nat.le_add_right _ _
      ·exact Nat.le_refl _
      ·exact Nat.le_add_right _ _
     exact I1.zZ hb' (I1.hok.fresh hb')
end
end L2
set_option Elab.async false
set_option linter.all false
set_option maxRecDepth 100000
set_option maxHeartbeats 4000000
namespace L2
open PySem PySem.Spec PyProof.Rows
section
variable {K:PySem.W.Frag} {a l1 l2 D:Addr} {xs ys:List V} {g:TG} {tc:TT} {te:TE} {Q:VK} {σ0:St} {H1:Hp}
theorem Q8 {n:Nat} (hn1:xs.length=n) (hn2:ys.length=n) (Pv:Nat->St->Hp->Prop) (h0:Pv 0 σ0 (upd H1 D (.lst []))) (hl:∀i σ H,i<=n->Pv i σ H->aV K H l1 xs/\aV K H l2 ys)
 (hs:∀i x y σ H p,xs[i]? = some x->ys[i]? = some y->Pv i σ H->H p=none->g (.ref p) σ (upd H p (.tup [x,y])) fun σ2 H2=>tc σ2 H2 fun b H3=>
   if b=true then te σ2 H3 fun y H4=>∃acc,H4 D=some (.lst acc)/\acc.length<sizeLine/\Pv (i+1) σ2 (upd H4 D (.lst (acc++[y]))) else Pv (i+1) σ2 H3)
 (hd:∀σ H,Pv n σ H->Q (.ref D) H):oH (Itz K l1 l2) g tc te Q D σ0 H1:=by
 refine ⟨fun i m σ H=>m=n - i/\i<=n/\Pv i σ H,⟨n,by simp,Nat.zero_le _,h0⟩, ?_⟩;rintro i m σ H ⟨rfl,hi,p⟩;obtain ⟨q1,q2⟩:=hl i σ H hi p
 by_cases hlt:i<n
 ·refine .inr ⟨⟨xs,ys,xs[i],ys[i],q1,q2,by simp [hn1,hlt],by simp [hn2,hlt]⟩,Pv (i+1),fun σ' H' p'=>⟨n - (i+1),by omega,rfl,hlt,p'⟩,fun x H' y=> ?_⟩
  obtain ⟨t,z,u,rfl,ht,hz,hu,rfl⟩:=y;exact hs i z u σ _ t (hz xs q1) (hu ys q2) p ht
 ·have e:i=n:=by omega
  subst e;exact .inl ⟨⟨xs,ys,q1,q2,.inl (by omega)⟩,hd σ H p⟩
end
section
variable {K:PySem.W.Frag} {a l1 l2:Addr} {xs ys:List V} {g:TG} {tb:TS} {D:Ends} {σ:St} {H:Hp}
end
section
variable {X:Cx}
theorem mj {K:PySem.W.Frag} {T name id:String} {r:V->List V->Hp->VK->Prop} {o e:Expr} {es:List Expr} {to:TE} {t:TA} {apos cpos:Pos} (h:X.K=K) (pa:PlainAttrs T) (slot:Slot T name id) (hty:typeOf (.builtin id)=pure (.type "method_descriptor")) (hm:MtR X id r) (ho:PE X o to) (ha:PA X (e::es) t)
 (hbase:attributeBase o name X.env (eval o X.env)=eval o X.env:=by rfl)
 (hfew:((backTo cpos (starEach (e::es) X.env)).all (fun x=> !x.1)&&(backToKw cpos (keywordEach [] X.env)).all (fun x=>x.1.isSome)
   && decide ((e::es).length+([]:List Keyword).length+(if ([]:List Keyword).isEmpty then 0 else 1)<30))=true:=by rfl)
 (hline:(apos.endLine==cpos.line)=true:=by rfl) (hs:starEach (e::es) X.env=(false,eval e X.env)::starEach es X.env:=by rfl) (hplain:(backTo cpos (starEach es X.env)).any (·.1)=false:=by rfl):
 PE X (.Call (.Attribute o name apos) (e::es) [] cpos) (tBM K T r to t):=by
 subst h;exact VN pa slot hty hm ho ha hbase hfew hline hs hplain
theorem tM {K:PySem.W.Frag} {es:List Expr} {k:Nat} {t:Wi} {n:Nat} {pos:Pos} (hK:X.K=K) (hc:X.calm=true) (h:PGs X es t)
 (hn:(assignEach es X.env).length=n:=by rfl) (hst:(assignEach es X.env).findIdx? (·.1)=none:=by rfl):PG X (.Tuple es k pos) (Yx K n t):=by subst hK;exact Xd hc h hn hst
end
end L2
set_option Elab.async false
set_option linter.all false
set_option maxRecDepth 100000
set_option maxHeartbeats 4000000
namespace L2
open PySem
section
variable {K:PySem.W.Frag} {a D:Addr} {xs:List V} {tc:TT} {te:TE} {Q:VK} {rest:St} {H1:Hp}
theorem gk {α:Type} (f:Nat->Option α) (n:Nat):(List.range (n+1)).filterMap f=(List.range n).filterMap f++(f n).toList:=by
 rw [List.range_succ,List.filterMap_append];cases h:f n<;>simp [h]
theorem vd {α:Type} (f:Nat->Option α) (n:Nat):((List.range n).filterMap f).length<=n:=by
 have:=List.length_filterMap_le f (List.range n);simpa using this
theorem Same.newly {H H1:Hp} {D:Addr} {o:HO} (h:Same H H1) (n:H D=none):Same H (upd H1 D o):=fun b u e=>by rw [aO (aB e n)];exact h b u e
theorem jD (f:Nat->Option V) (hD:H1 D=none) (hq:aV K H1 a xs) (hx:xs.length<=100000)
 (hs:∀i x H (G:Hp->Prop) (F:VK),xs[i]? = some x->Same H1 H->(∀H',Same H H'->f i=none->G H')->(∀y H',Same H H'->f i=some y->F y H')->tc (some x::rest) H fun b H3=>if b=true then te (some x::rest) H3 F else G H3)
 (hd:∀H,Same H1 H->H D=some (.lst ((List.range xs.length).filterMap f))->Q (.ref D) H):oH (Wk K a) (jz 0) tc te Q D (none::rest) H1:=by
 refine mY (K:=K) (xs:=xs) (fun i σ H=>(∃v,σ=v::rest)/\Same H1 H/\H D=some (.lst ((List.range i).filterMap f))) ⟨⟨none,rfl⟩,aF hD,aq⟩ (fun i σ H _ ⟨_,sm,_⟩=>sm.sqL _ _ hq) ?_ (fun σ H ⟨_,sm,e⟩=>hd H sm e);rintro i x σ H hi ⟨⟨v,rfl⟩,sm,e⟩;have hil:i<xs.length:=(List.getElem?_eq_some_iff.mp hi).1;refine hs i x H _ _ hi sm (fun H3 s3 ef=>⟨⟨_,rfl⟩,sm.trans s3,by rw [s3 _ _ e,gk,ef];simp⟩) (fun y H4 s4 ef=> ?_);refine ⟨_,s4 _ _ e, ?_,⟨_,rfl⟩,(sm.trans s4).newly hD, ?_⟩
 ·have:=vd f i
  rw [sizeLine_eq];omega
 ·rw [aq,gk,ef];rfl
theorem MF (f:Nat->Option V) (hD:H1 D=none) (hq:H1 a=some (.tup xs)) (hx:xs.length<=100000)
 (hs:∀i x H (G:Hp->Prop) (F:VK),xs[i]? = some x->Same H1 H->(∀H',Same H H'->f i=none->G H')->(∀y H',Same H H'->f i=some y->F y H')->tc (some x::rest) H fun b H3=>if b=true then te (some x::rest) H3 F else G H3)
 (hd:∀H,Same H1 H->H D=some (.lst ((List.range xs.length).filterMap f))->Q (.ref D) H):oH (Itt K a) (jz 0) tc te Q D (none::rest) H1:=by
 refine Q9 (K:=K) (xs:=xs) (fun i σ H=>(∃v,σ=v::rest)/\Same H1 H/\H D=some (.lst ((List.range i).filterMap f))) ⟨⟨none,rfl⟩,aF hD,aq⟩ (fun i σ H _ ⟨_,sm,_⟩=>fY.of (sm.tups _ _ hq)) ?_ (fun σ H ⟨_,sm,e⟩=>hd H sm e);rintro i x σ H hi ⟨⟨v,rfl⟩,sm,e⟩;have hil:i<xs.length:=(List.getElem?_eq_some_iff.mp hi).1;refine hs i x H _ _ hi sm (fun H3 s3 ef=>⟨⟨_,rfl⟩,sm.trans s3,by rw [s3 _ _ e,gk,ef];simp⟩) (fun y H4 s4 ef=> ?_);refine ⟨_,s4 _ _ e, ?_,⟨_,rfl⟩,(sm.trans s4).newly hD, ?_⟩
 ·have:=vd f i
  rw [sizeLine_eq];omega
 ·rw [aq,gk,ef];rfl
theorem jj {n:Nat} (f:Nat->Option V) (hD:H1 D=none) (hx:n<=100000)
 (hs:∀i H (G:Hp->Prop) (F:VK),i<n->Same H1 H->(∀H',Same H H'->f i=none->G H')->(∀y H',Same H H'->f i=some y->F y H')->tc (some (.int (0+i))::rest) H fun b H3=>if b=true then te (some (.int (0+i))::rest) H3 F else G H3)
 (hd:∀H,Same H1 H->H D=some (.lst ((List.range n).filterMap f))->Q (.ref D) H):oH (Wj 0 n) (jz 0) tc te Q D (none::rest) H1:=by
 refine rO (lo:=0) (n:=n) (fun i σ H=>(∃v,σ=v::rest)/\Same H1 H/\H D=some (.lst ((List.range i).filterMap f))) ⟨⟨none,rfl⟩,aF hD,aq⟩ ?_ (fun σ H ⟨_,sm,e⟩=>hd H sm e);rintro i σ H hi ⟨⟨v,rfl⟩,sm,e⟩;refine hs i H _ _ hi sm (fun H3 s3 ef=>⟨⟨_,rfl⟩,sm.trans s3,by rw [s3 _ _ e,gk,ef];simp⟩) (fun y H4 s4 ef=> ?_);refine ⟨_,s4 _ _ e, ?_,⟨_,rfl⟩,(sm.trans s4).newly hD, ?_⟩
 ·have:=vd f i
  rw [sizeLine_eq];omega
 ·rw [aq,gk,ef];rfl
theorem Mz {l1 l2:Addr} {ys:List V} {n:Nat} (hn1:xs.length=n) (hn2:ys.length=n) (f:Nat->Option V) (hD:H1 D=none) (hq1:aV K H1 l1 xs) (hq2:aV K H1 l2 ys) (hx:n<=100000)
 (hs:∀i x y H (G:Hp->Prop) (F:VK),xs[i]? = some x->ys[i]? = some y->Same H1 H->(∀H',Same H H'->f i=none->G H')->(∀y H',Same H H'->f i=some y->F y H')->tc (some x::some y::rest) H fun b H3=>if b=true then te (some x::some y::rest) H3 F else G H3)
 (hd:∀H,Same H1 H->H D=some (.lst ((List.range n).filterMap f))->Q (.ref D) H):oH (Itz K l1 l2) (Yx K 2 (QW (jz 0) (QW (jz 1) aaO))) tc te Q D (none::none::rest) H1:=by
 refine Q8 (K:=K) (xs:=xs) (ys:=ys) hn1 hn2 (fun i σ H=>(∃u v,σ=u::v::rest)/\Same H1 H/\H D=some (.lst ((List.range i).filterMap f))) ⟨⟨none,none,rfl⟩,aF hD,aq⟩ (fun i σ H _ ⟨_,sm,_⟩=>⟨sm.sqL _ _ hq1,sm.sqL _ _ hq2⟩) ?_ (fun σ H ⟨_,sm,e⟩=>hd H sm e);rintro i x y σ H p hix hiy ⟨⟨u,v,rfl⟩,sm,e⟩ hp;have sp:=aF (o:=HO.tup [x,y]) hp;refine ⟨p,[x,y],rfl,fY.of aq,rfl,_,_,rfl,_,_,rfl,rfl, ?_⟩;have hil:i<xs.length:=(List.getElem?_eq_some_iff.mp hix).1;refine hs i x y _ _ _ hix hiy (sm.trans sp) (fun H3 s3 ef=>⟨⟨_,_,rfl⟩,(sm.trans sp).trans s3,by rw [s3 _ _ (sp _ _ e),gk,ef];simp⟩) (fun y H4 s4 ef=> ?_);refine ⟨_,s4 _ _ (sp _ _ e), ?_,⟨_,_,rfl⟩,((sm.trans sp).trans s4).newly hD, ?_⟩
 ·have:=vd f i
  rw [sizeLine_eq];omega
 ·rw [aq,gk,ef];rfl
theorem FN {α β:Type} {f g:α->Option β}:∀(l:List α) (_:True) (h:∀x∈l,f x=g x),l.filterMap f=l.filterMap g
 | [],_,_=>rfl
 | x::l,_,h=>by
   rw [List.filterMap_cons,List.filterMap_cons,h x (by simp),FN l trivial fun y hy=>h y (by simp [hy])]
theorem snocInd {α:Type} {P:List α->Prop} (h0:P []) (hs:∀xs x,P xs->P (xs++[x])) (xs:List α):P xs:=by
 rw [←List.reverse_reverse xs]
 induction xs.reverse with
 | nil=>exact h0
 | cons x l ih=>rw [List.reverse_cons];exact hs _ _ ih
theorem CJ {α β:Type} (xs:List α) (g:α->β):(List.range xs.length).filterMap (fun i=>(xs[i]?).map g)=xs.map g:=by
 refine snocInd (P:=fun xs=>(List.range xs.length).filterMap (fun i=>(xs[i]?).map g)=xs.map g) rfl (fun xs x ih=> ?_) xs
 ·show (List.range (xs++[x]).length).filterMap (fun i=>((xs++[x])[i]?).map g)=(xs++[x]).map g
  rw [List.length_append,List.length_singleton,gk,List.map_append];congr 1
  ·rw [←ih]
   refine FN _ trivial fun i hi=> ?_;have:i<xs.length:=by simpa using hi
   rw [List.getElem?_append_left this]
  ·simp
end
end L2
namespace L2
open PySem
section
variable {X:Cx} {K:PySem.W.Frag}
theorem PJ (h:X.K=K):oh X (binaryOp .Add) (VL K):=by subst h;exact T4
end
end L2
namespace L2
open PySem
theorem sW {a b:TS} {D:Ends} {σ:St} {H:Hp} (h:∀R:St->Hp->Prop,(∀σ' H',b D σ' H'->R σ' H')->a {D with nx:=R} σ H):Sw a b D σ H:=h _ (fun _ _ x=>x)
theorem qm {a b:TS} {D:Ends} {σ:St} {H:Hp} (P:St->Hp->Prop) (h1:∀D':Ends,(∀σ' H',P σ' H'->D'.nx σ' H')->D'.rt=D.rt->a D' σ H) (h2:∀σ' H',P σ' H'->b D σ' H'):Sw a b D σ H:=h1 _ h2 rfl
end L2
namespace L2
open PySem PySem.Spec PyProof.Rows
section
variable {X:Cx} {K:PySem.W.Frag} {a:Expr} {ta:TE} {pos:Pos}
def adV (K:PySem.W.Frag) (ta:TE):TT:=fun σ H Q=>ta σ H fun x H'=>∃k,Y6 K x H' k/\Q k H'
theorem K8 (h:X.K=K) (ha:PE X a ta) (he:∀whole,isTrue a X.env whole=(do let v ←whole;standAt a.pos;holding [v] (truthy v)):=by intro _;rfl):PT X a (adV K ta):=by
 subst h;exact O_ ha he
end
end L2
set_option Elab.async false
set_option linter.all false
set_option maxRecDepth 100000
set_option maxHeartbeats 4000000
namespace L2
open PySem PySem.Spec PyProof.Rows
section
variable {X:Cx} {K:PySem.W.Frag}
def Z_:R2:=fun x y H Q=>∃a b,x = .bl a/\y = .bl b/\Q (.bl (!(a==b))) H
theorem TX:oh X (compareOp .IsNot) Z_:=by
 intro pins s σ H x y v u Q I rx ry h;obtain ⟨a,b,rfl,rfl,q⟩:=h;cases rx;cases ry;exact isnot_bool (cA I q rfl)
theorem JM {T name id:String} {r:V->List V->Hp->VK->Prop} {o:Expr} {to:TE} {apos cpos:Pos} (h:X.K=K) (pa:PlainAttrs T) (slot:Slot T name id) (hty:typeOf (.builtin id)=pure (.type "method_descriptor")) (hm:MtR X id r) (ho:PE X o to)
 (hbase:attributeBase o name X.env (eval o X.env)=eval o X.env:=by rfl) (hline:(apos.endLine==cpos.line)=true:=by rfl):PE X (.Call (.Attribute o name apos) [] [] cpos) (ZV K T r to):=by
 subst h;exact Xg pa slot hty hm ho hbase hline
end
section
variable {K:PySem.W.Frag} {a D:Addr} {xs:List V} {te:TE} {Q:VK} {rest:St} {H1:Hp}
theorem Mu {H:Hp} {vs:List V} {ds:List PyData} {v:V} {d:PyData} (h:aM H vs ds) (hd:Dat H v d):aM H (vs++[v]) (ds++[d]):=aM.append h (by simp only [aM,and_true];exact hd)
end
end L2
set_option Elab.async false
set_option linter.all false
namespace L2
open PySem
def Gv (mg:Str->Option Value) (x:Str) (v:V):Prop:=∃u,mg x=some u/\RelV v u
end L2
set_option Elab.async false
set_option linter.all false
set_option maxRecDepth 100000
set_option maxHeartbeats 4000000
namespace L2
open PySem PySem.Spec PyProof.Rows
section
variable {prog:Program} {w:World} {K:Type} [DecidableEq K] {knd:HeapKind prog w K}
end
section
variable {X:Cx} {o e f:Expr} {td ty tx:TE} {apos cpos:Pos}
end
end L2
namespace L2
open PySem PySem.Spec PyProof.Rows
section
variable {X:Cx} {K:PySem.W.Frag}
end
end L2
namespace L2
open PySem
end L2
set_option Elab.async false
set_option linter.all false
set_option maxRecDepth 100000
set_option maxHeartbeats 4000000
namespace L2
open PySem PySem.Spec PyProof.Rows
section
variable {X:Cx} {K:PySem.W.Frag}
theorem Dz:∀{ys:List Str} {us:List Value},Vals (ys.map V.str) us->StrsAre us ys
 | [],us,r=>by cases r;exact .nil
 | y::ys,us,r=>by
   cases r with
   | cons r rs=>
     obtain ⟨t,rfl⟩:=r;exact .cons y t (Dz rs)
def rJoin (K:PySem.W.Frag):V->List V->Hp->VK->Prop:=fun x vs H Q=>∃(sep:Str) (l:Addr) (ys:List Str),x = .str sep/\vs=[.ref l]/\aV K H l (ys.map V.str)/\(ys.map (·.length)).sum+ys.length*sep.length<=16777216/\Q (.str (Txt.join sep ys)) H
theorem tU (h:X.K=K):MtR X "str.join" (rJoin K):=by
 subst h;intro pins s σ H x vs v us Q I rx rv h;obtain ⟨sep,l,ys,rfl,rfl,hq,hz,q⟩:=h;obtain ⟨t,rfl⟩:=rx;obtain ⟨u,rfl,ru⟩:=rv.one;cases ru;obtain ⟨its,r',pl,hz'⟩:=I.list hq;exact join_list pl.isList (by simpa using Dz r') hz fun t' k=>⟨.str _,H,I.tok _,⟨_,rfl⟩,q⟩
end
def cat:List Str->Str
 | []=>Str.empty
 | x::xs=>x++cat xs
theorem dZ (a:Str):a++Str.empty=a:=by
 cases a;show (⟨_ ++ #[]⟩:Str)=_;simp
theorem glued_cons (sep x:Str) (xs:List Str):Txt.join sep (x::xs)=x++cat (xs.map (sep ++ ·)):=by
 have key:∀(xs:List Str) (a:Str),(⟨xs.foldl (fun acc p=>acc++sep.cps++p.cps) a.cps⟩:Str)=a++cat (xs.map (sep ++ ·)):=by
  intro xs
  induction xs with
  | nil=>intro a;exact (dZ a).symm
  | cons y ys ih=>
    intro a;have:=ih ⟨a.cps++sep.cps++y.cps⟩;rw [List.foldl_cons,this,List.map_cons,cat,←Str.append_assoc,←Str.append_assoc];rfl
 exact key xs x
theorem Ui:∀n:Fin 1001,(Str.ofString (toString (n.val:Int))).length<=4:=by decide +kernel
theorem dh {i:Int} (h0:0<=i) (h1:i<=1000):(Str.ofString (toString i)).length<=4:=by
 have:=Ui ⟨i.toNat,by omega⟩;simp only at this;rwa [show ((i.toNat:Nat):Int)=i by omega] at this
theorem nR {i:Int} (h0:0<=i) (h1:i<=1000):i.natAbs.log2<1920:=by
 have:i.natAbs.log2<=i.natAbs:=Nat.log2_le_self _;omega
end L2
set_option Elab.async false
set_option linter.all false
set_option maxRecDepth 100000
set_option maxHeartbeats 4000000
namespace L2
open PySem PySem.Spec PyProof.Rows
section
variable {X:Cx} {body suite:List Stmt} {b0:Stmt} {cn:Str} {Dc:Addr} {tb:(St->XK)->TS} {th:TS} {cp hpos pos:Pos}
end
end L2
namespace L2
open PySem PySem.Spec PyProof.Rows
section
variable {X:Cx}
def ace (i j:Int):Prop:=0<j/\j<1329227995784915872903807060280344576
theorem PB:oh X (binaryOp .FloorDiv) (rI ace fun i j=> .int (i / j)):=opI fun i j _ _ _ _ _ hc q=>by
 have h1:(0:Int)<j:=hc.1;have h2:j<1329227995784915872903807060280344576:=hc.2;refine floordiv_int (by omega) (by rw [Int.fdiv_eq_ediv_of_nonneg i (by omega)];exact q) (.inl ?_);unfold Builtin.divisionGoesByPylong;have hn:j.natAbs<2 ^ 120:=by omega
 have hl:j.natAbs.log2<120:=(Nat.log2_lt (by omega)).mpr hn
 have hz:(j==0)=false:=by
  rw [beq_eq_false_iff_ne];omega
 simp only [hz,Bool.false_eq_true,if_false];have:¬j.natAbs.log2 / 30+1>300:=by omega
 rw [decide_eq_false this,Bool.false_and]
end
end L2
set_option Elab.async false
set_option linter.all false
set_option maxRecDepth 100000
set_option maxHeartbeats 4000000
namespace L2
open PySem PySem.Spec PyProof.Rows
section
variable {X:Cx} {pins:List (Addr×Obj)} {σ:St} {H:Hp} {s:Shared} {d:Addr} {u u':HO}
theorem Inv.VH (I:Inv X pins σ H s) (e:H d=some u) (h1:∀xs,u ≠ .tup xs) (h2:∀a,u ≠ .own a) (h3:∀ps,u ≠ .VB ps) (hz:∀o v,X.H₀ d≠some (.oF o v)) (ok:cU X.prog X.w (upd H d u') s.heap d u'):Inv X pins σ (upd H d u') s:=by
 have nd:∀{b:Addr},H b=none->b≠d:=fun q z=>by rw [z,e] at q;cases q
 have ht:∀b xs,H b=some (HO.tup xs)->(upd H d u') b=some (HO.tup xs):=fun b xs q=>by
  have:b≠d:=fun z=>by rw [z,e] at q;exact h1 xs (Option.some.inj q)
  rw [aO this];exact q
 refine ⟨I.ok,I.os,I.bare,⟨I.base.keep,I.base.slot,fun b o q n hx=> ?_,I.base.there,fun b xs q=>ht b xs (I.base.tups b xs q),fun b o v q=> ?_,fun b ps q=> ?_⟩,I.loc,I.cell, ?_,fun x c q=> ?_,fun p hp=> ?_,fun b v q=> ?_,I.len⟩
 ·have:=I.base.free b o q n hx
  rw [aO (nd this)];exact this
 ·have:=I.base.u_ b o v q
  have nb:b≠d:=fun z=>by rw [z] at q;exact hz o v q
  rw [aO nb];exact this
 ·obtain ⟨more,r⟩:=I.base.xG b ps q
  have nb:b≠d:=fun z=>by rw [z,e] at r;exact h3 _ (Option.some.inj r)
  exact ⟨more,by rw [aO nb];exact r⟩
 ·rw [aO (nd I.free)];exact I.free
 ·rw [aO (nd (I.mV x c q))];exact I.mV x c q
 ·obtain ⟨q1,q2,q3⟩:=I.pin p hp
  exact ⟨q1,by rw [aO (nd q2)];exact q2,q3⟩
 ·by_cases hb:b=d
  ·subst hb
   rw [aq] at q;cases q;exact ok
  ·rw [aO hb] at q
   refine (I.hok b v q).stay (fun _ _ _ r=>r) (fun c r=> ?_) ht;have:c≠d:=fun z=>by rw [z,e] at r;exact h2 _ (Option.some.inj r)
   rw [aO this];exact r
theorem Inv.V0 {kvs:List (Key×V)} (I:Inv X pins σ H s) (e:H d=some (.dK kvs)):∀o v,X.H₀ d≠some (.oF o v):=fun o v q=>by
 have:=I.base.u_ d o v q;rw [e] at this;cases this
theorem Inv.freeze {kvs:List (Key×V)} {o:Obj} (I:Inv X pins σ H s) (e:H d=some (.dK kvs)) (ho:s.heap.get? d=some o):Inv X pins σ (upd H d (.oF o (.dK kvs))) s:=by
 refine I.VH e (fun _ z=>by cases z) (fun _ z=>by cases z) (fun _ z=>by cases z) (I.V0 e) ⟨ho, ?_⟩;obtain ⟨z,y,vs,r,dd⟩:=(show cU X.prog X.w H s.heap d (.dK kvs) from I.hok d _ e);exact ⟨z,y,vs,r,dd⟩
theorem Inv.adR {kvs:List (Key×V)} {o:Obj} (I:Inv X pins σ H s) (e:H d=some (.oF o (.dK kvs))) (hz:∀o v,X.H₀ d≠some (.oF o v)):Inv X pins σ (upd H d (.dK kvs)) s:=by
 refine I.VH e (fun _ z=>by cases z) (fun _ z=>by cases z) (fun _ z=>by cases z) hz ?_;obtain ⟨_,z,y,vs,r,dd⟩:=(show cU X.prog X.w H s.heap d (.oF o (.dK kvs)) from I.hok d _ e);exact ⟨z,y,vs,r,dd⟩
end
def Itd (d:Addr) (o:Obj) (kvs:List (Key×V)):It:=
 ⟨fun i H=>i<kvs.length/\H d=some (.oF o (.dK kvs)),fun i H x H'=>H'=H /\ ∃k v,kvs[i]? = some (k,v)/\x=kV k,fun i H=>kvs.length<=i/\H d=some (.oF o (.dK kvs))⟩
theorem Yc {kvs:List (Key×V)} {vs:List (Key×Value)} (r:KV kvs vs):∀(i:Nat) (k:Key) (v:V),kvs[i]? = some (k,v) -> ∃u,vs[i]? = some (k,u):=by
 induction r with
 | nil=>intro i k v h;cases h
 | cons h r ih=>
   intro i k v e;cases i with
   | zero=>
     have e':=Option.some.inj e;rename_i p q _ _;obtain ⟨h1,h2⟩:=h;obtain ⟨q1,q2⟩:=q;refine ⟨q2, ?_⟩;have:q1=k:=by rw [e'] at h1;exact h1.symm
     subst this;rfl
   | succ i=>exact ih i k v (by simpa using e)
theorem KJ {P:Program} {w:World} {K:PySem.W.Frag} {tg:Expr} (d it:Addr) (o:Obj) (kvs:List (Key×V)) (es:Array DictEntry) (ep:Nat) (hd:o.data = .dict es ep):Turn P w K tg (Itd d o kvs) [it] it (fun i h=>h.IsKeyIter it d i kvs.length ep) where
 mem:=by simp
 obj:=fun i h st b hb=>by
  have e:b=it:=by simpa using hb
  subst e;obtain ⟨o,e,c,d⟩:=st;exact ⟨o,e,fun v z=>by rw [d] at z;cases z⟩
 keep:=fun i h h' st k=>by
  obtain ⟨o,e,c,d⟩:=st;exact ⟨o,k it (by simp) o e,c,d⟩
 item:=by
  intro X hP hw hK hc i pins s σ H E I hf st hg;subst hP hw hK;obtain ⟨hi,hH⟩:=hg;obtain ⟨ho,z,y,vs,r,o',es',ep',q1,q2,q3,q4,q5,q6⟩:=(show cU X.prog X.w H s.heap d (.oF o (.dK kvs)) from I.hok d _ hH);rw [ho] at q1;cases q1;rw [hd] at q3;cases q3;have hl:kvs.length=vs.length:=r.length;obtain ⟨k,v,ekv⟩:∃k v,kvs[i]? = some (k,v):=⟨kvs[i].1,kvs[i].2,by simp [hi]⟩;obtain ⟨u,eu⟩:=Yc r i k v ekv;obtain ⟨f0,f1,f2,f3,f4,f5⟩:=hf it (by simp);refine wpAny_pyNext_dict_item (knd:=cY X.prog X.w) (by rw [←hl];exact st) ⟨o,es,ho,q2,hd,q4,q5,q6⟩ eu fun key h' hk st' sb=> ?_;have I1:Inv X pins σ H {s with heap:=h'}:=I.turned (t':=s.toks) (fun b o hb e=>(sb.2 b hb).trans e) f0 f1 f3 f4 f5;obtain ⟨ob,e,c,dd⟩:=id st'
  have rk:RelV (kV k) key:=by
   rw [Ii] at hk;rcases dU hk with ⟨j,t,e1,e2⟩|⟨x,t,e1,e2⟩
   ·subst e1;subst e2;exact ⟨t,rfl⟩
   ·subst e1;subst e2;exact ⟨t,rfl⟩
  exact ⟨key,rfl,yL (s:={s with heap:=h'}) e c dd (by decide) ⟨kV k,H,I1,rk,⟨rfl,k,v,ekv,rfl⟩,by rw [hl];exact st',fun b hb=>(hf b hb).1⟩⟩
 done:=by
  intro X hP hw hK hc i pins s σ H E I hf st hg;subst hP hw hK;obtain ⟨hi,hH⟩:=hg;obtain ⟨ho,z,y,vs,r,o',es',ep',q1,q2,q3,q4,q5,q6⟩:=(show cU X.prog X.w H s.heap d (.oF o (.dK kvs)) from I.hok d _ hH);rw [ho] at q1;cases q1;rw [hd] at q3;cases q3;have hl:kvs.length=vs.length:=r.length;obtain ⟨f0,f1,f2,f3,f4,f5⟩:=hf it (by simp);exact wpAny_pyNext_dict_end (knd:=cY X.prog X.w) (I.ok.hd hc) (by rw [←hl];exact st) ⟨o,es,ho,q2,hd,q4,q5,q6⟩ (by simp;omega) fun h' eb=>⟨rfl,I.turned (t':=s.toks) (fun b o hb e=>eb b o hb e) f0 f1 f3 f4 f5⟩
 self:=fun _ _ _ _ _ st h=>wpAny_pyIter_keyiter st h
section
variable {X:Cx} {tg:Expr}
def aaI (tl:TE):TI:=fun σ H R=>tl σ H fun x H1=>∃d kvs,x = .ref d/\H1 d=some (.dK kvs) /\ ∀o,R (Itd d o kvs) (upd H1 d (.oF o (.dK kvs)))
theorem Tv {l:Expr} {tl:TE} (hl:PE X l tl):PI X tg l (aaI tl):=by
 intro pins s σ H R I h;refine dj (hl pins s σ H _ I h) fun v s1 ⟨x,H1,I1,r1,q1⟩=> ?_;obtain ⟨d,kvs,e,hH,q⟩:=q1;subst e;cases r1;obtain ⟨z,hd,vs,r,o,es,ep,ho,q2,q3,q4,q5,q6⟩:=Q5 I1.hok hH;refine wpAny_pyIter_dict (knd:=cY X.prog X.w) hd ⟨o,es,ho,q2,q3,q4,q5,q6⟩ ?_;have If:=I1.freeze hH ho;have hl:kvs.length=vs.length:=r.length
 have Xz:(upd H1 d (HO.oF o (.dK kvs))) s1.heap.objs.size=none:=by
  rw [aO (Ne.symm (Nat.ne_of_lt (Heap.lt_size ho)))];exact I1.hok.fresh (Nat.le_refl _)
 refine ⟨s1.heap.objs.size,[s1.heap.objs.size],_,_,upd H1 d (.oF o (.dK kvs)),rfl,If.kept (t':=s1.toks) fun b o e=>Heap.get?_push_of_some _ e,KJ d _ o kvs es ep q3,⟨_,Heap.get?_push_size _ rfl,rfl,by rw [hl];rfl⟩,fun b hb=> ?_,q o⟩;have e:b=s1.heap.objs.size:=by simpa using hb
 subst e;exact If.zZ (Nat.le_refl _) Xz
end
section
variable {d D:Addr} {o:Obj} {kvs:List (Key×V)} {tc:TT} {te:TE} {Q:VK} {rest:St} {H1:Hp}
end
def ak1 (H H' Y_:Hp):Prop:=∃d aaB o kvs,H d=some (.dK aaB)/\H' d=some (.oF o (.dK kvs))/\Y_=upd H' d (.dK kvs)
def Z0 (t:TS):TS:=fun D σ H=>t {D with nx:=fun σ' H'=>∃Y_,ak1 H H' Y_/\D.nx σ' Y_} σ H
theorem Ti {X:Cx} {st:Stmt} {t:TS} (h:PS X st t):PS X st (Z0 t):=by
 intro pins s σ H D I q;refine wpAny_mono (h pins s σ H _ I q) (fun f s1 q1=> ?_) fun _ _ z=>z;cases f with
 | next=>
   obtain ⟨σ1,H1,I1,H2,⟨d,aaB,o,kvs,e1,e2,rfl⟩,q2⟩:=q1;exact ⟨σ1,_,I1.adR e2 (I.V0 e1),q2⟩
 | brk=>exact q1
 | cont=>exact q1
 | ret u=>exact q1
end L2
set_option Elab.async false
set_option linter.all false
set_option maxRecDepth 100000
set_option maxHeartbeats 4000000
namespace L2
open PySem PySem.Spec PyProof.Rows
theorem QX {d:Addr} {o:Obj} {kvs:List (Key×V)} {g:TG} {tb:TS} {D:Ends} {σ:St} {H:Hp} (Pv:Nat->St->Hp->Prop) (h0:Pv 0 σ H) (hl:∀i σ H,i<=kvs.length->Pv i σ H->H d=some (.oF o (.dK kvs)))
 (hs:∀i k v σ H,kvs[i]? = some (k,v)->Pv i σ H->g (kV k) σ H fun σ2 H2=>tb {D with nx:=Pv (i+1),ct:=Pv (i+1),bk:=D.nx} σ2 H2) (hd:∀σ H,Pv kvs.length σ H->D.nx σ H):
 ∃W:Nat->Nat->St->Hp->Prop,(∃m,W 0 m σ H) /\ ∀i m σ H,W i m σ H ->
  ((Itd d o kvs).stop i H/\D.nx σ H)\/((Itd d o kvs).go i H /\ ∃N:St->Hp->Prop,(∀σ' H',N σ' H' -> ∃m',m'<m/\W (i+1) m' σ' H') /\ ∀x H',(Itd d o kvs).Wo i H x H'->g x σ H' fun σ2 H2=>tb {D with nx:=N,ct:=N,bk:=D.nx} σ2 H2):=by
 refine ⟨fun i m σ H=>m=kvs.length - i/\i<=kvs.length/\Pv i σ H,⟨kvs.length,by simp,Nat.zero_le _,h0⟩, ?_⟩;rintro i m σ H ⟨rfl,hi,p⟩;have q:=hl i σ H hi p
 by_cases hlt:i<kvs.length
 ·refine .inr ⟨⟨hlt,q⟩,Pv (i+1),fun σ' H' p'=>⟨kvs.length - (i+1),by omega,rfl,hlt,p'⟩,fun x H' y=> ?_⟩
  obtain ⟨rfl,k,v,e,rfl⟩:=y;exact hs i k v σ _ e p
 ·have e:i=kvs.length:=by omega
  subst e;exact .inl ⟨⟨Nat.le_refl _,q⟩,hd σ H p⟩
def zV (hs:List Int) (g:Int->Int):List (Key×V):=hs.map fun h=>(Sum.inl h,V.int (g h))
theorem Cm {hs:List Int} {g:Int->Int}:∀(h:Int),sO (zV hs g) (Sum.inl h)=if h∈hs then some (V.int (g h)) else none:=by
 intro h
 induction hs with
 | nil=>rfl
 | cons x hs ih=>
   show sO ((Sum.inl x,V.int (g x))::zV hs g) _=_
   by_cases e:x=h
   ·subst e
    rw [sI rfl,if_pos (List.mem_cons_self ..)]
   ·rw [sJ (fun z=>e (Sum.inl.inj z)),ih]
    by_cases m:h∈hs
    ·rw [if_pos m,if_pos (List.mem_cons_of_mem _ m)]
    ·rw [if_neg m,if_neg (fun z=>(List.mem_cons.mp z).elim (fun z=>e z.symm) m)]
def FJ (g:Int->Int) (h v:Int):Int->Int:=fun x=>if x=h then v else g x
def hAdd (hs:List Int) (h:Int):List Int:=if h∈hs then hs else hs++[h]
theorem Ur {hs:List Int} {g:Int->Int} (h v:Int):putK (zV hs g) (Sum.inl h) (V.int v)=zV (hAdd hs h) (FJ g h v):=by
 unfold putK hAdd;rw [xu,Cm]
 by_cases m:h∈hs
 ·rw [if_pos m,Option.isSome_some,if_pos rfl,if_pos m]
  unfold zV;rw [List.map_map];refine List.map_congr_left fun x _=> ?_;simp only [Function.comp,FJ]
  by_cases e:x=h
  ·subst e;simp
  ·rw [if_neg (fun z=>e (Sum.inl.inj z)),if_neg e]
 ·rw [if_neg m,if_neg (by simp),if_neg m]
  unfold zV;rw [List.map_append];congr 1
  ·refine List.map_congr_left fun x hx=> ?_
   have:x≠h:=fun z=>m (z▸hx);simp only [FJ,if_neg this]
  ·simp [FJ]
theorem yu:∀(n:Nat) (hs:List Int),hs.Nodup->(∀h∈hs,0<=h/\h<(n:Int))->hs.length<=n
 | 0,hs,_,hr=>by
   cases hs with
   | nil=>exact Nat.le_refl _
   | cons x hs=>have:=hr x (List.mem_cons_self ..);omega
 | n+1,hs,nd,hr=>by
   have ih:=yu n (hs.erase (n:Int)) (nd.erase _) fun h hh=>by
    have h1:=(nd.mem_erase_iff).mp hh;have h2:=hr h h1.2;have:=h1.1;omega
   by_cases m:(n:Int)∈hs
   ·rw [List.length_erase_of_mem m] at ih;omega
   ·rw [List.erase_of_not_mem m] at ih;omega
theorem U6 {hs:List Int} {h:Int} (nd:hs.Nodup):(hAdd hs h).Nodup:=by
 unfold hAdd
 by_cases m:h∈hs
 ·rw [if_pos m];exact nd
 ·rw [if_neg m]
  rw [List.nodup_append];exact ⟨nd,by simp,fun a ha b hb e=>by simp at hb;subst hb;subst e;exact m ha⟩
theorem yK {hs:List Int} {h x:Int}:x∈hAdd hs h↔x∈hs\/x=h:=by
 unfold hAdd
 by_cases m:h∈hs
 ·rw [if_pos m]
  exact ⟨.inl,fun z=>z.elim id fun e=>e▸m⟩
 ·rw [if_neg m];simp
structure jT (H:Hp) (d:Addr) (g:Int->Int):Prop where
 ex:∃hs:List Int,H d=some (.dK (zV hs g))/\hs.Nodup/\(∀h∈hs,0<=h/\h<8) /\ ∀h,h∉hs->g h=0
 nn:∀h,0<=g h
theorem jT.get {H:Hp} {d:Addr} {g:Int->Int} (k:jT H d g):∃kvs,H d=some (.dK kvs)/\kvs.length<=8 /\ ∀h:Int,(sO kvs (Sum.inl h)).getD (.int 0) = .int (g h):=by
 obtain ⟨hs,e,nd,r,z⟩:=k.ex;refine ⟨_,e,by rw [zV,List.length_map];exact yu 8 hs nd r,fun h=> ?_⟩;rw [Cm]
 by_cases m:h∈hs
 ·rw [if_pos m];rfl
 ·rw [if_neg m,z h m];rfl
theorem jT.put {H:Hp} {d:Addr} {g:Int->Int} {h v:Int} (k:jT H d g) (h0:0<=h) (h1:h<8) (v0:0<=v):∃kvs,H d=some (.dK kvs)/\kvs.length<sizeLine /\ ∀H',H' d=some (.dK (putK kvs (Sum.inl h) (.int v)))->jT H' d (FJ g h v):=by
 obtain ⟨hs,e,nd,r,z⟩:=k.ex;refine ⟨_,e, ?_,fun H' e'=>⟨⟨hAdd hs h,by rw [e',Ur],U6 nd,fun x hx=> ?_,fun x hx=> ?_⟩,fun x=> ?_⟩⟩
 ·have:=yu 8 hs nd r
  rw [zV,List.length_map,sizeLine_eq];omega
 ·rcases yK.mp hx with hx|rfl
  ·exact r x hx
  ·exact ⟨h0,h1⟩
 ·have n1:x∉hs:=fun z=>hx (yK.mpr (.inl z))
  have n2:x≠h:=fun z=>hx (yK.mpr (.inr z));unfold FJ;rw [if_neg n2];exact z x n1
 ·unfold FJ
  split
  ·exact v0
  ·exact k.nn x
theorem jT.kp {H H':Hp} {d r:Addr} {g:Int->Int} (k:jT H d g) (kp:Kp r H H') (n:d≠r):jT H' d g:=by
 obtain ⟨hs,e,q⟩:=k.ex;exact ⟨⟨hs,kp _ _ e n,q⟩,k.nn⟩
theorem jT.same {H H':Hp} {d:Addr} {g:Int->Int} (k:jT H d g) (s:Same H H'):jT H' d g:=by
 obtain ⟨hs,e,q⟩:=k.ex;exact ⟨⟨hs,s _ _ e,q⟩,k.nn⟩
theorem jT.ext {H:Hp} {d:Addr} {g g':Int->Int} (k:jT H d g) (e:∀h,g h=g' h):jT H d g':=by
 have:g=g':=funext e;rw [←this];exact k
end L2
set_option Elab.async false
set_option linter.all false
set_option maxRecDepth 100000
set_option maxHeartbeats 4000000
namespace L2
open PySem PySem.Spec PyProof.Rows
def RM (hi:Int) (n:Nat):It:=⟨fun i _=>i<n,fun i H x H'=>H'=H/\x = .int (hi - i),fun i _=>n<=i⟩
theorem DG {P:Program} {w:World} {K:PySem.W.Frag} {tg:Expr} (it:Addr) (hi:Int) (n:Nat):Turn P w K tg (RM hi n) [it] it (fun i h=>IsRangeIter h it (hi+(i:Nat)*(-1)) ((n:Int) - (i:Nat)) (-1)) where
 mem:=by simp
 obj:=fun i h st b hb=>by
  have e:b=it:=by simpa using hb
  subst e
  exact ⟨_,st,fun v z=>by
   have z':Data.fields _=Data.cell v:=z;cases z'⟩
 keep:=fun i h h' st k=>k it (by simp) _ st
 item:=by
  intro X hP hw hK hc i pins s σ H E I hf st hg;subst hP hw hK;obtain ⟨f0,f1,f2,f3,f4,f5⟩:=hf it (by simp);have W:=Walks.range (prog:=X.prog) (w:=X.w) (I.ok.hd hc) it hi (-1) n;refine W.item i s _ _ hg st fun v h' tk hv st' kk=> ?_;obtain ⟨t,rfl⟩:=hv;have I1:Inv X pins σ H {s with heap:=h',toks:=tk}:=I.turned (fun b o hb e=>kk b o (by simpa using hb) e) f0 f1 f3 f4 f5;refine ⟨_,rfl,yL (s:={s with heap:=h',toks:=tk}) (n:= "range_iterator") st' rfl rfl (by decide) ⟨.int (hi - i),H,I1,⟨t, ?_⟩,⟨rfl,rfl⟩,st',fun b hb=>(hf b hb).1⟩⟩;congr 1;omega
 done:=by
  intro X hP hw hK hc i pins s σ H E I hf st hg;subst hP hw hK;obtain ⟨f0,f1,f2,f3,f4,f5⟩:=hf it (by simp);exact wpAny_pyNext_range_end (I.ok.hd hc) st (by have:n<=i:=hg;omega) fun h' eb=>⟨rfl,I.turned (t':=s.toks) (fun b o hb e=>eb b o hb e) f0 f1 f3 f4 f5⟩
 self:=fun _ _ _ _ _ st h=>wpAny_pyIter_rangeiter st h
section
variable {X:Cx} {tg:Expr}
theorem VG (a b:Int):Builtin.Range.rangeSize a b (-1)=if a>b then a - b else 0:=by
 unfold Builtin.Range.rangeSize;rw [if_neg (by decide)];split
 ·simp
 ·rfl
theorem KY {a b:Int} (h1: -(2 ^ 61)<=a) (h2:a<2 ^ 61) (h3: -(2 ^ 61)<=b) (h4:b<2 ^ 61):Builtin.Range.small a b (-1)=true:=by
 unfold Builtin.Range.small;rw [VG]
 have fits:∀z:Int, -(2 ^ 63)<=z->z<2 ^ 63->Builtin.Range.rangeFitsLong z=true:=fun z l1 l2=>by
  unfold Builtin.Range.rangeFitsLong;rw [decide_eq_true l1,decide_eq_true l2];rfl
 have f1:=fits (if a>b then a - b else 0) (by split<;>omega) (by split<;>omega);have f2:=fits (b+(-1+1)) (by omega) (by omega);simp only [fits a (by omega) (by omega),fits b (by omega) (by omega),fits (-1) (by decide) (by decide),f1,f2,Bool.and_self,Bool.true_and,show ¬((-1:Int)>0) by decide,if_false,Bool.or_true]
def aaH (ta:TA):TI:=fun σ H R=>ta σ H fun vs H1=>∃i j:Int,vs=[.int i,.int j,.int (-1)]/\(-(2 ^ 61)<=i/\i<2 ^ 61 /\ -(2 ^ 61)<=j/\j<2 ^ 61)/\R (RM i (i - j).toNat) H1
theorem Ah {a b c:Expr} {ta:TA} {p pos:Pos} (hg:Gl X "range") (hm:X.mg "range" = none) (ha:PA X [a,b,c] ta) (hs:starEach [a,b,c] X.env=[(false,eval a X.env),(false,eval b X.env),(false,eval c X.env)]:=by rfl) (hs2:starEach [b,c] X.env=[(false,eval b X.env),(false,eval c X.env)]:=by rfl):
 PI X tg (.Call (.Name "range" p) [a,b,c] [] pos) (aaH ta):=by
 intro pins s σ H R I h;refine Call_ (uY I hg hm boot_range (PyProof.Rows.callWith_type1 (dj (ha pos pins s σ H _ I h) fun us s1 ⟨vs,H1,I1,r1,q1⟩=> ?_) (by rw [hs,hs2]) (by rw [hs2];rfl)));obtain ⟨i,j,e,⟨q1,q2,q3,q4⟩,q⟩:=q1;subst e;cases r1 with
 | cons r rr=>
   cases rr with
   | cons r' rr=>
     cases rr with
     | cons r'' rr=>
       cases rr;obtain ⟨t,rfl⟩:=r;obtain ⟨t',rfl⟩:=r';obtain ⟨t'',rfl⟩:=r'';refine call_range_3 (by decide) ?_ (.inl (PyProof.noPylong_small (by decide)));refine wpAny_pyIter_range (IsRange.new ..) (KY q1 q2 q3 q4) ?_;have I2:Inv X pins σ H1 {s1 with heap:=s1.heap.push {cls:= .type "range",data:= .fields #[.int i t,.int j t',.int (-1) t'']}}:=I1.kept (t':=s1.toks) fun b o e=>Heap.get?_push_of_some _ e
       refine ⟨(s1.heap.push {cls:= .type "range",data:= .fields #[.int i t,.int j t',.int (-1) t'']}).objs.size,[(s1.heap.push {cls:= .type "range",data:= .fields #[.int i t,.int j t',.int (-1) t'']}).objs.size],_,_,H1,rfl,
        I2.kept (t':=s1.toks) fun b o e=>Heap.get?_push_of_some _ e,DG _ i (i - j).toNat, ?_,fun b hb=> ?_,q⟩
       ·have e1:i+((0:Nat):Int)*(-1)=i:=by simp
        have e2:(((i - j).toNat:Nat):Int) - ((0:Nat):Int)=Builtin.Range.rangeSize i j (-1):=by rw [VG];split<;>omega
        show IsRangeIter _ _ (i+((0:Nat):Int)*(-1)) ((((i - j).toNat:Nat):Int) - ((0:Nat):Int)) (-1);rw [e1,e2];exact Heap.get?_push_size _ rfl
       ·have e:b=(s1.heap.push {cls:= .type "range",data:= .fields #[.int i t,.int j t',.int (-1) t'']}).objs.size:=by simpa using hb
        subst e;exact I2.zZ (Nat.le_refl _) (I2.hok.fresh (Nat.le_refl _))
theorem yO {hi:Int} {n:Nat} {g:TG} {tb:TS} {D:Ends} {σ:St} {H:Hp} (Pv:Nat->St->Hp->Prop) (h0:Pv 0 σ H)
 (hs:∀i σ H,i<n->Pv i σ H->g (.int (hi - i)) σ H fun σ2 H2=>tb {D with nx:=Pv (i+1),ct:=Pv (i+1),bk:=D.nx} σ2 H2) (hd:∀σ H,Pv n σ H->D.nx σ H):
 ∃W:Nat->Nat->St->Hp->Prop,(∃m,W 0 m σ H) /\ ∀i m σ H,W i m σ H ->
  ((RM hi n).stop i H/\D.nx σ H)\/((RM hi n).go i H /\ ∃N:St->Hp->Prop,(∀σ' H',N σ' H' -> ∃m',m'<m/\W (i+1) m' σ' H') /\ ∀x H',(RM hi n).Wo i H x H'->g x σ H' fun σ2 H2=>tb {D with nx:=N,ct:=N,bk:=D.nx} σ2 H2):=by
 refine ⟨fun i m σ H=>m=n - i/\i<=n/\Pv i σ H,⟨n,by simp,Nat.zero_le _,h0⟩, ?_⟩;rintro i m σ H ⟨rfl,hi',p⟩
 by_cases hlt:i<n
 ·refine .inr ⟨hlt,Pv (i+1),fun σ' H' p'=>⟨n - (i+1),by omega,rfl,hlt,p'⟩,fun x H' y=> ?_⟩
  obtain ⟨e,y⟩:=y;subst e y;exact hs i σ _ hlt p
 ·have e:i=n:=by omega
  subst e;exact .inl ⟨Nat.le_refl _,hd σ H p⟩
end
end L2
set_option Elab.async false
set_option linter.all false
set_option maxRecDepth 100000
set_option maxHeartbeats 4000000
namespace L2
open PySem PySem.Spec PyProof.Rows
section
variable {X:Cx} {tg:Expr}
end
end L2
set_option Elab.async false
set_option linter.all false
set_option maxRecDepth 100000
set_option maxHeartbeats 4000000
namespace L2
open PySem PySem.Spec PyProof.Rows
section
variable {X:Cx}
end
end L2
set_option Elab.async false
set_option linter.all false
set_option maxRecDepth 100000
set_option maxHeartbeats 4000000
namespace L2
open PySem PySem.Spec PyProof.Rows
section
variable {H H':Hp}
mutual
theorem Dat.same (k:Same H H'):∀(d:PyData) {v:V},Dat H v d->Dat H' v d
 | .none,_,h=>by simp only [Dat] at h ⊢;exact h
 | .bool _,_,h=>by simp only [Dat] at h ⊢;exact h
 | .int _,_,h=>by simp only [Dat] at h ⊢;exact h
 | .str _,_,h=>by simp only [Dat] at h ⊢;exact h
 | .list ds,_,h=>by simp only [Dat] at h ⊢;obtain ⟨a,vs,e,q,r⟩:=h;exact ⟨a,vs,e,k _ _ q,aM.same k ds r⟩
 | .tuple ds,_,h=>by simp only [Dat] at h ⊢;obtain ⟨a,vs,e,q,r⟩:=h;exact ⟨a,vs,e,k _ _ q,aM.same k ds r⟩
 | .dict _,_,h=>by simp only [Dat] at h
theorem aM.same (k:Same H H'):∀(ds:List PyData) {vs:List V},aM H vs ds->aM H' vs ds
 | [],[],_=>by simp only [aM]
 | d::ds,v::vs,h=>by simp only [aM] at h ⊢;exact ⟨Dat.same k d h.1,aM.same k ds h.2⟩
 | _::_,[],h=>by simp only [aM] at h
 | [],_::_,h=>by simp only [aM] at h
end
end
section
variable {X:Cx} {K:PySem.W.Frag}
inductive PlT (H:Hp):V->Value->Prop where
 | int (i:Int):PlT H (.int i) (.type "int")
 | lst {a:Addr} {xs:List V} (e:H a=some (.lst xs)):PlT H (.ref a) (.type "list")
 | tup {a:Addr} {xs:List V} (e:H a=some (.tup xs)):PlT H (.ref a) (.type "tuple")
def aaf (K:PySem.W.Frag):List V->Hp->VK->Prop:=fun xs H Q=>∃(x:V) (t:Value) (p:Addr) (ns:List String) (b:Bool),xs=[x,.ref p]/\PlT H x t/\H p=some (.tup (ns.map V.ty))/\PySem.W.kitAny K t (ns.map Value.type)=some b/\Q (.bl b) H
theorem GK {ns:List String}:∀{us:List Value},Vals (ns.map V.ty) us->us=ns.map Value.type:=by
 induction ns with
 | nil=>intro us r;cases r;rfl
 | cons c cs ih=>
   intro us r;cases r with
   | cons r rs=>cases (show _=Value.type c from r);rw [ih rs];rfl
theorem Jc (hk:X.K=K):iZ X (.builtin "isinstance") (aaf K):=by
 subst hk;intro pins s σ H xs us Q I r h;obtain ⟨x,t,p,ns,b,rfl,ty,hp,e,q⟩:=h;obtain ⟨u,w',rfl,r1,r2⟩:=vals2 r;cases (show w'=Value.ref p from r2);obtain ⟨its,rv,⟨o,ho,hc,m,hd⟩,hz⟩:=I.tuple (fY.of hp);have ei:=GK rv;subst ei;obtain ⟨c0,d0,dt,sl⟩:=o;simp only at hc hd;subst hc hd;cases ty with
 | int i=>obtain ⟨t,q1⟩:=(show ∃t,u=Value.int i t from r1);cases q1;exact PySem.W.kia_tup PySem.W.kitx_int I.rJ True.intro ho e (fun z=>nomatch z) fun tk=>⟨.bl b,H,I.tok _,rfl,q⟩
 | @lst a xs ea=>
   cases (show u=Value.ref a from r1);obtain ⟨_,_,n,_,h1⟩:=(show cU X.prog X.w H s.heap a (.lst xs) from I.hok a _ ea);exact PySem.W.kia_tup PySem.W.kitx_list I.rJ ⟨_,h1,rfl⟩ ho e (fun z=>nomatch z) fun tk=>⟨.bl b,H,I.tok _,rfl,q⟩
 | @tup a xs ea=>
   cases (show u=Value.ref a from r1);obtain ⟨_,_,_,p⟩:=(show cU X.prog X.w H s.heap a (.tup xs) from I.hok a _ ea);obtain ⟨o,h1,h2,_⟩:=p;exact PySem.W.kia_tup PySem.W.kitx_tuple I.rJ ⟨o,h1,h2⟩ ho e (fun z=>nomatch z) fun tk=>⟨.bl b,H,I.tok _,rfl,q⟩
theorem Gm (K:PySem.W.Frag):PySem.W.kitAny K (.type "list") (["list","tuple"].map Value.type)=some true:=by kernel_rfl
theorem Df (K:PySem.W.Frag):PySem.W.kitAny K (.type "tuple") (["list","tuple"].map Value.type)=some true:=by kernel_rfl
theorem Ji (K:PySem.W.Frag):PySem.W.kitAny K (.type "int") (["list","tuple"].map Value.type)=some false:=by kernel_rfl
theorem pQ (K:PySem.W.Frag):PySem.W.kitOne K (.type "tuple") (.type "list")=some false:=by kernel_rfl
theorem pR (K:PySem.W.Frag):PySem.W.kitOne K (.type "list") (.type "tuple")=some false:=by kernel_rfl
end
section
variable {K:PySem.W.Frag} {a D:Addr} {xs:List V} {tc:TT} {te:TE} {Q:VK} {rest:St} {H1:Hp}
theorem Cq {f:Nat->Option PyData} (hf:∀i d,f i=some d->R7 d=true):∀l:List Nat,Fq (l.filterMap f)=true
 | []=>rfl
 | i::l=>by
   rw [List.filterMap_cons];cases e:f i with
   | none=>exact Cq hf l
   | some d=>simp only [Fq,hf i d e,Cq hf l,Bool.and_self]
theorem MP (f:Nat->Option PyData) (hf:∀i d,f i=some d->R7 d=true) (hD:H1 D=none) (hq:aV K H1 a xs) (hx:xs.length<=100000)
 (hs:∀i x H (G:Hp->Prop) (F:VK),xs[i]? = some x->Same H1 H->(∀H',Same H H'->f i=none->G H')->(∀y d H',Same H H'->f i=some d->Dat H' y d->F y H')->tc (some x::rest) H fun b H3=>if b=true then te (some x::rest) H3 F else G H3)
 (hd:∀H vs,Same H1 H->H D=some (.lst vs)->aM H vs ((List.range xs.length).filterMap f)->Q (.ref D) H):oH (Wk K a) (jz 0) tc te Q D (none::rest) H1:=by
 refine mY (K:=K) (xs:=xs) (fun i σ H=>(∃v,σ=v::rest)/\Same H1 H /\ ∃vs,H D=some (.lst vs)/\aM H vs ((List.range i).filterMap f)) ⟨⟨none,rfl⟩,aF hD,[],aq,by simp [aM]⟩ (fun i σ H _ ⟨_,sm,_⟩=>sm.sqL _ _ hq) ?_ (fun σ H ⟨_,sm,vs,e,d⟩=>hd H vs sm e d);rintro i x σ H hi ⟨⟨v,rfl⟩,sm,vs,e,d⟩;have hil:i<xs.length:=(List.getElem?_eq_some_iff.mp hi).1;have im:=Cq hf (List.range i);refine hs i x H _ _ hi sm (fun H3 s3 ef=>⟨⟨_,rfl⟩,sm.trans s3,vs,s3 _ _ e, ?_⟩) (fun y dd H4 s4 ef dy=> ?_)
 ·rw [gk,ef]
  simpa using aM.keep s3.tups _ im d
 ·have hl:vs.length<=i:=by rw [d.length];exact vd f i
  have kp:Kp D H4 (upd H4 D (.lst (vs++[y]))):=Kp.set;have tp:=kp.tups (s4 _ _ e);refine ⟨vs,s4 _ _ e, ?_,⟨_,rfl⟩,(sm.trans s4).newly hD,vs++[y],aq, ?_⟩
  ·rw [sizeLine_eq];omega
  ·rw [gk,ef]
   exact Mu (aM.keep (fun a xs h=>tp _ _ (s4.tups _ _ h)) _ im d) (Dat.keep tp _ (hf i dd ef) dy)
end
section
variable {X:Cx}
end
end L2
set_option Elab.async false
set_option linter.all false
set_option maxRecDepth 100000
set_option maxHeartbeats 4000000
namespace L2
open PySem
section
variable {K:PySem.W.Frag} {a D:Addr} {xs:List V} {tc:TT} {te:TE} {Q:VK} {rest:St} {H1:Hp}
end
end L2
set_option Elab.async false
set_option linter.all false
set_option maxRecDepth 100000
set_option maxHeartbeats 4000000
namespace L2
open PySem PySem.Spec PyProof.Rows
theorem dH.Oc {k:Nat} {A:Around} (r:dH k A):A.in1.units+64<cLine:=by have:=r.un;show A.units+1+64<_;omega
section
variable {X:Cx} {K:PySem.W.Frag} {e st:Expr} {te tk:TE} {pos p2:Pos}
end
end L2
set_option Elab.async false
set_option linter.all false
set_option maxRecDepth 100000
set_option maxHeartbeats 4000000
namespace L2
open PySem PySem.Spec PyProof.Rows
section
variable {H:Hp}
mutual
theorem Dat.fn:∀(d e:PyData) {v:V},Dat H v d->Dat H v e->d=e
 | .none,e,v,h,g=>by cases e<;>simp only [Dat] at h g<;>first |rfl|(subst h;first |(obtain ⟨_,_,z,_⟩:=g;cases z;done)|(cases g;done))
 | .bool _,e,v,h,g=>by cases e<;>simp only [Dat] at h g<;>first |(subst h;first |(injection g with g;rw [g];done)|(obtain ⟨_,_,z,_⟩:=g;cases z;done)|(cases g;done))
 | .int _,e,v,h,g=>by cases e<;>simp only [Dat] at h g<;>first |(subst h;first |(injection g with g;rw [g];done)|(obtain ⟨_,_,z,_⟩:=g;cases z;done)|(cases g;done))
 | .str _,e,v,h,g=>by cases e<;>simp only [Dat] at h g<;>first |(subst h;first |(injection g with g;rw [g];done)|(obtain ⟨_,_,z,_⟩:=g;cases z;done)|(cases g;done))
 | .list ds,.list es,v,h,g=>by
   simp only [Dat] at h g;obtain ⟨a,vs,rfl,ha,da⟩:=h;obtain ⟨b,ws,e,hb,db⟩:=g;injection e with e
   subst e;rw [ha] at hb;injection hb with hb
   injection hb with hb
   subst hb;rw [aM.fn ds es da db]
 | .tuple ds,.tuple es,v,h,g=>by
   simp only [Dat] at h g;obtain ⟨a,vs,rfl,ha,da⟩:=h;obtain ⟨b,ws,e,hb,db⟩:=g;injection e with e
   subst e;rw [ha] at hb;injection hb with hb
   injection hb with hb
   subst hb;rw [aM.fn ds es da db]
 | .list ds,.tuple es,v,h,g=>by
   simp only [Dat] at h g;obtain ⟨a,vs,rfl,ha,da⟩:=h;obtain ⟨b,ws,e,hb,db⟩:=g;injection e with e
   subst e;rw [ha] at hb;injection hb with hb
   cases hb
 | .tuple ds,.list es,v,h,g=>by
   simp only [Dat] at h g;obtain ⟨a,vs,rfl,ha,da⟩:=h;obtain ⟨b,ws,e,hb,db⟩:=g;injection e with e
   subst e;rw [ha] at hb;injection hb with hb
   cases hb
 | .list ds,.none,v,h,g=>by simp only [Dat] at h g;obtain ⟨a,vs,rfl,_⟩:=h;cases g
 | .list ds,.bool _,v,h,g=>by simp only [Dat] at h g;obtain ⟨a,vs,rfl,_⟩:=h;cases g
 | .list ds,.int _,v,h,g=>by simp only [Dat] at h g;obtain ⟨a,vs,rfl,_⟩:=h;cases g
 | .list ds,.str _,v,h,g=>by simp only [Dat] at h g;obtain ⟨a,vs,rfl,_⟩:=h;cases g
 | .tuple ds,.none,v,h,g=>by simp only [Dat] at h g;obtain ⟨a,vs,rfl,_⟩:=h;cases g
 | .tuple ds,.bool _,v,h,g=>by simp only [Dat] at h g;obtain ⟨a,vs,rfl,_⟩:=h;cases g
 | .tuple ds,.int _,v,h,g=>by simp only [Dat] at h g;obtain ⟨a,vs,rfl,_⟩:=h;cases g
 | .tuple ds,.str _,v,h,g=>by simp only [Dat] at h g;obtain ⟨a,vs,rfl,_⟩:=h;cases g
 | .list ds,.dict _,v,h,g=>by simp only [Dat] at g
 | .tuple ds,.dict _,v,h,g=>by simp only [Dat] at g
 | .dict _,_,v,h,g=>by simp only [Dat] at h
theorem aM.fn:∀(ds es:List PyData) {vs:List V},aM H vs ds->aM H vs es->ds=es
 | [],[],_,_,_=>rfl
 | d::ds,e::es,v::vs,h,g=>by
   simp only [aM] at h g;rw [Dat.fn d e h.1 g.1,aM.fn ds es h.2 g.2]
 | [],_::_,[],_,g=>by simp only [aM] at g
 | [],_::_,_::_,h,_=>by simp only [aM] at h
 | _::_,[],[],h,_=>by simp only [aM] at h
 | _::_,[],_::_,_,g=>by simp only [aM] at g
 | _::_,_::_,[],h,_=>by simp only [aM] at h
end
end
section
variable {X:Cx}
end
end L2
set_option Elab.async false
set_option linter.all false
set_option maxRecDepth 100000
set_option maxHeartbeats 4000000
namespace L2
open PySem PySem.Spec PyProof.Rows
section
variable {X:Cx} {K:PySem.W.Frag} {e e1 e2 l:Expr} {te t1 t2 tl:TE} {pos:Pos} {tg:Expr}
end
section
variable {X:Cx}
def WY:List V->Hp->VK->Prop:=fun xs H Q=>(∃i:Int,xs=[.int i]/\i.natAbs.log2<1920/\Q (.str (toString i)) H) \/ ∃x:Str,xs=[.str x]/\Q (.str x) H
theorem Ja:iZ X (.type "str") WY:=by
 intro pins s σ H xs us Q I r h;rcases h with h|h
 ·exact eY pins s σ H xs us Q I r h
 ·obtain ⟨x,rfl,q⟩:=h
  obtain ⟨u,rfl,t,rfl⟩:=vals1 r;exact PySem.P.str_of_str ⟨.str _,H,I,⟨_,rfl⟩,q⟩
end
end L2
set_option Elab.async false
set_option linter.all false
set_option maxRecDepth 100000
set_option maxHeartbeats 4000000
namespace L2
open PySem PySem.Spec PyProof.Rows PySem.Builtin PySem.Builtin.Str
section
variable {X:Cx} {K:PySem.W.Frag}
def Its (x:Str):It:=⟨fun i _=>i<x.cps.size,fun i H v H'=>H'=H /\ ∃c,x.cps[i]? = some c/\v = .str ⟨#[c]⟩,fun i _=>x.cps.size<=i⟩
theorem Oi {P:Program} {w:World} {K:PySem.W.Frag} {tg:Expr} (x:Str) (t:Tok) (it:Addr):Turn P w K tg (Its x) [it] it (fun i h=>i<=x.cps.size/\(h.IsStrIter it "str_ascii_iterator" x t i\/h.IsStrIter it "str_iterator" x t i)) where
 mem:=by simp
 obj:=fun i h st b hb=>by
  have e:b=it:=by simpa using hb
  subst e;rcases st.2 with ⟨o,e,c,d⟩|⟨o,e,c,d⟩
  ·exact ⟨o,e,fun v z=>by rw [d] at z;cases z⟩
  ·exact ⟨o,e,fun v z=>by rw [d] at z;cases z⟩
 keep:=fun i h h' st k=>⟨st.1,st.2.imp (fun ⟨o,e,r⟩=>⟨o,k it (by simp) o e,r⟩) (fun ⟨o,e,r⟩=>⟨o,k it (by simp) o e,r⟩)⟩
 item:=by
  intro X hP hw hK hc i pins s σ H E I hf st hg;subst hP hw hK;have hi:i<x.cps.size:=hg;have hx:x.cps[i]? = some x.cps[i]:=by simp [hi]
  obtain ⟨f0,f1,f2,f3,f4,f5⟩:=hf it (by simp);rcases st.2 with st|st
  ·refine wpAny_pyNext_ascii_item st hx fun h' st' sb=> ?_
   have I1:Inv X pins σ H {s with heap:=h',toks:=s.toks+1}:=I.turned (t':=s.toks+1) (fun b o hb e=>(sb.2 b hb).trans e) f0 f1 f3 f4 f5;obtain ⟨o,e,c,d⟩:=id st';exact ⟨_,rfl,yL (s:={s with heap:=h',toks:=s.toks+1}) e c d (by decide) ⟨.str ⟨#[x.cps[i]]⟩,H,I1,⟨_,rfl⟩,⟨rfl,_,hx,rfl⟩,⟨hi,.inl st'⟩,fun b hb=>(hf b hb).1⟩⟩
  ·refine wpAny_pyNext_wide_item st hx fun h' st' sb=> ?_
   have I1:Inv X pins σ H {s with heap:=h',toks:=s.toks+1}:=I.turned (t':=s.toks+1) (fun b o hb e=>(sb.2 b hb).trans e) f0 f1 f3 f4 f5;obtain ⟨o,e,c,d⟩:=id st';exact ⟨_,rfl,yL (s:={s with heap:=h',toks:=s.toks+1}) e c d (by decide) ⟨.str ⟨#[x.cps[i]]⟩,H,I1,⟨_,rfl⟩,⟨rfl,_,hx,rfl⟩,⟨hi,.inr st'⟩,fun b hb=>(hf b hb).1⟩⟩
 done:=by
  intro X hP hw hK hc i pins s σ H E I hf st hg;subst hP hw hK;have hx:x.cps[i]? = none:=by simpa using (show x.cps.size<=i from hg)
  obtain ⟨f0,f1,f2,f3,f4,f5⟩:=hf it (by simp);rcases st.2 with st|st
  ·exact wpAny_pyNext_ascii_end (I.ok.hd hc) st hx fun h' eb=>⟨rfl,I.turned (t':=s.toks) (fun b o hb e=>eb b o hb e) f0 f1 f3 f4 f5⟩
  ·exact wpAny_pyNext_wide_end (I.ok.hd hc) st hx fun h' eb=>⟨rfl,I.turned (t':=s.toks) (fun b o hb e=>eb b o hb e) f0 f1 f3 f4 f5⟩
 self:=fun _ _ _ _ _ st h=>st.2.elim (fun st=>wpAny_pyIter_striter_ascii st h) (fun st=>wpAny_pyIter_striter_wide st h)
def ah_ (tl:TE):TI:=fun σ H R=>tl σ H fun x H1=>∃a,x = .str a/\R (Its a) H1
theorem Xc {tg l:Expr} {tl:TE} (hl:PE X l tl):PI X tg l (ah_ tl):=by
 intro pins s σ H R I h;refine dj (hl pins s σ H _ I h) fun v s1 ⟨x,H1,I1,r1,q1⟩=> ?_;obtain ⟨a,rfl,q⟩:=q1;obtain ⟨t,rfl⟩:=r1
 have fin:∀o,(s1.heap.push o).IsStrIter s1.heap.objs.size "str_ascii_iterator" a t 0\/(s1.heap.push o).IsStrIter s1.heap.objs.size "str_iterator" a t 0->PIE X pins σ tg R (.ref s1.heap.objs.size) {s1 with heap:=s1.heap.push o}:=by
  intro o st;refine ⟨s1.heap.objs.size,[s1.heap.objs.size],_,_,H1,rfl,I1.kept (t':=s1.toks) fun b o e=>Heap.get?_push_of_some _ e,Oi a t _,⟨Nat.zero_le _,st⟩,fun b hb=> ?_,q⟩;have e:b=s1.heap.objs.size:=by simpa using hb
  subst e;exact I1.zZ (Nat.le_refl _) (I1.hok.fresh (Nat.le_refl _))
 cases ha:a.cps.all (· < 128)
 ·exact wpAny_pyIter_wide ha (fin _ (.inr ⟨_,Heap.get?_push_size _ rfl,rfl,rfl⟩))
 ·exact wpAny_pyIter_ascii ha (fin _ (.inl ⟨_,Heap.get?_push_size _ rfl,rfl,rfl⟩))
end
section
variable {K:PySem.W.Frag} {D:Addr} {tc:TT} {te:TE} {Q:VK} {rest:St} {H1:Hp}
theorem MK {x:Str} {g:TG} {σ0:St} (Pv:Nat->St->Hp->Prop) (h0:Pv 0 σ0 (upd H1 D (.lst [])))
 (hs:∀i c σ H,x.cps[i]? = some c->Pv i σ H->g (.str ⟨#[c]⟩) σ H fun σ2 H2=>tc σ2 H2 fun b H3=>
   if b=true then te σ2 H3 fun y H4=>∃acc,H4 D=some (.lst acc)/\acc.length<sizeLine/\Pv (i+1) σ2 (upd H4 D (.lst (acc++[y]))) else Pv (i+1) σ2 H3)
 (hd:∀σ H,Pv x.cps.size σ H->Q (.ref D) H):oH (Its x) g tc te Q D σ0 H1:=by
 refine ⟨fun i m σ H=>m=x.cps.size - i/\i<=x.cps.size/\Pv i σ H,⟨x.cps.size,by simp,Nat.zero_le _,h0⟩, ?_⟩;rintro i m σ H ⟨rfl,hi,p⟩
 by_cases hlt:i<x.cps.size
 ·refine .inr ⟨hlt,Pv (i+1),fun σ' H' p'=>⟨x.cps.size - (i+1),by omega,rfl,hlt,p'⟩,fun y H' e=> ?_⟩
  obtain ⟨e,c,hc,rfl⟩:=e;subst e;exact hs i c σ _ hc p
 ·have e:i=x.cps.size:=by omega
  subst e;exact .inl ⟨Nat.le_refl _,hd σ H p⟩
theorem MJ {x:Str} (f:Nat->Option V) (hD:H1 D=none) (hx:x.cps.size<=100000)
 (hs:∀i c H (G:Hp->Prop) (F:VK),x.cps[i]? = some c->Same H1 H->(∀H',Same H H'->f i=none->G H')->(∀y H',Same H H'->f i=some y->F y H')->tc (some (.str ⟨#[c]⟩)::rest) H fun b H3=>if b=true then te (some (.str ⟨#[c]⟩)::rest) H3 F else G H3)
 (hd:∀H,Same H1 H->H D=some (.lst ((List.range x.cps.size).filterMap f))->Q (.ref D) H):oH (Its x) (jz 0) tc te Q D (none::rest) H1:=by
 refine MK (fun i σ H=>(∃v,σ=v::rest)/\Same H1 H/\H D=some (.lst ((List.range i).filterMap f))) ⟨⟨none,rfl⟩,aF hD,aq⟩ ?_ (fun σ H ⟨_,sm,e⟩=>hd H sm e);rintro i c σ H hi ⟨⟨v,rfl⟩,sm,e⟩;have hil:i<x.cps.size:=(Array.getElem?_eq_some_iff.mp hi).1;refine hs i c H _ _ hi sm (fun H3 s3 ef=>⟨⟨_,rfl⟩,sm.trans s3,by rw [s3 _ _ e,gk,ef];simp⟩) (fun y H4 s4 ef=> ?_);refine ⟨_,s4 _ _ e, ?_,⟨_,rfl⟩,(sm.trans s4).newly hD, ?_⟩
 ·have:=vd f i
  rw [sizeLine_eq];omega
 ·rw [aq,gk,ef];rfl
end
section
variable {X:Cx}
end
end L2
set_option Elab.async false
set_option linter.all false
set_option maxRecDepth 100000
set_option maxHeartbeats 4000000
namespace L2
open PySem PySem.Spec PyProof.Rows PySem.Builtin PySem.Builtin.Str
end L2
set_option Elab.async false
set_option linter.all false
set_option maxRecDepth 100000
set_option maxHeartbeats 4000000
namespace L2
open PySem PySem.Spec PyProof.Rows
section
variable (P:Program) (w:World) (K:PySem.W.Frag) (mg:Str->Option Value) (base:Heap)
def MethAt (k:Nat) (C:Addr) (m:Str) (ps:List Str) (sp:Sp):Prop:=∃f fd,cj P w K mg base gZ k f fd ps sp/\Meth K C m f/\Binds K fd ps []
def mG (k:Nat) (C:Addr) (x:Str) (ps:List Str) (sG:List V) (sp:Sp):Prop:=∃f fd ds,cj P w K mg base gZ k f fd ps sp/\Mk K C f/\mg x=some (.ref C)/\Binds K fd ps ds/\Vals sG ds
end
section
variable {P:Program} {w:World} {K:PySem.W.Frag} {mg:Str->Option Value} {base:Heap} {k:Nat} {C:Addr} {m x:Str} {ps:List Str} {sp:Sp} {sG:List V}
end
section
variable {X:Cx} {k:Nat} {C:Addr} {x m:Str} {ps:List Str} {sp:Sp} {sG:List V} {e o:Expr} {es:List Expr} {ta:TE} {t:TA} {p pos apos:Pos} {E:St->XK}
theorem tO {pl:Sem Bool} (M:MethAt X.prog X.w X.K X.mg X.base k C m ps sp) (c:Cls X.K C) (hr:dH k X.A) (he:PE X o ta) (ha:PA X (e::es) t)
 (hst:starEach (e::es) X.env=(false,eval e X.env)::starEach es X.env:=by rfl) (hpl:(backTo pos (starEach es X.env)).any (·.1)=false:=by rfl)
 (ht:eval (.Call (.Attribute o m apos) (e::es) [] pos) X.env=(do
   let ov ←eval o X.env
   standAt apos.atName
   let (f,first) ←holding [ov] (getMethod ov m pl)
   callWith pos f first (backTo pos (starEach (e::es) X.env)) (backToKw pos (keywordEach [] X.env))):=by rfl):
 PE X (.Call (.Attribute o m apos) (e::es) [] pos) (Jv C m sp [] E0 ta t):=by
 obtain ⟨f,fd,G,hm,hb⟩:=M;exact Tw he c hm G hr hb .nil Ai ha hst hpl ht
theorem d8 {pl:Sem Bool} (M:MethAt X.prog X.w X.K X.mg X.base k C m ps sp) (c:Cls X.K C) (hr:dH k X.A) (he:PE X o ta)
 (ht:eval (.Call (.Attribute o m apos) [] [] pos) X.env=(do
   let ov ←eval o X.env
   standAt apos.atName
   let (f,first) ←holding [ov] (getMethod ov m pl)
   callWith pos f first (backTo pos (starEach [] X.env)) (backToKw pos (keywordEach [] X.env))):=by rfl):
 PE X (.Call (.Attribute o m apos) [] [] pos) (Jv C m sp [] E0 ta Bl):=by
 obtain ⟨f,fd,G,hm,hb⟩:=M;exact Pq he c hm G hr hb .nil Ai ht
theorem pF (M:mG X.prog X.w X.K X.mg X.base k C x ps sG sp) (hr:dH (k+1) X.A) (hg:Gl X x) (ha:PA X (e::es) t) (hdb:(x==("__debug__" :Str))=false:=by decide)
 (he:starEach (e::es) X.env=(false,eval e X.env)::starEach es X.env:=by rfl) (hpl:(backTo pos (starEach es X.env)).any (·.1)=false:=by rfl):
 PE X (.Call (.Name x p) (e::es) [] pos) (VD C sp sG E0 t):=by
 obtain ⟨f,fd,ds,G,mk,hm,hb,hd⟩:=M;exact Tz mk G hr hg hm hb hd Ai ha hdb he hpl
end
end L2
namespace L2
open PySem PySem.Spec PyProof.Rows PySem.Builtin PySem.Builtin.Str
section
variable {X:Cx} {K:PySem.W.Frag} {o e value:Expr} {f:Str} {pos pos' tpos:Pos} {ta tv:TE}
theorem bI (hK:X.K=K) (he:PE X e ta) (hb:attributeBase e f X.env (eval e X.env)=eval e X.env):PE X (.Attribute e f pos) (Wt K ta f):=by subst hK;exact Xf he hb
theorem dF (hK:X.K=K) (ha:PE X o ta) (hv:PE X value tv) (hs:swapsWith value (some (.Attribute o f pos')) pos.line X.env=pure false):PS X (.Assign [.Attribute o f pos'] value pos) (Z1 K ta tv f):=by subst hK;exact W8 ha hv hs
end
structure Vt (K:PySem.W.Frag) (x qual:Str) (st:Stmt) (ds:List Value) (f:Addr) (fd:FuncData):Prop where
 ex:∃(oc:Value) (od:Option Addr) (T:Addr) (kV doc pm:Value) (an:Option Addr) (cdv ct:Value) (osl:Array (Option Value)) (tc:Value) (td:Option Addr) (tn:Nat) (Zh:Array (Option Value)),
  fd=PySem.W.fnOf x qual (aL st) (aK st) (aC st) (.ref T) kV doc pm an cdv ct/\K.lookup f=some ⟨oc,od,.func fd,osl⟩/\PySem.W.codeIn K cdv qual=true/\K.lookup T=some ⟨tc,td,.seq ds.toArray tn,Zh⟩
 kp:PySem.W.keepIn K (.ref f)=true
section
variable {P:Program} {w:World} {K:PySem.W.Frag} {mg:Str->Option Value} {base:Heap}
end
section
variable {X:Cx} {k:Nat} {C:Addr} {x kn:Str} {ps:List Str} {sp:Sp} {e ke:Expr} {es:List Expr} {te:TE} {t:TA} {p pos kpos:Pos} {E:St->XK}
end
end L2
set_option Elab.async false
set_option linter.all false
set_option maxRecDepth 100000
set_option maxHeartbeats 4000000
namespace L2
open PySem PySem.Spec PyProof.Rows
theorem Ej {xc:Str}:∀(pre post:List (Str×NameKind)) (n:Nat) (acc:List (Str×Addr)) (h:Heap),(∀y∈pre++post,y.2 ≠ .cell) ->
 cellsFrom n (pre++(xc,.cell)::post) acc=(xc,n)::acc/\pushCells h (pre++(xc,.cell)::post)=h.push {cls:= .type "cell",data:= .cell none}
 | (m,k)::pre,post,n,acc,h,hn=>by
   have hk:(k==NameKind.cell)=false:=by simpa using hn (m,k) (by simp)
   have ih:=Ej (xc:=xc) pre post n acc h fun y hy=>hn y (by simp only [List.cons_append,List.mem_cons];exact .inr hy);rw [List.cons_append];unfold cellsFrom pushCells;simp only [hk,Bool.false_eq_true,if_false];exact ih
 | [],post,n,acc,h,hn=>by
   have Ls:∀(post:List (Str×NameKind)) (n:Nat) (acc:List (Str×Addr)) (h:Heap),(∀y∈post,y.2 ≠ .cell)->cellsFrom n post acc=acc/\pushCells h post=h:=by
    intro post
    induction post with
    | nil=>intro n acc h _;exact ⟨rfl,rfl⟩
    | cons y r ih=>
      intro n acc h hh;obtain ⟨m,k⟩:=y;have hk:(k==NameKind.cell)=false:=by simpa using hh (m,k) (by simp)
      unfold cellsFrom pushCells;simp only [hk,Bool.false_eq_true,if_false];exact ih n acc h fun y hy=>hh y (List.mem_cons_of_mem _ hy)
   rw [List.nil_append];unfold cellsFrom pushCells;simp only [beq_self_eq_true,if_true];exact Ls post (n+1) ((xc,n)::acc) _ fun y hy=>hn y (by simpa using hy)
structure bR (N own:List Str) (caps:List Nat) (XN:List Str) (outer scope:Scope) (xc:Str):Prop where
 kind:scope.kind = .function
 one:∃pre post,scope.names=pre++(xc,.cell)::post /\ ∀y∈pre++post,y.2 ≠ .cell
 xcl:scope.names.lookup xc=some .cell
 nof:(xc,NameKind.free)∉scope.names
 names:∀y∈scope.names,y.2 = .local->scope.names.lookup y.1=some .local
 free:∀y∈scope.names,y.2 = .free->outer.names.lookup y.1=some .cell\/outer.names.lookup y.1=some .free
 nd:N.Nodup
 len:N.length=own.length+caps.length
 cap:∀(j:Nat),j<caps.length->N[own.length+j]? = XN[caps.getD j 0]? /\ ∃x,N[own.length+j]? = some x/\(x,NameKind.free)∈scope.names/\scope.names.lookup x=some .free
def fu (X:Cx) (scope:Scope) (xc:Str) (C:Addr) (N:List Str) (s:Shared) (H:Hp) (fp:List Addr):Cx:=
 {X with N:=N,s₀:=s,H₀:=H,env:=compEnvC scope ((xc,Nat.succ C)::lE X.env scope.names []) C X.env,outer:=X.stack,ex:=fp,fn:=fun y=>decide (y=xc),pn:=[],xe:=fun _ _=>False}
section
variable {X:Cx} {pins:List (Addr×Obj)} {σ:St} {H:Hp} {s:Shared} {scope:Scope} {N own:List Str} {caps:List Nat} {fp:List Addr} {C:Nat} {xc:Str}
theorem bR.yW (S:bR N own caps X.N X.env.scope scope xc) (ok:X.Ok):∀y∈scope.names,y.2 = .free->(X.env.cells.lookup y.1).isSome=true:=fun y hy hf=>by
 obtain ⟨c,e⟩:=ok.has y.1 (S.free y hy hf);rw [e];rfl
theorem bR.csub (S:bR N own caps X.N X.env.scope scope xc) (ok:X.Ok) {x:Str} {c:Addr} (h:(lE X.env scope.names []).lookup x=some c):X.env.cells.lookup x=some c:=by
 rw [fG _ _ _ (S.yW ok)] at h;split at h
 ·exact h
 ·simp at h
theorem bR.look (S:bR N own caps X.N X.env.scope scope xc) (ok:X.Ok) {x:Str} {c:Addr} (h:((xc,Nat.succ C)::lE X.env scope.names []).lookup x=some c):(x=xc/\c=Nat.succ C)\/(x≠xc/\X.env.cells.lookup x=some c):=by
 rw [List.lookup_cons] at h;cases q:x==xc with
 | true=>rw [q] at h;exact .inl ⟨by simpa using q,(Option.some.inj h).symm⟩
 | false=>rw [q] at h;exact .inr ⟨by simpa using q,S.csub ok h⟩
theorem bR.abj (S:bR N own caps X.N X.env.scope scope xc) {x:Str} (h:(x,NameKind.cell)∈scope.names):x=xc:=by
 obtain ⟨pre,post,e,no⟩:=S.one;rw [e] at h;rcases List.mem_append.mp h with h|h
 ·exact absurd rfl (no _ (List.mem_append_left _ h))
 ·rcases List.mem_cons.mp h with h|h
  ·exact congrArg Prod.fst h
  ·exact absurd rfl (no _ (List.mem_append_right _ h))
theorem bR.yE {S:bR N own caps X.N X.env.scope scope xc} {x:Str} (h:(relabel scope X.env).names.lookup x=some .cell\/(relabel scope X.env).names.lookup x=some .free):x=xc\/(x,NameKind.free)∈scope.names:=by
 have e:=gC X.env scope.names x;have e':(relabel scope X.env).names.lookup x=(scope.names.lookup x).map fun k=>if (k == .free&&X.env.scope.kind == .function&&X.env.kindOf x==some .cell)=true then NameKind.cell else k:=e;rw [e'] at h;cases q:scope.names.lookup x with
 | none=>rw [q] at h;simp at h
 | some k=>
   have hm:=PySem.mem_of_lookup q
   by_cases hk:k = .free
   ·subst hk;exact .inr hm
   ·rw [q] at h
    have hb:(k==NameKind.free)=false:=by simpa using hk
    simp only [Option.map_some,hb,Bool.false_and,Bool.false_eq_true,if_false] at h;rcases h with h|h
    ·have hc:=Option.some.inj h
     subst hc;exact .inl (S.abj hm)
    ·exact absurd (Option.some.inj h) hk
theorem Inv.abh {h1:Heap} {D:Nat} (I:Inv X pins σ H s) (S:bR N own caps X.N X.env.scope scope xc) (hfp:∀b∈fp,ou X pins H b) (hfo:∀b∈fp,∃o,s.heap.get? b=some o)
 (hD:D=s.heap.objs.size) (hC:C=s.heap.objs.size+1) (old:∀b o,s.heap.get? b=some o->h1.get? b=some o) (hns:h1.Ns C (fun _=>none)) (hl:h1.get? D=some {cls:= .type "list",data:= .seq #[]}) (hce:h1.IsCell (Nat.succ C) none) {t:Nat}:
 Inv (fu X scope xc C N s H fp) [] (st0 own caps σ) (upd H D (.lst [])) {s with heap:=h1,toks:=t}:=by
 have some':=S.yW I.ok;have look:∀{x c},((xc,Nat.succ C)::lE X.env scope.names []).lookup x=some c->(x=xc/\c=Nat.succ C)\/(x≠xc/\X.env.cells.lookup x=some c):=fun h=>S.look I.ok h;have freshD:H D=none:=I.hok.fresh (by rw [hD];exact Nat.le_refl _);have Iz:H C=none:=I.hok.fresh (by rw [hC];exact Nat.le_succ _);have Yy:H (Nat.succ C)=none:=I.hok.fresh (by show s.heap.objs.size<=Nat.succ C;omega)
 have yZ:∀x c,X.env.cells.lookup x=some c->c<s.heap.objs.size:=fun x c e=>by
  obtain ⟨v,z⟩:=I.cell x c e;exact z.lt
 have U7:∀b∈fp,b<s.heap.objs.size:=fun b hb=>by
  obtain ⟨o,e⟩:=hfo b hb;exact Heap.lt_size e
 have DC:D≠C:=by omega
 refine ⟨⟨I.ok.mod,S.kind,I.ok.glob,I.ok.blt,by show s.heap.objs.size<=C;omega,fun x y c e1 e2=> ?inj,fun x h=> ?_,fun x c h e=> ?cab,I.ok.hd,I.ok.frames,Or.inl rfl,fun b hb=>⟨?_,fun x c e=> ?_⟩,I.bs,Nat.le_trans I.ok.M5 I.sz,fun b o e hb=> ?_,fun b hb z=> ?_,I.stack,I.Bm⟩,
  rfl,I.bare,Un.laid old (by show s.heap.objs.size<=D;omega) freshD,⟨_,hns,fun j x v e1 e2 e3=> ?_⟩,fun x c e=> ?_, ?_,fun x c e=> ?_,fun p hp=> ?_,I.hok.laid old (by omega) ?_, ?_⟩
 case inj=>
  rcases look e1 with ⟨a1,a2⟩|⟨a1,a2⟩
  ·rcases look e2 with ⟨b1,b2⟩|⟨b1,b2⟩
   ·exact a1.trans b1.symm
   ·have:=lQ (yZ y c b2);omega
  ·rcases look e2 with ⟨b1,b2⟩|⟨b1,b2⟩
   ·have:=lQ (yZ x c a2);omega
   ·exact I.ok.inj x y c a2 b2
 case cab=>
  rcases look e with ⟨a1,a2⟩|⟨a1,a2⟩
  ·show s.heap.objs.size<=c;omega
  ·exact absurd (of_decide_eq_true h) a1
 ·show ∃c,((xc,Nat.succ C)::lE X.env scope.names []).lookup x=some c
  by_cases ex:x=xc
  ·subst ex;exact ⟨Nat.succ C,by simp [List.lookup_cons]⟩
  ·have hm:=(bR.yE (S:=S) (X:=X) h).resolve_left ex
   obtain ⟨c,e⟩:=Option.isSome_iff_exists.mp (some' _ hm rfl);have q:(x==xc)=false:=by simpa using ex
   exact ⟨c,by rw [List.lookup_cons,q,fG _ _ _ some',if_pos hm];exact e⟩
 ·exact Nat.ne_of_lt (show @LT.lt Nat _ b C by have:=lQ (U7 b hb);omega)
 ·rcases look e with ⟨a1,a2⟩|⟨a1,a2⟩
  ·have:=lQ (U7 b hb)
   subst a2;exact Nat.ne_of_gt (show @LT.lt Nat _ b (Nat.succ C) by omega)
  ·exact (hfp b hb).2.2.2.2.1 x c a2
 ·rcases (hfp b hb).2.2.2.1 with z|z
  ·exact I.ok.Lw b o e z
  ·exact absurd (Nat.lt_of_lt_of_le (Heap.lt_size e) (Nat.le_trans I.ok.M5 z)) (Nat.lt_irrefl _)
 ·rcases List.mem_cons.mp (I.uH b z) with q|q
  ·exact (hfp b hb).2.1 q
  ·exact (hfp b hb).2.2.1 q
 ·have e1:N[j]? = some x:=e1
  have hj:own.length<=j:=by
   by_cases q:own.length<=j
   ·exact q
   ·exfalso
    unfold st0 at e2;rw [List.getElem?_append_left (by simp;omega),List.getElem?_map] at e2;cases r:own[j]? with
    | none=>rw [r] at e2;cases e2
    | some a=>rw [r] at e2;cases e2
  have hjl:j<N.length:=(List.getElem?_eq_some_iff.mp e1).1;have hjc:j - own.length<caps.length:=by have:=S.len;omega
  obtain ⟨c1,x',c2,c3,c4⟩:=S.cap (j - own.length) hjc;rw [show own.length+(j - own.length)=j by omega] at c1 c2;rw [e1] at c2;cases c2
  have e2':(σ[caps.getD (j - own.length) 0]?).join=some v:=by
   unfold st0 at e2;rw [List.getElem?_append_right (by simp;omega),List.getElem?_map,List.length_map] at e2;rw [List.getD_eq_getElem?_getD];cases r:caps[j - own.length]? with
   | none=>rw [r] at e2;cases e2
   | some a=>rw [r] at e2;exact Option.some.inj e2
  have YQ:σ[caps.getD (j - own.length) 0]? = some (some v):=by
   cases r:σ[caps.getD (j - own.length) 0]? with
   | none=>rw [r] at e2';cases e2'
   | some a=>rw [r] at e2';exact congrArg Option.some e2'
  have kx:X.env.kindOf x=some .cell\/X.env.kindOf x=some .free:=S.free _ c3 rfl;obtain ⟨m,hn,hl'⟩:=I.loc;obtain ⟨u,r,l⟩:=hl' _ x v (by rw [←c1];exact e1) YQ (by rcases kx with z|z;exact .inr (.inl z);exact .inr (.inr z));refine ⟨u,r,.inr ⟨?_, ?_⟩⟩
  ·show (relabel scope X.env).names.lookup x=some .cell\/(relabel scope X.env).names.lookup x=some .free
   have e:(relabel scope X.env).names.lookup x=(scope.names.lookup x).map fun k=>if (k == .free&&X.env.scope.kind == .function&&X.env.kindOf x==some .cell)=true then NameKind.cell else k:=gC X.env scope.names x;rw [e,c4,Option.map_some];split
   ·exact .inl rfl
   ·exact .inr rfl
  ·rcases l with ⟨hk,_⟩|⟨_,c,hc,z⟩
   ·rcases kx with q|q<;>rw [hk] at q<;>cases q
   ·refine ⟨c, ?_, ?_⟩
    ·show ((xc,Nat.succ C)::lE X.env scope.names []).lookup x=_
     have nx:x≠xc:=fun z=>S.nof (z▸c3);have q:(x==xc)=false:=by simpa using nx
     rw [List.lookup_cons,q,fG _ _ _ some',if_pos c3];exact hc
    ·obtain ⟨o,ho,hd⟩:=z
     exact ⟨o,old c o ho,hd⟩
 ·rcases look e with ⟨a1,a2⟩|⟨a1,a2⟩
  ·subst a2;exact ⟨none,hce⟩
  ·obtain ⟨v,o,ho,hd⟩:=I.cell x c a2
   exact ⟨v,o,old c o ho,hd⟩
 ·show upd H D (.lst []) C=none
  rw [aO DC.symm];exact Iz
 ·show upd H D (.lst []) c=none
  rcases look e with ⟨a1,a2⟩|⟨a1,a2⟩
  ·subst a2
   rw [aO (show Nat.succ C≠D by omega)];exact Yy
  ·rw [aO (Nat.ne_of_lt (by have:=lQ (yZ x c a2);omega))];exact I.mV x c a2
 ·cases hp
 ·exact ⟨Nat.zero_le _,[],0,.nil,hl⟩
 ·show (own.map (fun _=>none)++caps.map _).length=N.length
  rw [List.length_append,List.length_map,List.length_map,S.len]
theorem Inv.Jq {Ag:List (Addr×Obj)} {σ':St} {H':Hp} {s':Shared} {h':Heap} (I:Inv X pins σ H s) (hfp:∀b∈fp,ou X pins H b) (hC:s.heap.objs.size<=C) (J:Inv (fu X scope xc C N s H fp) Ag σ' H' s') (hs:Heap.SameBut C s'.heap h'):
 Inv X pins σ H' {s' with heap:=h'}:=by
 have nC:∀b o,s.heap.get? b=some o->b≠C:=fun b o e=>Nat.ne_of_lt (by have:=lQ (Heap.lt_size e);omega);have u:=J.base;have frC:H' C=none:=J.free;refine I.call' (ch:=fp) (s':={s' with heap:=h'}) J.os ⟨fun b o e n hb hx=> ?_,fun b o e n hb hx=> ?_,u.free,fun b o e hx=> ?_,u.tups,u.u_,u.xG⟩ (fun a o e=>(J.hok a o e).stay (fun b v hb q=> ?_) (fun _ q=>q) fun _ _ q=>q) J.bare fun b hb=> ?_
 ·exact (hs.2 b (nC b o e)).trans (u.keep b o e n hb hx)
 ·obtain ⟨sl,q⟩:=u.slot b o e n hb hx
  exact ⟨sl,(hs.2 b (nC b o e)).trans q⟩
 ·obtain ⟨o',q⟩:=u.there b o e hx
  exact ⟨o',(hs.2 b (nC b o e)).trans q⟩
 ·refine (hs.2 b ?_).trans q
  intro z;subst z;rcases hb with z|z
  ·subst z;rw [frC] at e;cases e
  ·rw [frC] at z;cases z
 ·exact ⟨(hfp b hb).2.2.2.1,(hfp b hb).2.1,(hfp b hb).2.2.2.2.1,(hfp b hb).2.2.2.2.2⟩
end
section
variable {M:Model} {A:Around} {E:Value->Shared->Prop} {s:Shared}
theorem Ia {scope:Scope} {globals:Addr} {cl:List (Str×Addr)} {qual:Str} {env:Env} {xc:Str} {Q:Env->Shared->Prop} (one:∃pre post,scope.names=pre++(xc,.cell)::post /\ ∀y∈pre++post,y.2 ≠ .cell)
 (h:Q (newEnv scope s.heap.objs.size globals ((xc,Nat.succ s.heap.objs.size)::cl) qual none .none (some env) builtinsNs) {s with heap:=(s.heap.push {cls:= .type "dict",data:= .dict #[]}).push {cls:= .type "cell",data:= .cell none}}):
 wpAny M A (newFunctionEnv scope globals cl [] qual none .none (some env)) Q E s:=by
 obtain ⟨pre,post,e,no⟩:=one;simp only [newFunctionEnv,Option.isSome_some,if_true];refine wpAny_bind (wpAny_alloc ?_);refine wpAny_bind (wpAny_layCells _ (fun name kind cells=>by cases hkc:kind==NameKind.cell<;>simp [hkc]) _ _ _ _ ?_);rw [e];have sz:(s.heap.push {cls:= .type "dict",data:= .dict #[]}).objs.size=Nat.succ s.heap.objs.size:=Heap.size_push ..;obtain ⟨e1,e2⟩:=Ej (xc:=xc) pre post (s.heap.push {cls:= .type "dict",data:= .dict #[]}).objs.size cl (s.heap.push {cls:= .type "dict",data:= .dict #[]}) no;show wpAny M A _ Q E _;dsimp only;rw [e1,e2,sz];rw [List.forIn_nil];exact wpAny_bind (wpAny_pure (wpAny_pure h))
end
section
variable {X:Cx} {elt tg iter:Expr} {ifs:List Expr} {scope:Scope} {pos:Pos} {N own:List Str} {caps:List Nat} {wi:TI} {g:TG} {tc:TT} {te:TE} {xc:Str}
theorem MN {use:Option (Value->Sem Unit)} {Qv:Value->Shared->Prop} {pins:List (Addr×Obj)} {σ:St} {H:Hp} {s:Shared} {Q:VK} (hc:X.calm=true) (S:bR N own caps X.N X.env.scope scope xc)
 (hg:∀C s H fp,PG (fu X scope xc C N s H fp) tg g) (hcs:∀C s H fp,Y8 (fu X scope xc C N s H fp) ifs tc) (he:∀C s H fp,PE (fu X scope xc C N s H fp) elt te)
 (hi:PI X tg iter wi) (hs:∀x,foldedSetIterable iter X.env x=pure x)
 (I:Inv X pins σ H s) (h:Ac own caps wi g tc te σ H Q)
 (fin:∀(D C:Addr) (H':Hp) (s':Shared),(∃m,s'.heap.Ns C m)->Inv X pins σ H' s'->(∀h',Heap.SameBut C s'.heap h'->Inv X pins σ H' {s' with heap:=h'})->ou X pins H' C->Q (.ref D) H' ->
   compPost (model X.prog X.w) X.A X.xe use Qv (.ref D) C (.ok .next) s'):
 wpAny (model X.prog X.w) X.A (comprehension (.ListComp elt [⟨tg,iter,ifs,0⟩] scope pos) scope X.env (firstIterPos [⟨tg,iter,ifs,0⟩] pos) (newList []) false (eval iter X.env) use) Qv X.xe s:=by
 refine wpAny_comprehension_free (use:=use) rfl hs (yX (S.yW I.ok)) S.kind S.names (dj (hi pins s σ H _ I h) fun xv s1 h1=>dj h1 fun itv s2 h2=> ?_);obtain ⟨it,fp,tn,J,H2,e,I2,T,st2,f2,q2⟩:=h2;subst e;refine wpAny_newList ?_;refine Ia S.one ?_;have hD:H2 s2.heap.objs.size=none:=I2.hok.fresh (Nat.le_refl _);have hsz:(s2.heap.push {cls:= .type "list",data:= .seq ([]:List Value).toArray}).objs.size=s2.heap.objs.size+1:=Heap.size_push ..;obtain ⟨h1,hh1⟩:∃h1,h1=((s2.heap.push {cls:= .type "list",data:= .seq ([]:List Value).toArray}).push {cls:= .type "dict",data:= .dict #[]}).push {cls:= .type "cell",data:= .cell none}:=⟨_,rfl⟩
 have old:∀b o,s2.heap.get? b=some o->h1.get? b=some o:=fun b o e=>by
  rw [hh1];exact Heap.get?_push_of_some _ (Heap.get?_push_of_some _ (Heap.get?_push_of_some _ e))
 have hl:h1.get? s2.heap.objs.size=some {cls:= .type "list",data:= .seq #[]}:=by
  rw [hh1];exact Heap.get?_push_of_some _ (Heap.get?_push_of_some _ (Heap.get?_push_size _ rfl))
 have U0:h1.Ns (s2.heap.push {cls:= .type "list",data:= .seq ([]:List Value).toArray}).objs.size (fun _=>none):=by
  rw [hh1];exact (Heap.Ns.new _ (.type "dict")).keeps fun b o e=>Heap.get?_push_of_some _ e
 have hce:h1.IsCell (Nat.succ (s2.heap.push {cls:= .type "list",data:= .seq ([]:List Value).toArray}).objs.size) none:=by
  rw [hh1];refine ⟨{cls:= .type "cell",data:= .cell none}, ?_,rfl⟩;have e:Nat.succ (s2.heap.push {cls:= .type "list",data:= .seq ([]:List Value).toArray}).objs.size=((s2.heap.push {cls:= .type "list",data:= .seq ([]:List Value).toArray}).push {cls:= .type "dict",data:= .dict #[]}).objs.size:=(Heap.size_push ..).symm;rw [e];exact Heap.get?_push_size _ rfl
 rw [←hh1];have hfo:∀b∈fp,∃o,s2.heap.get? b=some o:=fun b hb=>let ⟨o,e,_⟩:=T.obj _ _ st2 b hb;⟨o,e⟩
 have I4:=Inv.abh (C:=(s2.heap.push {cls:= .type "list",data:= .seq ([]:List Value).toArray}).objs.size) (t:=s2.toks) I2 S f2 hfo rfl hsz old U0 hl hce;obtain ⟨W,⟨m0,w0⟩,turn⟩:=q2 _ hD;generalize hCe:(s2.heap.push {cls:= .type "list",data:= .seq ([]:List Value).toArray}).objs.size=C at *;generalize hDe:s2.heap.objs.size=D at *;have hDC:D≠C:=by omega
 have loop:∀s3:Shared,s3={s2 with heap:=h1} ->
  codeAny (model X.prog X.w) X.A (.compLoop (.ListComp elt [⟨tg,iter,ifs,0⟩] scope pos) 0 (.ref it) (.ref D) (fu X scope xc C N s2 H2 fp).env) (compPost (model X.prog X.w) X.A X.xe use Qv (.ref D) C) s3:=by
  rintro s3 rfl
  have oF:∀b∈fp,(upd H2 D (.lst [])) b=none:=fun b hb=>by
   obtain ⟨o,e⟩:=hfo b hb;rw [aO (Nat.ne_of_lt (by have:=lQ (Heap.lt_size e);omega))];exact (f2 b hb).1
  have stat:∀{H':Hp},(∀b∈fp,H' b=none) -> ∀b∈fp,ou (fu X scope xc C N s2 H2 fp) [] H' b:=fun hn b hb=>by
   obtain ⟨o,e⟩:=hfo b hb;have hlt:=lQ (Heap.lt_size e);refine ⟨hn b hb, ?_,fun z=> ?_,.inl hb,fun x c e'=> ?_,fun p hp=>(by cases hp)⟩
   ·exact Nat.ne_of_lt (show @LT.lt Nat _ b C by omega)
   ·rcases List.mem_cons.mp (I2.uH b z) with q|q
    ·exact (f2 b hb).2.1 q
    ·exact (f2 b hb).2.2.1 q
   ·rcases S.look (C:=C) I2.ok e' with ⟨_,a2⟩|⟨_,a2⟩
    ·subst a2
     exact Nat.ne_of_gt (show @LT.lt Nat _ b (Nat.succ C) by omega)
    ·exact (f2 b hb).2.2.2.2.1 x c a2
  refine t_ (fun n s'=>∃i σ' H',Inv (fu X scope xc C N s2 H2 fp) [] σ' H' s'/\tn i s'.heap/\(∀b∈fp,H' b=none)/\W i n σ' H') ?_ m0
   ⟨0,_,_,I4,T.keep _ _ _ st2 fun b _ o e=>old b o e,oF,w0⟩
  rintro n s3 ⟨i,σ3,H3,I3,st3,V9,w3⟩;rcases turn i n σ3 H3 w3 with ⟨stop,qn⟩|⟨go,Nx,hNx,step⟩
  ·refine dj (T.done (fu X scope xc C N s2 H2 fp) rfl rfl rfl hc i [] s3 σ3 H3 _ I3 (stat V9) st3 stop) fun r s4 ⟨hr,J4⟩=> ?_
   subst hr;obtain ⟨m4,Fy,_⟩:=J4.loc;exact fin D C H3 s4 ⟨m4,Fy⟩ (I2.Jq f2 (by omega) J4 (Heap.SameBut.refl _ _)) (fun h' hs'=>I2.Jq f2 (by omega) J4 hs') (I2.zZ (show s2.heap.objs.size<=C by omega) J4.free) qn
  ·refine dj (T.item (fu X scope xc C N s2 H2 fp) rfl rfl rfl hc i [] s3 σ3 H3 _ I3 (stat V9) st3 go) fun r s4 ⟨u,hr,h4⟩=> ?_
   subst hr;refine dj h4 fun _ s5 ⟨x,H5,I5,r5,y5,zN,R_⟩=> ?_;have I5':=I5.pinned (stat R_) (T.obj _ _ zN);refine dj (hg C s2 H2 fp _ s5 σ3 H5 x u _ I5' r5 (step x H5 y5)) fun _ s6 ⟨σ6,H6,I6,q6⟩=> ?_;refine dj (hcs C s2 H2 fp _ s6 σ6 H6 _ I6 q6) fun ok s7 ⟨H7,I7,q7⟩=> ?_
   have again:∀{σ8:St} {H8:Hp} {s8:Shared},Inv (fu X scope xc C N s2 H2 fp) ([]++uQ fp s5.heap) σ8 H8 s8->Nx σ8 H8 -> ∃m,m<n /\ ∃i σ' H',Inv (fu X scope xc C N s2 H2 fp) [] σ' H' s8/\tn i s8.heap/\(∀b∈fp,H' b=none)/\W i m σ' H':=fun {σ8 H8 s8} I8 n8=>by
    obtain ⟨m',hm,w8⟩:=hNx _ _ n8;refine ⟨m',hm,i+1,σ8,H8,I8.oW,T.keep _ _ _ zN fun b hb o e=>(I8.pin (b,o) (List.mem_append_right _ (List.mem_append_right _ (jh hb e)))).1,fun b hb=> ?_,w8⟩;obtain ⟨o,e,d⟩:=T.obj _ _ zN b hb;exact (I8.pin (b,o) (List.mem_append_right _ (List.mem_append_right _ (jh hb e)))).2.1
   cases ok with
   | false=>
     rw [if_neg (by decide)] at q7;exact again I7 q7
   | true=>
     rw [if_pos rfl] at q7;refine dj (he C s2 H2 fp _ s7 σ6 H7 _ I7 q7) fun y s8 ⟨yv,H8,I8,r8,acc,ha,hlen,q8⟩=> ?_;exact dj (uV _ s8 σ6 H8 (.ref D) [yv] (.ref D) [y] (fun v H9=>Nx σ6 H9) I8 rfl (.cons r8 .nil) ⟨D,acc,yv,rfl,rfl,ha,hlen,q8⟩) fun _ s9 ⟨_,H9,I9,_,q9⟩=>again I9 q9
 exact codeAny_compStart_list (loop _ rfl) (T.self _ 0 _ _ _ (T.keep _ _ _ st2 fun b _ o e=>old b o e) (loop _ rfl))
theorem DY {i:Nat} {x:Str} {px sp:Pos} (hc:X.calm=true) (hN:X.N.Nodup) (hx:X.N[i]? = some x) (hl:Loc X.env.scope x) (S:bR N own caps X.N X.env.scope scope xc) (hi:PI X tg iter wi)
 (hg:∀C s H fp,PG (fu X scope xc C N s H fp) tg g) (hcs:∀C s H fp,Y8 (fu X scope xc C N s H fp) ifs tc) (he:∀C s H fp,PE (fu X scope xc C N s H fp) elt te)
 (hsw:swapsWith (.ListComp elt [⟨tg,iter,ifs,0⟩] scope pos) (some (.Name x px)) sp.line X.env=pure true:=by rfl)
 (hs:∀x,foldedSetIterable iter X.env x=pure x:=by intro _;rfl) (hf:X.fn x=true\/X.env.scope.names.lookup x=some .local:=by first |exact .inl rfl|exact .inr rfl|assumption):
 PS X (.Assign [.Name x px] (.ListComp elt [⟨tg,iter,ifs,0⟩] scope pos) sp) (SJ (Ac own caps wi g tc te) (jz i)):=by
 intro pins s σ H D I h;rw [exec_Assign_Name_used _ _ _ _ hsw];refine wpAny_bind (wpAny_standAt (wpAny_bind ?_));show wpAny _ X.A (do let _ ←comprehension (.ListComp elt [⟨tg,iter,ifs,0⟩] scope pos) scope X.env (firstIterPos [⟨tg,iter,ifs,0⟩] pos) (newList []) false (eval iter X.env) (some (assign (.Name x px) X.env))) _ _ s;refine wpAny_bind (wpAny_mono (MN (use:=some (assign (.Name x px) X.env)) (Qv:=fun _ s'=>SP X pins D .next s') hc S hg hcs he hi hs I h ?_) (fun _ s' hq=>wpAny_pure (wpAny_pure hq)) fun _ _ e=>e);intro E C H' s' hn I' hk fC q;obtain ⟨m,hn⟩:=hn;obtain ⟨f0,f1,f2,f3,f4,f5⟩:=fC;show wpAny _ X.A (assign (.Name x px) X.env (.ref E)) _ _ _;refine wpAny_assign_Name (uG I' hN hx hl (v:= .ref E) rfl (fun s2 I2 k=> ?_) hf);refine ⟨m, ?_,fun h' hs'=> ?_⟩
 ·obtain ⟨o,es,ep,ho,r⟩:=hn
  obtain ⟨a,ks,ka⟩:=k
  have hCa:C≠a:=fun z=>by
   rcases ka with q'|q'
   ·exact f1 (z.trans q')
   ·exact f4 x a q' z.symm
  exact ⟨o,es,ep,(ks.2 C hCa).trans ho,r⟩
 ·exact ⟨_,H',I2.turned (t':=s2.toks) (fun b o hb e=>(hs'.2 b hb).trans e) f0 f1 f3 f4 f5,q⟩
end
def Kh (N own:List Str) (caps:List Nat) (XN:List Str) (outer scope:Scope) (xc:Str):Bool:=
 decide (scope.kind = .function)&&(scope.names.filter fun y=>decide (y.2 = .cell)).length==1&&decide (scope.names.lookup xc=some .cell)&&decide ((xc,NameKind.free)∉scope.names)&&scope.names.all (fun y=>decide (y.2 ≠ .local)||decide (scope.names.lookup y.1=some .local)) &&
 scope.names.all (fun y=>decide (y.2 ≠ .free)||decide (outer.names.lookup y.1=some .cell)||decide (outer.names.lookup y.1=some .free))&&decide N.Nodup&&decide (N.length=own.length+caps.length) &&
 (List.range caps.length).all (fun j=>match N[own.length+j]? with |some x=>decide (XN[caps.getD j 0]? = some x)&&decide ((x,NameKind.free)∈scope.names)&&decide (scope.names.lookup x=some .free)|none=>false)
theorem bR.of {N own:List Str} {caps:List Nat} {XN:List Str} {outer scope:Scope} {xc:Str} (h:Kh N own caps XN outer scope xc=true):bR N own caps XN outer scope xc:=by
 unfold Kh at h;simp only [Bool.and_eq_true,decide_eq_true_eq,List.all_eq_true,Bool.or_eq_true,beq_iff_eq] at h;obtain ⟨⟨⟨⟨⟨⟨⟨⟨h1,h2⟩,h2a⟩,h2b⟩,h3⟩,h4⟩,h5⟩,h6⟩,h7⟩:=h;refine ⟨h1, ?_,h2a,h2b,fun y hy e=> ?_,fun y hy e=> ?_,h5,h6,fun j hj=> ?_⟩
 ·have hm:(xc,NameKind.cell)∈scope.names:=mem_of_lookup h2a
  obtain ⟨pre,post,e⟩:=List.append_of_mem hm;refine ⟨pre,post,e,fun y hy z=> ?_⟩;rw [e,List.filter_append,List.length_append,List.filter_cons] at h2;simp only [decide_true,if_true,List.length_cons] at h2;have l1:(pre.filter fun y=>decide (y.2 = .cell)).length=0:=by omega
  have l2:(post.filter fun y=>decide (y.2 = .cell)).length=0:=by omega
  rcases List.mem_append.mp hy with q|q
  ·have:=List.filter_eq_nil_iff.mp (List.eq_nil_of_length_eq_zero l1) y q
   simp [z] at this
  ·have:=List.filter_eq_nil_iff.mp (List.eq_nil_of_length_eq_zero l2) y q
   simp [z] at this
 ·rcases h3 y hy with z|z
  ·exact absurd e z
  ·exact z
 ·rcases h4 y hy with (z|z)|z
  ·exact absurd e z
  ·exact .inl z
  ·exact .inr z
 ·have q:=h7 j (List.mem_range.mpr hj)
  cases e:N[own.length+j]? with
  | none=>rw [e] at q;cases q
  | some x=>
    rw [e] at q;simp only [Bool.and_eq_true,decide_eq_true_eq] at q;exact ⟨q.1.1.symm,x,rfl,q.1.2,q.2⟩
theorem yV {X:Cx} {scope:Scope} {xc:Str} {C:Addr} {N:List Str} {s:Shared} {H:Hp} {fp:List Addr}:(fu X scope xc C N s H fp).fn xc=true:=decide_eq_true (p:=xc=xc) rfl
end L2
set_option Elab.async false
set_option linter.all false
set_option maxRecDepth 100000
set_option maxHeartbeats 4000000
namespace Tim
open PySem PyProof.Rows
def lV:Bool->Keyed->Array Keyed->Nat->Nat->Nat->StateT SortSt Sem (Option Nat):=sortPriv% PySem.Builtin.gallop
def nZ (left:Bool) (key:Keyed) (arr:Array Keyed) (base i:Nat):StateT SortSt Sem (Option Bool):=do
 let x ←elem' arr (base+i)
 if left then lt' x key else return (←lt' key x).map (!·)
theorem Iw (left:Bool) (key:Keyed) (arr:Array Keyed) (base n hint:Nat):lV left key arr base n hint=(do
 let mut lastofs:=0
 let mut ofs:=1
 let mut lo:=0
 let mut hi:=0
 let some right ←nZ left key arr base hint|return none
 if right then
  let maxofs:=n - hint
  for _ in [0:n] do
   if ofs≥maxofs then break
   let some more ←nZ left key arr base (hint+ofs)|return none
   if !more then break
   lastofs:=ofs
   ofs:=2*ofs+1
  lo:=hint+lastofs+1
  hi:=hint+min ofs maxofs
 else
  let maxofs:=hint+1
  for _ in [0:n] do
   if ofs≥maxofs then break
   let some found ←nZ left key arr base (hint - ofs)|return none
   if found then break
   lastofs:=ofs
   ofs:=2*ofs+1
  lo:=hint+1 - min ofs maxofs
  hi:=hint - lastofs
 for _ in [0:n] do
  if lo≥hi then break
  let m:=lo+(hi - lo) / 2
  let some more ←nZ left key arr base m|return none
  if more then lo:=m+1 else hi:=m
 return some hi):=rfl
section
variable {prog:Program} {w:World} {A:Around} {E:Value->Shared->Prop} {s:Shared} {κ:SortKind} {a₀:Array Keyed} {rk:Value->Nat}
structure Jp (prog:Program) (w:World) (A:Around) (s:Shared) (κ:SortKind) (a₀:Array Keyed) (rk:Value->Nat):Prop where
 ask:∀p∈a₀.toList,∀q∈a₀.toList,∀(E:Value->Shared->Prop) (Q:Bool->Shared->Prop),Q (decide (rk p.1<rk q.1)) s->wpAny (model prog w) A (keyLt' κ p.1 q.1) Q E s
def R (rk:Value->Nat) (xs:Array Keyed) (i:Nat):Nat:=match xs[i]? with
 | some p=>rk p.1
 | none=>0
theorem zE {xs:Array Keyed} {i:Nat} {p:Keyed} (h:xs[i]? = some p):R rk xs i=rk p.1:=by unfold R;rw [h]
theorem gJ {xs ys:Array Keyed} {i j:Nat} (h:xs[i]? = ys[j]?):R rk xs i=R rk ys j:=by unfold R;rw [h]
theorem xr {st:SortSt} {p q:Keyed} {Q:Option Bool->SortSt->Prop} (C:Jp prog w A s κ a₀ rk) (hk:kindOf st=κ) (hp:p∈a₀.toList) (hq:q∈a₀.toList) (h:Q (some (decide (rk p.1<rk q.1))) st):
 wpS (model prog w) A E s (lt' p q) Q st:=by
 rw [lt'_eq];refine wpS_bind (wpS_get ?_);rw [hk];refine wpS_bind (wpS_lift (wpAny_attempt (C.ask p hp q hq _ _ ⟨rfl, ?_⟩)));exact wpS_pure h
theorem bY {st:SortSt} {arr:Array Keyed} {i:Nat} {p:Keyed} {Q:Keyed->SortSt->Prop} (hi:arr[i]? = some p) (h:Q p st):wpS (model prog w) A E s (elem' arr i) Q st:=by
 rw [elem'_eq,hi];exact wpS_pure h
def By (left:Bool) (k r:Nat):Bool:=if left then decide (r<k) else !decide (k<r)
theorem nP {st:SortSt} {left:Bool} {key:Keyed} {arr:Array Keyed} {base i:Nat} {Q:Option Bool->SortSt->Prop} (C:Jp prog w A s κ a₀ rk) (hk:kindOf st=κ) (hkey:key∈a₀.toList) (tW:∀p∈arr.toList,p∈a₀.toList)
 (hi:base+i<arr.size) (h:Q (some (By left (rk key.1) (R rk arr (base+i)))) st):wpS (model prog w) A E s (nZ left key arr base i) Q st:=by
 unfold nZ;have e:arr[base+i]? = some arr[base+i]:=getElem?_pos arr (base+i) hi;have hm:arr[base+i]∈a₀.toList:=tW _ (by simp);rw [zE e] at h;refine wpS_bind (bY e ?_);cases left with
 | true=>exact xr C hk hm hkey h
 | false=>exact wpS_bind (xr C hk hkey hm (wpS_pure h))
theorem Dk {left:Bool} {k r r':Nat} (h:By left k r=true) (le:r'<=r):By left k r'=true:=by
 unfold By at *;cases left<;>simp at * <;> omega
theorem zM {left:Bool} {k r r':Nat} (h:By left k r=false) (le:r<=r'):By left k r'=false:=by
 unfold By at *;cases left<;>simp at * <;> omega
def Seg (rk:Value->Nat) (xs:Array Keyed) (lo hi:Nat):Prop:=∀i j,lo<=i->i<=j->j<hi->R rk xs i<=R rk xs j
abbrev GSt:=Option (Option Nat)×Nat×Nat
theorem vC {st:SortSt} {left:Bool} {key:Keyed} {arr:Array Keyed} {base n lo hi:Nat} {Q:GSt->SortSt->Prop} (C:Jp prog w A s κ a₀ rk) (hk:kindOf st=κ) (hkey:key∈a₀.toList) (tW:∀p∈arr.toList,p∈a₀.toList)
 (hn:base+n<=arr.size) (hs:Seg rk arr base (base+n)) (hlh:lo<=hi) (hhn:hi<=n)
 (h1:∀i,i<lo->By left (rk key.1) (R rk arr (base+i))=true) (h2:∀i,hi<=i->i<n->By left (rk key.1) (R rk arr (base+i))=false)
 (h:∀k l,k<=n->(∀i,i<k->By left (rk key.1) (R rk arr (base+i))=true)->(∀i,k<=i->i<n->By left (rk key.1) (R rk arr (base+i))=false)->Q (none,l,k) st):
 wpS (model prog w) A E s (forIn [0:n] ((none,lo,hi):GSt) fun _ __s=>
       if __s.snd.fst≥__s.snd.snd then pure (ForInStep.done (none,__s.snd.fst,__s.snd.snd))
       else do
        let __x ←nZ left key arr base (__s.snd.fst+(__s.snd.snd - __s.snd.fst) / 2)
        match __x with
         | some more=>
           if more=true then
            pure (ForInStep.yield (none,__s.snd.fst+(__s.snd.snd - __s.snd.fst) / 2+1,__s.snd.snd))
           else pure (ForInStep.yield (none,__s.snd.fst,__s.snd.fst+(__s.snd.snd - __s.snd.fst) / 2))
         | _=>pure (ForInStep.done (some none,__s.snd.fst,__s.snd.snd))) Q st:=by
 refine wpS_forRange (I:=fun x c st'=>st'=st /\ ∃lo hi,c=(none,lo,hi)/\lo<=hi/\hi<=n/\hi - lo<=n - x/\(∀i,i<lo->By left (rk key.1) (R rk arr (base+i))=true)/\(∀i,hi<=i->i<n->By left (rk key.1) (R rk arr (base+i))=false)) ?step ?fin ⟨rfl,lo,hi,rfl,hlh,hhn,by omega,h1,h2⟩
 case fin=>
  rintro c st' ⟨rfl,lo,hi,rfl,a1,a2,a3,a4,a5⟩;have:lo=hi:=by omega
  subst this;exact h _ _ a2 a4 a5
 case step=>
  rintro x c st' _ hx ⟨rfl,lo,hi,rfl,a1,a2,a3,a4,a5⟩;dsimp only
  by_cases hge:lo≥hi
  ·rw [if_pos hge]
   have:lo=hi:=by omega
   subst this;exact wpS_pure (h _ _ a2 a4 a5)
  ·rw [if_neg hge]
   refine wpS_bind (nP C hk hkey tW (by omega) ?_);dsimp only;cases hb:By left (rk key.1) (R rk arr (base+(lo+(hi - lo) / 2))) with
   | true=>
     simp only [if_true];refine wpS_pure ⟨rfl,_,_,rfl,by omega,a2,by omega,fun i hi'=> ?_,a5⟩;exact Dk hb (hs _ _ (by omega) (by omega) (by omega))
   | false=>
     simp only [Bool.false_eq_true,if_false];refine wpS_pure ⟨rfl,_,_,rfl,by omega,by omega,by omega,a4,fun i hi' hin=> ?_⟩;exact zM hb (hs _ _ (by omega) (by omega) (by omega))
theorem je {st:SortSt} {left:Bool} {key:Keyed} {arr:Array Keyed} {base n hint:Nat} {Q:Option Nat->SortSt->Prop} (C:Jp prog w A s κ a₀ rk) (hk:kindOf st=κ) (hkey:key∈a₀.toList) (tW:∀p∈arr.toList,p∈a₀.toList)
 (hn:base+n<=arr.size) (hh:hint<n) (hs:Seg rk arr base (base+n))
 (h:∀k,k<=n->(∀i,i<k->By left (rk key.1) (R rk arr (base+i))=true)->(∀i,k<=i->i<n->By left (rk key.1) (R rk arr (base+i))=false)->Q (some k) st):
 wpS (model prog w) A E s (lV left key arr base n hint) Q st:=by
 rw [Iw];refine wpS_bind (nP C hk hkey tW (by omega) ?_);dsimp only;cases hr:By left (rk key.1) (R rk arr (base+hint)) with
 | true=>
   simp only [if_true]
   refine wpS_bind (wpS_mono (wpS_forRange (I:=fun x c st'=>st'=st /\ ∃l o,c=(none,l,o)/\l<o/\x<o/\hint+l<n/\By left (rk key.1) (R rk arr (base+(hint+l)))=true)
    (Q:=fun c st'=>st'=st /\ ∃l o,c=(none,l,o)/\l<o/\hint+l<n/\By left (rk key.1) (R rk arr (base+(hint+l)))=true/\(o<n - hint->By left (rk key.1) (R rk arr (base+(hint+o)))=false)) ?step ?fin ⟨rfl,0,1,rfl,by omega,by omega,by omega,hr⟩) ?post)
   case fin=>
    rintro c st' ⟨rfl,l,o,rfl,a1,a2,a3,a4⟩;exact ⟨rfl,l,o,rfl,a1,a3,a4,fun z=>by omega⟩
   case step=>
    rintro x c st' _ hx ⟨rfl,l,o,rfl,a1,a2,a3,a4⟩;dsimp only
    by_cases hge:o≥n - hint
    ·rw [if_pos hge]
     exact wpS_pure ⟨rfl,l,o,rfl,a1,a3,a4,fun z=>by omega⟩
    ·rw [if_neg hge]
     refine wpS_bind (nP C hk hkey tW (by omega) ?_);dsimp only;cases hb:By left (rk key.1) (R rk arr (base+(hint+o))) with
     | true=>
       simp only [Bool.not_true,Bool.false_eq_true,if_false];exact wpS_pure ⟨rfl,o,2*o+1,rfl,by omega,by omega,by omega,hb⟩
     | false=>
       simp only [Bool.not_false,if_true];exact wpS_pure ⟨rfl,l,o,rfl,a1,a3,a4,fun _=>hb⟩
   case post=>
    rintro c st' ⟨rfl,l,o,rfl,a1,a2,a3,a4⟩;dsimp only;refine wpS_bind (vC C hk hkey tW hn hs (by omega) (by omega) (fun i hi=> ?_) (fun i hi hin=> ?_) fun k l' b1 b2 b3=>wpS_pure (h k b1 b2 b3))
    ·exact Dk a3 (hs _ _ (by omega) (by omega) (by omega))
    ·exact zM (a4 (by omega)) (hs _ _ (by omega) (by omega) (by omega))
 | false=>
   simp only [Bool.false_eq_true,if_false]
   refine wpS_bind (wpS_mono (wpS_forRange (I:=fun x c st'=>st'=st /\ ∃l o,c=(none,l,o)/\l<o/\x<o/\l<=hint/\By left (rk key.1) (R rk arr (base+(hint - l)))=false)
    (Q:=fun c st'=>st'=st /\ ∃l o,c=(none,l,o)/\l<o/\l<=hint/\By left (rk key.1) (R rk arr (base+(hint - l)))=false/\(o<hint+1->By left (rk key.1) (R rk arr (base+(hint - o)))=true)) ?step ?fin ⟨rfl,0,1,rfl,by omega,by omega,by omega,hr⟩) ?post)
   case fin=>
    rintro c st' ⟨rfl,l,o,rfl,a1,a2,a3,a4⟩;exact ⟨rfl,l,o,rfl,a1,a3,a4,fun z=>by omega⟩
   case step=>
    rintro x c st' _ hx ⟨rfl,l,o,rfl,a1,a2,a3,a4⟩;dsimp only
    by_cases hge:o≥hint+1
    ·rw [if_pos hge]
     exact wpS_pure ⟨rfl,l,o,rfl,a1,a3,a4,fun z=>by omega⟩
    ·rw [if_neg hge]
     refine wpS_bind (nP C hk hkey tW (by omega) ?_);dsimp only;cases hb:By left (rk key.1) (R rk arr (base+(hint - o))) with
     | true=>
       simp only [if_true];exact wpS_pure ⟨rfl,l,o,rfl,a1,a3,a4,fun _=>hb⟩
     | false=>
       simp only [Bool.false_eq_true,if_false];exact wpS_pure ⟨rfl,o,2*o+1,rfl,by omega,by omega,by omega,hb⟩
   case post=>
    rintro c st' ⟨rfl,l,o,rfl,a1,a2,a3,a4⟩;dsimp only;refine wpS_bind (vC C hk hkey tW hn hs (by omega) (by omega) (fun i hi=> ?_) (fun i hi hin=> ?_) fun k l' b1 b2 b3=>wpS_pure (h k b1 b2 b3))
    ·exact Dk (a4 (by omega)) (hs _ _ (by omega) (by omega) (by omega))
    ·exact zM a3 (hs _ _ (by omega) (by omega) (by omega))
end
end Tim
set_option Elab.async false
set_option linter.all false
set_option maxRecDepth 100000
set_option maxHeartbeats 4000000
namespace Tim
open PySem PyProof.Rows
def fV:Nat->StateT SortSt Sem Unit:=sortPriv% PySem.Builtin.setMinGallop
theorem uN (g:Nat):fV g=modify fun s=>SortSt.mk' (kindOf s) (arrOf s) (pendingOf s) g (failedOf s):=rfl
def yx:Array Keyed->Array Keyed->StateT SortSt Sem (Array Keyed):=sortPriv% PySem.Builtin.mergeLo
def yC:Array Keyed->Array Keyed->StateT SortSt Sem (Array Keyed):=sortPriv% PySem.Builtin.mergeHi
abbrev gM (a b out:Array Keyed) (ia ib:Nat):Array Keyed:=out++a.extract ia a.size++b.extract ib b.size
abbrev rG (a b out:Array Keyed) (ia ib:Nat):Array Keyed:=out++b.extract ib b.size++a.extract ia a.size
theorem Fb (a b:Array Keyed):yx a b=(do
 rule "list.sort.merge-lo"
 let total:=a.size+b.size
 let mut out:Array Keyed:= #[←elem' b 0]
 let mut ia:=0
 let mut ib:=1
 if ib==b.size then return gM a b out ia ib
 if ia+1==a.size then return rG a b out ia ib
 let mut minGallop:=gallopOf (←get)
 for _ in [0:total] do
  let mut acount:=0
  let mut bcount:=0
  for _ in [0:total] do
   let some bWins ←lt' (←elem' b ib) (←elem' a ia)|return gM a b out ia ib
   if bWins then
    out:=out.push (←elem' b ib);ib:=ib+1;bcount:=bcount+1;acount:=0
    if ib==b.size then return gM a b out ia ib
    if bcount≥minGallop then break
   else
    out:=out.push (←elem' a ia);ia:=ia+1;acount:=acount+1;bcount:=0
    if ia+1==a.size then return rG a b out ia ib
    if acount≥minGallop then break
  rule "list.sort.gallop"
  minGallop:=minGallop+1
  for _ in [0:total] do
   if minGallop>1 then minGallop:=minGallop - 1
   fV minGallop
   let some k ←lV false (←elem' b ib) a ia (a.size - ia) 0|return gM a b out ia ib
   acount:=k
   if k>0 then
    out:=out++a.extract ia (ia+k);ia:=ia+k
    if ia+1==a.size then return rG a b out ia ib
    if ia==a.size then return gM a b out ia ib
   out:=out.push (←elem' b ib);ib:=ib+1
   if ib==b.size then return gM a b out ia ib
   let some k ←lV true (←elem' a ia) b ib (b.size - ib) 0|return gM a b out ia ib
   bcount:=k
   if k>0 then
    out:=out++b.extract ib (ib+k);ib:=ib+k
    if ib==b.size then return gM a b out ia ib
   out:=out.push (←elem' a ia);ia:=ia+1
   if ia+1==a.size then return rG a b out ia ib
   if acount<7&&bcount<7 then break
  minGallop:=minGallop+1
  fV minGallop
 unsupported "internal:list.sort.merge-bound"):=rfl
section
variable {rk:Value->Nat} {a b out:Array Keyed} {ia ib k:Nat}
def Le (rk:Value->Nat) (x y:Keyed):Prop:=rk x.1<=rk y.1
def Ny (rk:Value->Nat) (l:List Keyed):Prop:=l.Pairwise (Le rk)
structure MI (rk:Value->Nat) (a b out:Array Keyed) (ia ib:Nat):Prop where
 perm:(out.toList++(a.toList.drop ia++b.toList.drop ib)).Perm (a.toList++b.toList)
 sa:Ny rk (out.toList++a.toList.drop ia)
 sb:Ny rk (out.toList++b.toList.drop ib)
structure Mg (rk:Value->Nat) (a b r:Array Keyed):Prop where
 perm:r.toList.Perm (a.toList++b.toList)
 srt:Ny rk r.toList
theorem dG (a:Array Keyed) (i j:Nat):(a.extract i j).toList=(a.toList.drop i).take (j - i):=by
 rw [Array.toList_extract,List.extract_eq_take_drop]
theorem yR (l:List Keyed) (i k:Nat):l.drop i=(l.drop i).take k++l.drop (i+k):=by
 rw [←List.drop_drop,List.take_append_drop]
theorem iV {a:Array Keyed} {i:Nat} (h:i<a.size):R rk a i=rk (a[i]).1:=zE (getElem?_pos a i h)
theorem Qn {a:Array Keyed} {x:Keyed} (h:x∈a.toList.drop ia):∃j,ia<=j/\j<a.size/\R rk a j=rk x.1:=by
 obtain ⟨j,hj,e⟩:=List.getElem_of_mem h;rw [List.length_drop,Array.length_toList] at hj;rw [List.getElem_drop,Array.getElem_toList] at e;exact ⟨ia+j,by (clear e hj;omega),by (clear e;omega),by rw [iV (by (clear e;omega)),e]⟩
theorem ju {a:Array Keyed} {x:Keyed} (h:x∈(a.toList.drop ia).take k):∃j,j<k/\ia+j<a.size/\R rk a (ia+j)=rk x.1:=by
 obtain ⟨j,hj,e⟩:=List.getElem_of_mem h;rw [List.length_take,List.length_drop,Array.length_toList] at hj;rw [List.getElem_take,List.getElem_drop,Array.getElem_toList] at e;exact ⟨j,by (clear e;omega),by (clear e;omega),by rw [iV (by (clear e;omega)),e]⟩
theorem jr {x y:List Keyed}:Ny rk (x++y)↔Ny rk x/\Ny rk y /\ ∀p∈x,∀q∈y,rk p.1<=rk q.1:=List.pairwise_append
theorem MI.vh (m:MI rk a b out ia ib) (hle:∀i,i<k->ib+i<b.size -> ∀j,ia<=j->j<a.size->R rk b (ib+i)<=R rk a j):MI rk a b (out++b.extract ib (ib+k)) ia (ib+k):=by
 have e:(out++b.extract ib (ib+k)).toList=out.toList++(b.toList.drop ib).take k:=by rw [Array.toList_append,dG];congr 2;omega
 have sp:=yR b.toList ib k;refine ⟨?_, ?_, ?_⟩
 ·rw [e]
  refine List.Perm.trans ?_ m.perm;rw [List.append_assoc];refine List.Perm.append_left _ ?_;refine List.Perm.trans ?_ (List.Perm.of_eq (congrArg (a.toList.drop ia ++ ·) sp.symm));rw [←List.append_assoc];refine List.Perm.trans (List.Perm.append_right _ (List.perm_append_comm)) (List.Perm.of_eq (List.append_assoc _ _ _))
 ·rw [e,List.append_assoc]
  have h1:=jr.mp m.sa;have h2:=m.sb;rw [sp] at h2;have h3:=jr.mp h2;have h4:=jr.mp h3.2.1;refine jr.mpr ⟨h1.1,jr.mpr ⟨h4.1,h1.2.1,fun p hp q hq=> ?_⟩,fun p hp q hq=> ?_⟩
  ·obtain ⟨i,i1,i2,i3⟩:=ju (rk:=rk) hp
   obtain ⟨j,j1,j2,j3⟩:=Qn (rk:=rk) hq;rw [←i3,←j3];exact hle i i1 i2 j j1 j2
  ·rcases List.mem_append.mp hq with hq|hq
   ·exact h3.2.2 p hp q (List.mem_append_left _ hq)
   ·exact h1.2.2 p hp q hq
 ·rw [e,List.append_assoc,←sp]
  exact m.sb
theorem MI.swap (m:MI rk a b out ia ib):MI rk b a out ib ia:=⟨(List.Perm.append_left _ List.perm_append_comm).trans (m.perm.trans List.perm_append_comm),m.sb,m.sa⟩
theorem MI.vm (m:MI rk a b out ia ib) (hle:∀i,i<k->ia+i<a.size -> ∀j,ib<=j->j<b.size->R rk a (ia+i)<=R rk b j):MI rk a b (out++a.extract ia (ia+k)) (ia+k) ib:=(m.swap.vh hle).swap
theorem DX (h:ib<b.size):out.push b[ib]=out++b.extract ib (ib+1):=by
 apply Array.toList_inj.mp;rw [Array.toList_push,Array.toList_append,dG];congr 1;rw [show ib+1 - ib=1 by (clear h;omega),List.drop_eq_getElem_cons (by rw [Array.length_toList];exact h)];rfl
theorem MI.yd (m:MI rk a b out ia ib) (h:ib<b.size) (hle:∀j,ia<=j->j<a.size->R rk b ib<=R rk a j):MI rk a b (out.push b[ib]) ia (ib+1):=by
 rw [DX h];refine m.vh (k:=1) fun i hi hb j j1 j2=> ?_;have:i=0:=by (clear j2 j1 hb h;omega)
 subst this;exact hle j j1 j2
theorem MI.yg (m:MI rk a b out ia ib) (h:ia<a.size) (hle:∀j,ib<=j->j<b.size->R rk a ia<=R rk b j):MI rk a b (out.push a[ia]) (ia+1) ib:=(m.swap.yd h hle).swap
theorem MI.done (m:MI rk a b out ia ib) (h:ia=a.size\/ib=b.size):Mg rk a b (gM a b out ia ib):=by
 have e:(gM a b out ia ib).toList=out.toList++(a.toList.drop ia++b.toList.drop ib):=by
  unfold gM;rw [Array.toList_append,Array.toList_append,dG,dG,List.append_assoc];congr 2
  ·rw [List.take_of_length_le];rw [List.length_drop,Array.length_toList];exact Nat.le_refl _
  ·rw [List.take_of_length_le];rw [List.length_drop,Array.length_toList];exact Nat.le_refl _
 refine ⟨by rw [e];exact m.perm, ?_⟩;rw [e];rcases h with h|h
 ·rw [h,show a.toList.drop a.size=[] by rw [List.drop_eq_nil_of_le];rw [Array.length_toList];exact Nat.le_refl _,List.nil_append]
  exact m.sb
 ·rw [h,show b.toList.drop b.size=[] by rw [List.drop_eq_nil_of_le];rw [Array.length_toList];exact Nat.le_refl _,List.append_nil]
  exact m.sa
theorem MI.last (m:MI rk a b out ia ib) (h:∀i j,ib<=i->i<b.size->ia<=j->j<a.size->R rk b i<=R rk a j):Mg rk a b (rG a b out ia ib):=by
 have m2:=m.vh (k:=b.size - ib) fun i hi hb j j1 j2=>h _ _ (by (clear j2 j1 hb hi;omega)) hb j1 j2
 have e:(rG a b out ia ib)=gM a b (out++b.extract ib (ib+(b.size - ib))) ia (ib+(b.size - ib)):=by
  unfold gM rG;apply Array.toList_inj.mp;simp only [Array.toList_append,dG]
  have e1:(b.toList.drop (ib+(b.size - ib))).take (b.size - (ib+(b.size - ib)))=[]:=by
   rw [List.take_eq_nil_iff];left;omega
  rw [e1,List.append_nil];congr 3
  (clear e1;omega)
 rw [e]
 by_cases hb:ib<=b.size
 ·exact m2.done (.inr (by (clear e;omega)))
 ·refine ⟨?_, ?_⟩
  ·have:=m2.perm
   have e2:(gM a b (out++b.extract ib (ib+(b.size - ib))) ia (ib+(b.size - ib))).toList=(out++b.extract ib (ib+(b.size - ib))).toList++(a.toList.drop ia++b.toList.drop (ib+(b.size - ib))):=by
    unfold gM;rw [Array.toList_append,Array.toList_append,dG,dG,List.append_assoc];congr 2
    ·rw [List.take_of_length_le];rw [List.length_drop,Array.length_toList];exact Nat.le_refl _
    ·rw [List.take_of_length_le];rw [List.length_drop,Array.length_toList];exact Nat.le_refl _
   rw [e2];exact this
  ·unfold gM
   rw [Array.toList_append,Array.toList_append,dG (a:=b) (i:=ib+(b.size - ib)),show b.size - (ib+(b.size - ib))=0 by (clear hb e;omega),List.take_zero,List.append_nil,dG (a:=a)];rw [List.take_of_length_le (by rw [List.length_drop,Array.length_toList];exact Nat.le_refl _)];exact m2.sa
end
end Tim
set_option Elab.async false
set_option linter.all false
set_option maxRecDepth 100000
set_option maxHeartbeats 4000000
namespace Tim
open PySem PyProof.Rows
section
variable {prog:Program} {w:World} {A:Around} {E:Value->Shared->Prop} {s:Shared} {κ:SortKind} {a₀:Array Keyed} {rk:Value->Nat}
structure Dt (st st':SortSt):Prop where
 k:kindOf st'=kindOf st
 a:arrOf st'=arrOf st
 p:pendingOf st'=pendingOf st
 f:failedOf st'=failedOf st
theorem Dt.refl (st:SortSt):Dt st st:=⟨rfl,rfl,rfl,rfl⟩
theorem Dt.trans {a b c:SortSt} (h:Dt a b) (g:Dt b c):Dt a c:=⟨g.k.trans h.k,g.a.trans h.a,g.p.trans h.p,g.f.trans h.f⟩
theorem qe {st:SortSt} {g:Nat} {Q:Unit->SortSt->Prop} (h:∀st',Dt st st'->Q () st'):wpS (model prog w) A E s (fV g) Q st:=by
 rw [uN];exact wpS_modify (h _ ⟨rfl,rfl,rfl,rfl⟩)
theorem aW {α:Type} {c:Prop} [Decidable c] {x y:StateT SortSt Sem α} {Q:α->SortSt->Prop} {st:SortSt} (h1:c->wpS (model prog w) A E s x Q st) (h2:¬c->wpS (model prog w) A E s y Q st):wpS (model prog w) A E s (if c then x else y) Q st:=by
 by_cases hc:c
 ·rw [if_pos hc];exact h1 hc
 ·rw [if_neg hc];exact h2 hc
theorem Ze {k r:Nat} (h:By true k r=true):r<k:=by simpa [By] using h
theorem Vx {k r:Nat} (h:By false k r=true):r<=k:=by simpa [By] using h
theorem Gs {k r:Nat} (h:By true k r=false):k<=r:=by simpa [By] using h
theorem RZ {k r:Nat} (h:By false k r=false):k<r:=by simpa [By] using h
theorem Du {st:SortSt} {a b:Array Keyed} {Q:Array Keyed->SortSt->Prop} (C:Jp prog w A s κ a₀ rk) (hk:kindOf st=κ) (ha:∀p∈a.toList,p∈a₀.toList) (hb:∀p∈b.toList,p∈a₀.toList)
 (ha1:1<=a.size) (hb1:1<=b.size) (sa:Seg rk a 0 a.size) (sb:Seg rk b 0 b.size) (h0:R rk b 0<=R rk a 0) (hl:R rk b (b.size - 1)<=R rk a (a.size - 1))
 (h:∀r st',Dt st st'->Mg rk a b r->Q r st'):wpS (model prog w) A E s (yx a b) Q st:=by
 have inb:∀i,i<b.size -> ∃p,b[i]? = some p/\p∈a₀.toList/\R rk b i=rk p.1:=fun i hi=>⟨b[i],getElem?_pos b i hi,hb _ (by simp),iV hi⟩;have V4:∀i,i<a.size -> ∃p,a[i]? = some p/\p∈a₀.toList/\R rk a i=rk p.1:=fun i hi=>⟨a[i],getElem?_pos a i hi,ha _ (by simp),iV hi⟩
 have mid:∀i j,i<b.size->j+1=a.size->R rk b i<=R rk a j:=fun i j hi hj=>by
  have:=sb i (b.size - 1) (by (clear hj hi hl h0 hb1 ha1 hk;lia)) (by (clear hj hl h0 hb1 ha1 hk;lia)) (by (clear hj hi hl h0 ha1 hk;lia));have e:a.size - 1=j:=by (clear this hi hl h0 hb1 ha1 hk;lia)
  rw [e] at hl
  (clear e hj hi h0 hb1 ha1 hk;lia)
 have m0:MI rk a b #[b[0]] 0 1:=by
  have m:MI rk a b #[] 0 0:=by
   refine ⟨by simp, ?_, ?_⟩
   ·show Ny rk ([]++a.toList.drop 0)
    rw [List.nil_append,List.drop_zero];refine List.pairwise_iff_getElem.mpr fun i j hi hj hij=> ?_;rw [Array.length_toList] at hi hj;have:=sa i j (by (clear hij hj hi hl h0 hb1 ha1 hk;lia)) (by (clear hj hi hl h0 hb1 ha1 hk;lia)) hj;rw [iV hi,iV hj] at this;simpa [Le] using this
   ·show Ny rk ([]++b.toList.drop 0)
    rw [List.nil_append,List.drop_zero];refine List.pairwise_iff_getElem.mpr fun i j hi hj hij=> ?_;rw [Array.length_toList] at hi hj;have:=sb i j (by (clear hij hj hi hl h0 hb1 ha1 hk;lia)) (by (clear hj hi hl h0 hb1 ha1 hk;lia)) hj;rw [iV hi,iV hj] at this;simpa [Le] using this
  exact m.yd (by (clear hl h0 ha1 hk;lia)) fun j _ j2=>Nat.le_trans h0 (sa 0 j (by (clear j2 hl h0 hb1 ha1 hk;lia)) (by (clear j2 hl h0 hb1 ha1 hk;lia)) j2)
 rw [Fb];refine wpS_bind (wpS_lift (wpAny_rule ⟨rfl, ?_⟩));refine wpS_bind (bY (p:=b[0]) (getElem?_pos b 0 (by (clear hl h0 ha1 hk;lia))) ?_);dsimp only;refine aW (fun e=> ?_) (fun e=> ?_)
 ·have e:1=b.size:=by simpa using e
  exact wpS_pure (h _ _ (.refl _) (m0.done (.inr e)))
 have eb:¬1=b.size:=by simpa using e
 refine aW (fun e=> ?_) (fun e=> ?_)
 ·have e:1=a.size:=by simpa using e
  exact wpS_pure (h _ _ (.refl _) (m0.last fun i j _ hi _ hj=>mid i j hi (by (clear hi eb hl h0 ha1 hk;lia))))
 have ea:¬1=a.size:=by simpa using e
 refine wpS_bind (wpS_get ?_)
 refine wpS_bind (wpS_mono (wpS_forRange (I:=fun x c st'=>Dt st st' /\ ∃out ia ib mg,c=(none,out,ia,ib,mg)/\MI rk a b out ia ib/\ia+2<=a.size/\ib+1<=b.size/\(a.size - ia)+(b.size - ib)+x<=a.size+b.size)
  (Q:=fun c st'=>Dt st st' /\ ∃r cc,c=(some r,cc)/\Mg rk a b r) ?step ?fin ⟨.refl _,_,_,_,_,rfl,m0,by (clear e eb hl h0 hk;lia),by (clear ea e hl h0 ha1 hk;lia),by (clear ea e eb hl h0 ha1 hk;lia)⟩) ?post)
 case post=>
  rintro c st' ⟨kp,r,cc,rfl,m⟩;exact wpS_pure (h _ _ kp m)
 case fin=>
  rintro c st' ⟨kp,out,ia,ib,mg,rfl,m,a1,b1,le⟩
  (clear b1 ea e eb hl h0 ha1 hk;lia)
 case step=>
  rintro x c st' _ hx ⟨kp,out,ia,ib,mg,rfl,m,a1,b1,le⟩;dsimp only
  refine wpS_bind (wpS_mono (wpS_forRange (I:=fun y c st2=>st2=st' /\ ∃out ia ib ac bc,c=(none,out,ia,ib,ac,bc)/\MI rk a b out ia ib/\ia+2<=a.size/\ib+1<=b.size/\(a.size - ia)+(b.size - ib)+x+y<=a.size+b.size)
   (Q:=fun c st2=>st2=st'/\((∃r cc,c=(some r,cc)/\Mg rk a b r) \/ ∃out ia ib ac bc,c=(none,out,ia,ib,ac,bc)/\MI rk a b out ia ib/\ia+2<=a.size/\ib+1<=b.size/\(a.size - ia)+(b.size - ib)+x+1<=a.size+b.size)) ?step1 ?YC ⟨rfl,_,_,_,_,_,rfl,m,a1,b1,by (clear b1 a1 hx ea e eb hl h0 ha1 hk;lia)⟩) ?Ph)
  case YC=>
   rintro c st2 ⟨rfl,out,ia,ib,ac,bc,rfl,m,a1,b1,le⟩
   (clear b1 hx ea e eb hl h0 ha1 hk;lia)
  case step1=>
   rintro y c st2 _ hy ⟨rfl,out,ia,ib,ac,bc,rfl,m,a1,b1,le⟩;dsimp only;obtain ⟨p,ep,mp,rp⟩:=inb ib (by (clear le a1 hy hx ea e eb hl h0 ha1 hk;lia));obtain ⟨q,eq,mq,rq⟩:=V4 ia (by (clear rp ep le b1 hy hx ea e eb hl h0 ha1 hk;lia));refine wpS_bind (bY ep (wpS_bind (bY eq (wpS_bind (xr C (kp.k.trans hk) mp mq ?_)))));dsimp only;have cL:p=b[ib]:=by rw [getElem?_pos b ib (by (clear rq eq rp ep le a1 hy hx ea e eb hl h0 ha1 hk;lia))] at ep;exact (Option.some.inj ep).symm
   have ig:q=a[ia]:=by rw [getElem?_pos a ia (by (clear cL rq eq rp ep le b1 hy hx ea e eb hl h0 ha1 hk;lia))] at eq;exact (Option.some.inj eq).symm
   refine aW (fun lt=> ?_) (fun lt=> ?_)
   ·have lt:R rk b ib<R rk a ia:=by rw [rp,rq];simpa using lt
    have m2:MI rk a b (out.push p) ia (ib+1):=by
     rw [cL];exact m.yd (by (clear lt ig cL rq eq rp ep le a1 hy hx ea e eb hl h0 ha1 hk;lia)) fun j j1 j2=>by have:=sa ia j (by (clear j2 j1 lt ig cL rq eq rp ep le b1 a1 hy hx ea e eb hl h0 ha1 hk;lia)) j1 j2;(clear j2 j1 ig cL rq eq rp ep le b1 a1 hy hx ea e eb hl h0 ha1 hk;lia)
    refine wpS_bind (bY ep ?_);refine aW (fun e=> ?_) (fun e=> ?_)
    ·exact wpS_pure ⟨rfl,.inl ⟨_,_,rfl,m2.done (.inr (by simpa using e))⟩⟩
    have e:¬ib+1=b.size:=by simpa using e
    refine aW (fun _=> ?_) (fun _=> ?_)
    ·exact wpS_pure ⟨rfl,.inr ⟨_,_,_,_,_,rfl,m2,a1,by (clear lt ig cL rq eq rp ep le a1 hy hx ea eb hl h0 ha1 hk;lia),by (clear e lt ig cL rq eq rp ep a1 hy hx ea eb hl h0 ha1 hk;lia)⟩⟩
    ·exact wpS_pure ⟨rfl,_,_,_,_,_,rfl,m2,a1,by (clear lt ig cL rq eq rp ep le a1 hy hx ea eb hl h0 ha1 hk;lia),by (clear e lt ig cL rq eq rp ep a1 hy hx ea eb hl h0 ha1 hk;lia)⟩
   ·have lt:R rk a ia<=R rk b ib:=by rw [rp,rq];simpa using lt
    have m2:MI rk a b (out.push q) (ia+1) ib:=by
     rw [ig];exact m.yg (by (clear lt ig cL rq eq rp ep le b1 hy hx ea e eb hl h0 ha1 hk;lia)) fun j j1 j2=>by have:=sb ib j (by (clear j2 j1 lt ig cL rq eq rp ep le b1 a1 hy hx ea e eb hl h0 ha1 hk;lia)) j1 j2;(clear j2 j1 ig cL rq eq rp ep le b1 a1 hy hx ea e eb hl h0 ha1 hk;lia)
    refine wpS_bind (bY eq ?_);refine aW (fun e=> ?_) (fun e=> ?_)
    ·have e:ia+1+1=a.size:=by simpa using e
     exact wpS_pure ⟨rfl,.inl ⟨_,_,rfl,m2.last fun i j _ hi _ hj=>mid i j hi (by (clear hi lt ig cL rq eq rp ep le b1 a1 hy hx ea eb hl h0 ha1 hk;lia))⟩⟩
    have e:¬ia+1+1=a.size:=by simpa using e
    refine aW (fun _=> ?_) (fun _=> ?_)
    ·exact wpS_pure ⟨rfl,.inr ⟨_,_,_,_,_,rfl,m2,by (clear lt ig cL rq eq rp ep le b1 hy hx ea eb hl h0 ha1 hk;lia),b1,by (clear e lt ig cL rq eq rp ep b1 hy hx ea eb hl h0 ha1 hk;lia)⟩⟩
    ·exact wpS_pure ⟨rfl,_,_,_,_,_,rfl,m2,by (clear lt ig cL rq eq rp ep le b1 hy hx ea eb hl h0 ha1 hk;lia),b1,by (clear e lt ig cL rq eq rp ep b1 hy hx ea eb hl h0 ha1 hk;lia)⟩
  case Ph=>
   rintro c st2 ⟨rfl,(⟨r,cc,rfl,mr⟩|⟨out,ia,ib,ac,bc,rfl,m,a1,b1,le⟩)⟩
   ·exact wpS_pure ⟨kp,r,_,rfl,mr⟩
   dsimp only;refine wpS_bind (wpS_lift (wpAny_rule ⟨rfl, ?_⟩))
   refine wpS_bind (wpS_mono (wpS_forRange (I:=fun y c st3=>Dt st st3 /\ ∃out ia ib mg ac bc,c=(none,out,ia,ib,mg,ac,bc)/\MI rk a b out ia ib/\ia+2<=a.size/\ib+1<=b.size/\(a.size - ia)+(b.size - ib)+x+1+y<=a.size+b.size)
    (Q:=fun c st3=>Dt st st3/\((∃r cc,c=(some r,cc)/\Mg rk a b r) \/ ∃out ia ib mg ac bc,c=(none,out,ia,ib,mg,ac,bc)/\MI rk a b out ia ib/\ia+2<=a.size/\ib+1<=b.size/\(a.size - ia)+(b.size - ib)+x+1<=a.size+b.size)) ?Ou ?fin2 ⟨kp,_,_,_,_,_,_,rfl,m,a1,b1,by (clear b1 a1 hx ea e eb hl h0 ha1 hk;lia)⟩) ?post2)
   case fin2=>
    rintro c st3 ⟨JX,out,ia,ib,mg,ac,bc,rfl,m,a1,b1,le⟩
    (clear b1 a1 hx ea e eb hl h0 ha1 hk;lia)
   case post2=>
    rintro c st3 ⟨JX,(⟨r,cc,rfl,mr⟩|⟨out,ia,ib,mg,ac,bc,rfl,m,a1,b1,le⟩)⟩
    ·exact wpS_pure ⟨JX,r,_,rfl,mr⟩
    dsimp only;refine wpS_bind (qe fun oX k4=>wpS_pure ⟨JX.trans k4,_,_,_,_,rfl,m,a1,b1,by (clear b1 a1 hx ea e eb hl h0 ha1 hk;lia)⟩)
   case Ou=>
    rintro y c st3 _ hy ⟨JX,out,ia,ib,mg,ac,bc,rfl,m,a1,b1,le⟩;dsimp only;refine aW (fun _=> ?_) (fun _=> ?_)
    all_goals
     refine wpS_bind (qe fun oX k4=> ?_);have sE:=JX.trans k4;obtain ⟨p,ep,mp,rp⟩:=inb ib (by (clear le a1 hy hx ea e eb hl h0 ha1 hk;lia));have cL:p=b[ib]:=by rw [getElem?_pos b ib (by (clear rp ep le a1 hy hx ea e eb hl h0 ha1 hk;lia))] at ep;exact (Option.some.inj ep).symm
     refine wpS_bind (bY ep (wpS_bind (je C (sE.k.trans hk) mp ha (by (clear cL rp ep le b1 hy hx ea e eb hl h0 ha1 hk;lia)) (by (clear cL rp ep le b1 hy hx ea e eb hl h0 ha1 hk;lia)) (fun i j h1 h2 h3=>sa i j (by (clear h3 h2 h1 cL rp ep le b1 a1 hy hx ea e eb hl h0 ha1 hk;lia)) h2 (by (clear h2 h1 cL rp ep le b1 hy hx ea e eb hl h0 ha1 hk;lia))) fun k k1 k2 k3=> ?_)));dsimp only
     have mA:MI rk a b (out++a.extract ia (ia+k)) (ia+k) ib:=m.vm (k:=k) fun i hi hs j j1 j2=>by
      have e1:=Vx (k2 i hi);have e2:=sb ib j (by (clear e1 j2 j1 hs hi k1 cL rp ep le b1 a1 hy hx ea e eb hl h0 ha1 hk;lia)) j1 j2;rw [rp] at e2
      (clear j2 j1 hs hi k1 cL rp ep le b1 a1 hy hx ea e eb hl h0 ha1 hk;lia)
     have nxt:∀j,ia+k<=j->j<a.size->R rk b ib<=R rk a j:=fun j j1 j2=>by
      have:=RZ (k3 (j - ia) (by (clear j2 k1 cL rp ep le b1 a1 hy hx ea e eb hl h0 ha1 hk;lia)) (by (clear j1 k1 cL rp ep le b1 hy hx ea e eb hl h0 ha1 hk;lia)));rw [show ia+(j - ia)=j by (clear this j2 k1 cL rp ep le b1 a1 hy hx ea e eb hl h0 ha1 hk;lia)] at this;rw [rp];(clear j2 j1 k1 cL rp ep le b1 a1 hy hx ea e eb hl h0 ha1 hk;lia)
     apply aW
     case' h1=>
      intro kpos;refine aW (fun e=> ?_) (fun e=> ?_)
      ·have e:ia+k+1=a.size:=by simpa using e
       exact wpS_pure ⟨sE,.inl ⟨_,_,rfl,mA.last fun i j _ hi _ hj=>mid i j hi (by (clear hi kpos k1 cL rp ep le b1 a1 hy hx ea eb hl h0 ha1 hk;lia))⟩⟩
      have e1:¬ia+k+1=a.size:=by simpa using e
      refine aW (fun e=> ?_) (fun e=> ?_)
      ·exact wpS_pure ⟨sE,.inl ⟨_,_,rfl,mA.done (.inl (by simpa using e))⟩⟩
      have e2:¬ia+k=a.size:=by simpa using e
      have a3:ia+k+2<=a.size:=by (clear e kpos cL rp ep le b1 hy hx ea eb hl h0 ha1 hk;lia)
      have gU:(a.size - (ia+k))+(b.size - ib)+x+1+y<=a.size+b.size:=by (clear a3 e2 e e1 kpos k1 cL rp ep b1 a1 hy hx ea eb hl h0 ha1 hk;lia)
      generalize out++a.extract ia (ia+k)=ang at mA ⊢;generalize ia+k=ia3 at mA nxt a3 gU ⊢
     case' h2=>
      intro kpos;have k0:k=0:=by (clear k1 cL rp ep le b1 a1 hy hx ea e eb hl h0 ha1 hk;lia)
      have a3:ia+2<=a.size:=by (clear k0 kpos k1 cL rp ep le b1 hy hx ea e eb hl h0 ha1 hk;lia)
      have gU:(a.size - ia)+(b.size - ib)+x+1+y<=a.size+b.size:=by (clear a3 k0 kpos k1 cL rp ep b1 a1 hy hx ea e eb hl h0 ha1 hk;lia)
      subst k0
      replace nxt:∀j,ia<=j->j<a.size->R rk b ib<=R rk a j:=nxt
      replace mA:=m
     all_goals
      have mB:=mA.yd (by (clear kpos k1 gU a3 cL rp ep le a1 hy hx ea e eb hl h0 ha1 hk;lia)) nxt;rw [←cL] at mB;refine wpS_bind (bY ep ?_);refine aW (fun e=> ?_) (fun e=> ?_)
      ·exact wpS_pure ⟨sE,.inl ⟨_,_,rfl,mB.done (.inr (by simpa using e))⟩⟩
      have e3:¬ib+1=b.size:=by simpa using e
      obtain ⟨q,eq,mq,rq⟩:=V4 _ (show _<a.size from Nat.lt_of_lt_of_le (Nat.lt_succ_of_lt (Nat.lt_succ_self _)) a3);refine wpS_bind (bY eq (wpS_bind (je C (sE.k.trans hk) mq hb (by (clear rq eq e3 e kpos k1 gU a3 cL rp ep le a1 hy hx ea eb hl h0 ha1 hk;lia)) (by (clear rq eq e kpos k1 gU a3 cL rp ep le a1 hy hx ea eb hl h0 ha1 hk;lia)) (fun i j h1 h2 h3=>sb i j (by (clear h3 h2 h1 rq eq e3 e kpos k1 gU a3 cL rp ep le b1 a1 hy hx ea eb hl h0 ha1 hk;lia)) h2 (by (clear h2 h1 rq eq e3 e kpos k1 gU a3 cL rp ep le a1 hy hx ea eb hl h0 ha1 hk;lia))) fun k' l1 l2 l3=> ?_)));dsimp only
      have mC:=mB.vh (k:=k') fun i hi hs j j1 j2=>by
       have e1:=Ze (l2 i hi);have e2:=sa _ j (by (clear e1 j2 j1 hs hi l1 rq eq e3 e kpos k1 gU a3 cL rp ep le b1 a1 hy hx ea eb hl h0 ha1 hk;lia)) j1 j2;rw [rq] at e2
       (clear j2 j1 hs hi l1 rq eq e3 e kpos k1 gU a3 cL rp ep le b1 a1 hy hx ea eb hl h0 ha1 hk;lia)
      apply aW
      case' h1=>
       intro kpos;refine aW (fun e=> ?_) (fun e=> ?_)
       ·exact wpS_pure ⟨sE,.inl ⟨_,_,rfl,mC.done (.inr (by simpa using e))⟩⟩
       have e5:¬ib+1+k'=b.size:=by simpa using e
       have nx:∀j,ib+1+k'<=j->j<b.size->rk q.1<=R rk b j:=fun j j1 j2=>by
        have:=Gs (l3 (j - (ib+1)) (by (clear j2 e5 e kpos l1 rq eq e3 k1 gU a3 cL rp ep le b1 a1 hy hx ea eb hl h0 ha1 hk;lia)) (by (clear j1 e5 e kpos l1 rq eq k1 gU a3 cL rp ep le a1 hy hx ea eb hl h0 ha1 hk;lia)));rw [show ib+1+(j - (ib+1))=j by (clear this j2 e5 e kpos l1 rq eq e3 k1 gU a3 cL rp ep le b1 a1 hy hx ea eb hl h0 ha1 hk;lia)] at this
        (clear j2 j1 e5 e kpos l1 rq eq e3 k1 gU a3 cL rp ep le b1 a1 hy hx ea eb hl h0 ha1 hk;lia)
       have b3:ib+1+k'+1<=b.size:=by (clear e kpos rq eq e3 k1 gU a3 cL rp ep le a1 hy hx ea eb hl h0 ha1 hk;lia)
      case' h2=>
       intro kpos;have k0:k'=0:=by (clear l1 rq eq e3 e k1 gU a3 cL rp ep le b1 a1 hy hx ea eb hl h0 ha1 hk;lia)
       have nx:∀j,ib+1<=j->j<b.size->rk q.1<=R rk b j:=fun j j1 j2=>by
        have:=Gs (l3 (j - (ib+1)) (by (clear j2 j1 k0 l1 rq eq e3 e k1 gU a3 cL rp ep le b1 a1 hy hx ea eb hl h0 ha1 hk;lia)) (by (clear j1 k0 kpos l1 rq eq e k1 gU a3 cL rp ep le a1 hy hx ea eb hl h0 ha1 hk;lia)));rw [show ib+1+(j - (ib+1))=j by (clear this j2 k0 kpos l1 rq eq e3 e k1 gU a3 cL rp ep le b1 a1 hy hx ea eb hl h0 ha1 hk;lia)] at this
        (clear j2 j1 k0 kpos l1 rq eq e3 e k1 gU a3 cL rp ep le b1 a1 hy hx ea eb hl h0 ha1 hk;lia)
       have b3:ib+1+1<=b.size:=by (clear k0 kpos l1 rq eq e k1 gU a3 cL rp ep le a1 hy hx ea eb hl h0 ha1 hk;lia)
       replace mC:=mB
      all_goals
       have mD:=mC.yg (by (clear b3 kpos l1 rq eq e3 e k1 gU cL rp ep le b1 hy hx ea eb hl h0 ha1 hk;lia)) (fun j j1 j2=>by rw [rq];exact nx j j1 j2);have ig:=Option.some.inj ((getElem?_pos a _ (by (clear b3 kpos l1 rq eq e3 e k1 gU cL rp ep le b1 hy hx ea eb hl h0 ha1 hk;lia))).symm.trans eq);rw [ig] at mD;refine wpS_bind (bY eq ?_);refine aW (fun e=> ?_) (fun e=> ?_)
       ·exact wpS_pure ⟨sE,.inl ⟨_,_,rfl,mD.last fun i j _ hi _ hj=>mid i j hi (by have e:=eq_of_beq e;(clear hi ig b3 kpos l1 rq eq e3 k1 gU a3 cL rp ep le b1 a1 hy hx ea eb hl h0 ha1 hk;lia))⟩⟩
       have e6:¬_=a.size:=fun z=>e (beq_iff_eq.mpr z);refine aW (fun _=> ?_) (fun _=> ?_)
       ·exact wpS_pure ⟨sE,.inr ⟨_,_,_,_,_,_,rfl,mD,by (clear e ig b3 kpos l1 rq eq e3 k1 gU cL rp ep le b1 hy hx ea eb hl h0 ha1 hk;lia),by (clear e6 e ig b3 kpos rq eq k1 gU a3 cL rp ep le a1 hy hx ea eb hl h0 ha1 hk;lia),by (clear e6 e ig b3 kpos l1 rq eq e3 k1 a3 cL rp ep b1 a1 hy hx ea eb hl h0 ha1 hk;lia)⟩⟩
       ·exact wpS_pure ⟨sE,_,_,_,_,_,_,rfl,mD,by (clear e ig b3 kpos l1 rq eq e3 k1 gU cL rp ep le b1 hy hx ea eb hl h0 ha1 hk;lia),by (clear e6 e ig b3 kpos rq eq k1 gU a3 cL rp ep le a1 hy hx ea eb hl h0 ha1 hk;lia),by (clear e6 e ig b3 kpos l1 rq eq e3 k1 a3 cL rp ep hy hx ea eb hl h0 ha1 hk;lia)⟩
end
end Tim
set_option Elab.async false
set_option linter.all false
set_option maxRecDepth 100000
set_option maxHeartbeats 4000000
namespace Tim
open PySem PyProof.Rows
abbrev jO (a b out:Array Keyed) (na nb:Nat):Array Keyed:=a.extract 0 na++b.extract 0 nb++out.reverse
abbrev qD (a b out:Array Keyed) (na nb:Nat):Array Keyed:=b.extract 0 nb++a.extract 0 na++out.reverse
theorem Fd (a b:Array Keyed):yC a b=(do
 rule "list.sort.merge-hi"
 let total:=a.size+b.size
 let mut na:=a.size - 1
 let mut nb:=b.size
 let mut out:Array Keyed:= #[←elem' a na]
 if na==0 then return jO a b out na nb
 if nb==1 then return qD a b out na nb
 let mut minGallop:=gallopOf (←get)
 for _ in [0:total] do
  let mut acount:=0
  let mut bcount:=0
  for _ in [0:total] do
   let some aWins ←lt' (←elem' b (nb - 1)) (←elem' a (na - 1))|return jO a b out na nb
   if aWins then
    na:=na - 1;out:=out.push (←elem' a na);acount:=acount+1;bcount:=0
    if na==0 then return jO a b out na nb
    if acount≥minGallop then break
   else
    nb:=nb - 1;out:=out.push (←elem' b nb);bcount:=bcount+1;acount:=0
    if nb==1 then return qD a b out na nb
    if bcount≥minGallop then break
  rule "list.sort.gallop"
  minGallop:=minGallop+1
  for _ in [0:total] do
   if minGallop>1 then minGallop:=minGallop - 1
   fV minGallop
   let some at_ ←lV false (←elem' b (nb - 1)) a 0 na (na - 1)|return jO a b out na nb
   let k:=na - at_
   acount:=k
   if k>0 then
    out:=out++(a.extract at_ na).reverse;na:=at_
    if na==0 then return jO a b out na nb
   nb:=nb - 1;out:=out.push (←elem' b nb)
   if nb==1 then return qD a b out na nb
   let some at_ ←lV true (←elem' a (na - 1)) b 0 nb (nb - 1)|return jO a b out na nb
   let k:=nb - at_
   bcount:=k
   if k>0 then
    out:=out++(b.extract at_ nb).reverse;nb:=at_
    if nb==1 then return qD a b out na nb
    if nb==0 then return jO a b out na nb
   na:=na - 1;out:=out.push (←elem' a na)
   if na==0 then return jO a b out na nb
   if acount<7&&bcount<7 then break
  minGallop:=minGallop+1
  fV minGallop
 unsupported "internal:list.sort.merge-bound"):=rfl
section
variable {rk:Value->Nat} {a b out:Array Keyed} {na nb k:Nat}
structure MH (rk:Value->Nat) (a b out:Array Keyed) (na nb:Nat):Prop where
 perm:(a.toList.take na++(b.toList.take nb++out.toList.reverse)).Perm (a.toList++b.toList)
 sa:Ny rk (a.toList.take na++out.toList.reverse)
 sb:Ny rk (b.toList.take nb++out.toList.reverse)
theorem GZ (l:List Keyed) {i j:Nat} (h:i<=j):l.take j=l.take i++(l.drop i).take (j - i):=by
 rw [List.take_drop,show i+(j - i)=j by lia];have:=(List.take_append_drop i (l.take j)).symm;rwa [List.take_take,Nat.min_eq_left h] at this
theorem LC {a:Array Keyed} {x:Keyed} (h:x∈a.toList.take na):∃j,j<na/\j<a.size/\R rk a j=rk x.1:=by
 have h':x∈(a.toList.drop 0).take na:=by rw [List.drop_zero];exact h
 obtain ⟨j,j1,j2,j3⟩:=ju (rk:=rk) h';rw [Nat.zero_add] at j2 j3;exact ⟨j,j1,j2,j3⟩
theorem MH.vm (m:MH rk a b out na nb) {at_:Nat} (hat:at_<=na) (hle:∀i,at_<=i->i<na->i<a.size -> ∀j,j<nb->j<b.size->R rk b j<=R rk a i):MH rk a b (out++(a.extract at_ na).reverse) at_ nb:=by
 have e:(out++(a.extract at_ na).reverse).toList.reverse=(a.toList.drop at_).take (na - at_)++out.toList.reverse:=by
  rw [Array.toList_append,List.reverse_append,Array.toList_reverse,List.reverse_reverse,dG]
 have sp:=GZ a.toList hat;refine ⟨?_, ?_, ?_⟩
 ·rw [e]
  refine List.Perm.trans ?_ m.perm;rw [sp,List.append_assoc];refine List.Perm.append_left _ ?_;rw [←List.append_assoc,←List.append_assoc];exact List.Perm.append_right _ List.perm_append_comm
 ·rw [e,←List.append_assoc,←sp]
  exact m.sa
 ·rw [e]
  have h1:=m.sa;rw [sp,List.append_assoc] at h1;have h2:=jr.mp (jr.mp h1).2.1;have h3:=jr.mp m.sb;refine jr.mpr ⟨h3.1,jr.mpr ⟨h2.1,h3.2.1,h2.2.2⟩,fun p hp q hq=> ?_⟩;rcases List.mem_append.mp hq with hq|hq
  ·obtain ⟨i,i1,i2,i3⟩:=LC (rk:=rk) hp
   obtain ⟨j,j1,j2,j3⟩:=ju (rk:=rk) hq;rw [←i3,←j3];exact hle _ (by (clear j3 j2 j1 i3 i2 i1 h3 h2 sp e hat;lia)) (by (clear j3 j2 i3 i2 i1 h3 h2 sp e hat;lia)) j2 i i1 i2
  ·exact h3.2.2 p hp q hq
theorem MH.swap (m:MH rk a b out na nb):MH rk b a out nb na:=by
 refine ⟨?_,m.sb,m.sa⟩;refine List.Perm.trans ?_ (m.perm.trans List.perm_append_comm);rw [←List.append_assoc,←List.append_assoc];exact List.Perm.append_right _ List.perm_append_comm
theorem MH.vh (m:MH rk a b out na nb) {at_:Nat} (hat:at_<=nb) (hle:∀i,at_<=i->i<nb->i<b.size -> ∀j,j<na->j<a.size->R rk a j<=R rk b i):MH rk a b (out++(b.extract at_ nb).reverse) na at_:=(m.swap.vm hat hle).swap
theorem O9 (h1:1<=na) (h:na<=a.size):out.push (a[na - 1]'(by lia))=out++(a.extract (na - 1) na).reverse:=by
 have e:=DX (out:= #[]) (b:=a) (ib:=na - 1) (by lia);rw [show na - 1+1=na by (clear e h;lia)] at e
 have e2:a.extract (na - 1) na = #[a[na - 1]'(by (clear e;lia))]:=by
  apply Array.toList_inj.mp;have:=congrArg Array.toList e;rw [Array.toList_append] at this;simpa using this.symm
 rw [e2];apply Array.toList_inj.mp;simp
theorem MH.yg (m:MH rk a b out na nb) (h1:1<=na) (h:na<=a.size) (hle:∀j,j<nb->j<b.size->R rk b j<=R rk a (na - 1)):MH rk a b (out.push (a[na - 1]'(by lia))) (na - 1) nb:=by
 rw [O9 h1 h];refine m.vm (by (clear h h1;lia)) fun i i1 i2 i3 j j1 j2=> ?_;have:i=na - 1:=by (clear j2 j1 i3 h h1;lia)
 subst this;exact hle j j1 j2
theorem MH.yd (m:MH rk a b out na nb) (h1:1<=nb) (h:nb<=b.size) (hle:∀j,j<na->j<a.size->R rk a j<=R rk b (nb - 1)):MH rk a b (out.push (b[nb - 1]'(by lia))) na (nb - 1):=(m.swap.yg h1 h hle).swap
theorem wN:(jO a b out na nb).toList=a.toList.take na++(b.toList.take nb++out.toList.reverse):=by
 unfold jO;rw [Array.toList_append,Array.toList_append,dG,dG,Array.toList_reverse,List.append_assoc];rfl
theorem MH.done (m:MH rk a b out na nb) (h:na=0\/nb=0):Mg rk a b (jO a b out na nb):=by
 refine ⟨by rw [wN];exact m.perm, ?_⟩;rw [wN];rcases h with h|h
 ·subst h
  exact m.sb
 ·subst h
  exact m.sa
theorem MH.first (m:MH rk a b out na nb) (h:∀i j,i<nb->i<b.size->j<na->j<a.size->R rk b i<=R rk a j):Mg rk a b (qD a b out na nb):=by
 have m2:=m.vm (at_:=0) (by lia) fun i _ i2 i3 j j1 j2=>h j i j1 j2 i2 i3
 have e:qD a b out na nb=jO a b (out++(a.extract 0 na).reverse) 0 nb:=by
  apply Array.toList_inj.mp;rw [wN,wN,Array.toList_append,List.reverse_append,Array.toList_reverse,List.reverse_reverse,dG];simp
 rw [e];exact m2.done (.inl rfl)
end
section
variable {prog:Program} {w:World} {A:Around} {E:Value->Shared->Prop} {s:Shared} {κ:SortKind} {a₀:Array Keyed} {rk:Value->Nat}
theorem Dv {st:SortSt} {a b:Array Keyed} {Q:Array Keyed->SortSt->Prop} (C:Jp prog w A s κ a₀ rk) (hk:kindOf st=κ) (ha:∀p∈a.toList,p∈a₀.toList) (hb:∀p∈b.toList,p∈a₀.toList)
 (ha1:1<=a.size) (hb1:1<=b.size) (sa:Seg rk a 0 a.size) (sb:Seg rk b 0 b.size) (h0:R rk b 0<=R rk a 0) (hl:R rk b (b.size - 1)<=R rk a (a.size - 1))
 (h:∀r st',Dt st st'->Mg rk a b r->Q r st'):wpS (model prog w) A E s (yC a b) Q st:=by
 have inb:∀i,i<b.size -> ∃p,b[i]? = some p/\p∈a₀.toList/\R rk b i=rk p.1:=fun i hi=>⟨b[i],getElem?_pos b i hi,hb _ (by simp),iV hi⟩;have V4:∀i,i<a.size -> ∃p,a[i]? = some p/\p∈a₀.toList/\R rk a i=rk p.1:=fun i hi=>⟨a[i],getElem?_pos a i hi,ha _ (by simp),iV hi⟩
 have mid:∀i j nb,i<nb->nb=1->j<a.size->R rk b i<=R rk a j:=fun i j nb hi hn hj=>by
  have:=sa 0 j (by (clear hj hn hi hl h0 hb1 ha1 hk;lia)) (by (clear hj hn hi hl h0 hb1 ha1 hk;lia)) hj;have e:i=0:=by (clear this hj hl h0 hb1 ha1 hk;lia)
  subst e
  (clear hi hj hn hl hb1 ha1 hk;lia)
 have m0:MH rk a b #[a[a.size - 1]] (a.size - 1) b.size:=by
  have m:MH rk a b #[] a.size b.size:=by
   refine ⟨?_, ?_, ?_⟩
   ·rw [←Array.length_toList,←Array.length_toList,List.take_length,List.take_length];simp
   ·rw [←Array.length_toList,List.take_length]
    show Ny rk (a.toList++[]);rw [List.append_nil];refine List.pairwise_iff_getElem.mpr fun i j hi hj hij=> ?_;rw [Array.length_toList] at hi hj;have:=sa i j (by (clear hij hj hi hl h0 hb1 ha1 hk;lia)) (by (clear hj hi hl h0 hb1 ha1 hk;lia)) hj;rw [iV hi,iV hj] at this;simpa [Le] using this
   ·rw [←Array.length_toList,List.take_length]
    show Ny rk (b.toList++[]);rw [List.append_nil];refine List.pairwise_iff_getElem.mpr fun i j hi hj hij=> ?_;rw [Array.length_toList] at hi hj;have:=sb i j (by (clear hij hj hi hl h0 hb1 ha1 hk;lia)) (by (clear hj hi hl h0 hb1 ha1 hk;lia)) hj;rw [iV hi,iV hj] at this;simpa [Le] using this
  exact m.yg ha1 (Nat.le_refl _) fun j j1 j2=>Nat.le_trans (sb j (b.size - 1) (by (clear j2 j1 hl h0 hb1 ha1 hk;lia)) (by (clear j2 hl h0 hb1 ha1 hk;lia)) (by (clear j2 j1 hl h0 ha1 hk;lia))) hl
 rw [Fd];refine wpS_bind (wpS_lift (wpAny_rule ⟨rfl, ?_⟩));refine wpS_bind (bY (p:=a[a.size - 1]) (getElem?_pos a _ (by (clear hl h0 hb1 hk;lia))) ?_);dsimp only;refine aW (fun e=> ?_) (fun e=> ?_)
 ·exact wpS_pure (h _ _ (.refl _) (m0.done (.inl (by simpa using e))))
 have ea:¬a.size - 1=0:=fun z=>e (beq_iff_eq.mpr z);refine aW (fun e=> ?_) (fun e=> ?_)
 ·exact wpS_pure (h _ _ (.refl _) (m0.first fun i j i1 i2 j1 j2=>mid i j _ i1 (by simpa using e) j2))
 have eb:¬b.size=1:=by simpa using e
 refine wpS_bind (wpS_get ?_)
 refine wpS_bind (wpS_mono (wpS_forRange (I:=fun x c st'=>Dt st st' /\ ∃na nb out mg,c=(none,na,nb,out,mg)/\MH rk a b out na nb/\1<=na/\2<=nb/\na<=a.size/\nb<=b.size/\na+nb+x<=a.size+b.size)
  (Q:=fun c st'=>Dt st st' /\ ∃r cc,c=(some r,cc)/\Mg rk a b r) ?step ?fin ⟨.refl _,_,_,_,_,rfl,m0,by (clear eb e hl h0 hb1 hk;lia),by (clear e ea hl h0 hk;lia),by (clear eb e ea hl h0 hb1 hk;lia),by (clear eb e ea hl h0 hb1 hk;lia),by (clear eb e ea hl h0 hb1 hk;lia)⟩) ?post)
 case post=>
  rintro c st' ⟨kp,r,cc,rfl,m⟩;exact wpS_pure (h _ _ kp m)
 case fin=>
  rintro c st' ⟨kp,na,nb,out,mg,rfl,m,a1,b1,a2,b2,le⟩
  (clear b2 a2 b1 eb e ea hl h0 hb1 hk;lia)
 case step=>
  rintro x c st' _ hx ⟨kp,na,nb,out,mg,rfl,m,a1,b1,a2,b2,le⟩;dsimp only
  refine wpS_bind (wpS_mono (wpS_forRange (I:=fun y c st2=>st2=st' /\ ∃na nb out ac bc,c=(none,na,nb,out,ac,bc)/\MH rk a b out na nb/\1<=na/\2<=nb/\na<=a.size/\nb<=b.size/\na+nb+x+y<=a.size+b.size)
   (Q:=fun c st2=>st2=st'/\((∃r cc,c=(some r,cc)/\Mg rk a b r) \/ ∃na nb out ac bc,c=(none,na,nb,out,ac,bc)/\MH rk a b out na nb/\1<=na/\2<=nb/\na<=a.size/\nb<=b.size/\na+nb+x+1<=a.size+b.size)) ?step1 ?YC ⟨rfl,_,_,_,_,_,rfl,m,a1,b1,a2,b2,by (clear b2 a2 b1 a1 hx eb e ea hl h0 hb1 hk;lia)⟩) ?Ph)
  case YC=>
   rintro c st2 ⟨rfl,na,nb,out,ac,bc,rfl,m,a1,b1,a2,b2,le⟩
   (clear b2 a2 b1 hx eb e ea hl h0 hb1 hk;lia)
  case step1=>
   rintro y c st2 _ hy ⟨rfl,na,nb,out,ac,bc,rfl,m,a1,b1,a2,b2,le⟩;dsimp only;obtain ⟨p,ep,mp,rp⟩:=inb (nb - 1) (by (clear le a2 b1 a1 hy hx eb e ea hl h0 hb1 hk;lia));obtain ⟨q,eq,mq,rq⟩:=V4 (na - 1) (by (clear rp ep le b2 b1 a1 hy hx eb e ea hl h0 hb1 hk;lia));refine wpS_bind (bY ep (wpS_bind (bY eq (wpS_bind (xr C (kp.k.trans hk) mp mq ?_)))));dsimp only;have cL:b[nb - 1]=p:=Option.some.inj ((getElem?_pos b _ (by (clear rq eq rp ep le a2 b1 a1 hy hx eb e ea hl h0 hb1 hk;lia))).symm.trans ep);have ig:a[na - 1]=q:=Option.some.inj ((getElem?_pos a _ (by (clear cL rq eq rp ep le b2 b1 a1 hy hx eb e ea hl h0 hb1 hk;lia))).symm.trans eq);refine aW (fun lt=> ?_) (fun lt=> ?_)
   ·have lt:R rk b (nb - 1)<R rk a (na - 1):=by rw [rp,rq];simpa using lt
    have m2:=m.yg a1 a2 fun j j1 j2=>by have:=sb j (nb - 1) (by (clear j2 j1 lt ig cL rq eq rp ep le b2 a2 b1 a1 hy hx eb e ea hl h0 hb1 hk;lia)) (by (clear j2 lt ig cL rq eq rp ep le b2 a2 b1 a1 hy hx eb e ea hl h0 hb1 hk;lia)) (by (clear j2 j1 lt ig cL rq eq rp ep le a2 b1 a1 hy hx eb e ea hl h0 hb1 hk;lia));(clear j2 j1 ig cL rq eq rp ep le b2 a2 b1 a1 hy hx eb e ea hl h0 hb1 hk;lia)
    rw [ig] at m2;refine wpS_bind (bY eq ?_);refine aW (fun e=> ?_) (fun e=> ?_)
    ·exact wpS_pure ⟨rfl,.inl ⟨_,_,rfl,m2.done (.inl (by simpa using e))⟩⟩
    have e:¬na - 1=0:=fun z=>e (beq_iff_eq.mpr z);refine aW (fun _=> ?_) (fun _=> ?_)
    ·exact wpS_pure ⟨rfl,.inr ⟨_,_,_,_,_,rfl,m2,by (clear lt ig cL rq eq rp ep le b2 a2 b1 a1 hy hx eb ea hl h0 hb1 hk;lia),b1,by (clear e lt ig cL rq eq rp ep le b2 b1 a1 hy hx eb ea hl h0 hb1 hk;lia),b2,by (clear e lt ig cL rq eq rp ep b2 a2 b1 hy hx eb ea hl h0 hb1 hk;lia)⟩⟩
    ·exact wpS_pure ⟨rfl,_,_,_,_,_,rfl,m2,by (clear lt ig cL rq eq rp ep le b2 a2 b1 a1 hy hx eb ea hl h0 hb1 hk;lia),b1,by (clear e lt ig cL rq eq rp ep le b2 b1 a1 hy hx eb ea hl h0 hb1 hk;lia),b2,by (clear e lt ig cL rq eq rp ep b2 a2 b1 hy hx eb ea hl h0 hb1 hk;lia)⟩
   ·have lt:R rk a (na - 1)<=R rk b (nb - 1):=by rw [rp,rq];simpa using lt
    have m2:=m.yd (by (clear lt ig cL rq eq rp ep le b2 a2 a1 hy hx eb e ea hl h0 hb1 hk;lia)) b2 fun j j1 j2=>by have:=sa j (na - 1) (by (clear j2 j1 lt ig cL rq eq rp ep le b2 a2 b1 a1 hy hx eb e ea hl h0 hb1 hk;lia)) (by (clear j2 lt ig cL rq eq rp ep le b2 a2 b1 a1 hy hx eb e ea hl h0 hb1 hk;lia)) (by (clear j2 j1 lt ig cL rq eq rp ep le b2 b1 a1 hy hx eb e ea hl h0 hb1 hk;lia));(clear j2 j1 ig cL rq eq rp ep le b2 a2 b1 a1 hy hx eb e ea hl h0 hb1 hk;lia)
    rw [cL] at m2;refine wpS_bind (bY ep ?_);refine aW (fun e=> ?_) (fun e=> ?_)
    ·exact wpS_pure ⟨rfl,.inl ⟨_,_,rfl,m2.first fun i j i1 i2 j1 j2=>mid i j _ i1 (eq_of_beq e) j2⟩⟩
    have e:¬nb - 1=1:=fun z=>e (beq_iff_eq.mpr z);refine aW (fun _=> ?_) (fun _=> ?_)
    ·exact wpS_pure ⟨rfl,.inr ⟨_,_,_,_,_,rfl,m2,a1,by (clear lt ig cL rq eq rp ep le b2 a2 a1 hy hx eb ea hl h0 hb1 hk;lia),a2,by (clear e lt ig cL rq eq rp ep le a2 b1 a1 hy hx eb ea hl h0 hb1 hk;lia),by (clear e lt ig cL rq eq rp ep b2 a2 a1 hy hx eb ea hl h0 hb1 hk;lia)⟩⟩
    ·exact wpS_pure ⟨rfl,_,_,_,_,_,rfl,m2,a1,by (clear lt ig cL rq eq rp ep le b2 a2 a1 hy hx eb ea hl h0 hb1 hk;lia),a2,by (clear e lt ig cL rq eq rp ep le a2 b1 a1 hy hx eb ea hl h0 hb1 hk;lia),by (clear e lt ig cL rq eq rp ep b2 a2 a1 hy hx eb ea hl h0 hb1 hk;lia)⟩
  case Ph=>
   rintro c st2 ⟨rfl,(⟨r,cc,rfl,mr⟩|⟨na,nb,out,ac,bc,rfl,m,a1,b1,a2,b2,le⟩)⟩
   ·exact wpS_pure ⟨kp,r,_,rfl,mr⟩
   dsimp only;refine wpS_bind (wpS_lift (wpAny_rule ⟨rfl, ?_⟩))
   refine wpS_bind (wpS_mono (wpS_forRange (I:=fun y c st3=>Dt st st3 /\ ∃na nb out mg ac bc,c=(none,na,nb,out,mg,ac,bc)/\MH rk a b out na nb/\1<=na/\2<=nb/\na<=a.size/\nb<=b.size/\na+nb+x+1+y<=a.size+b.size)
    (Q:=fun c st3=>Dt st st3/\((∃r cc,c=(some r,cc)/\Mg rk a b r) \/ ∃na nb out mg ac bc,c=(none,na,nb,out,mg,ac,bc)/\MH rk a b out na nb/\1<=na/\2<=nb/\na<=a.size/\nb<=b.size/\na+nb+x+1<=a.size+b.size)) ?Ou ?fin2 ⟨kp,_,_,_,_,_,_,rfl,m,a1,b1,a2,b2,by (clear b2 a2 b1 a1 hx eb e ea hl h0 hb1 hk;lia)⟩) ?post2)
   case fin2=>
    rintro c st3 ⟨JX,na,nb,out,mg,ac,bc,rfl,m,a1,b1,a2,b2,le⟩
    (clear b2 a2 b1 a1 hx eb e ea hl h0 hb1 hk;lia)
   case post2=>
    rintro c st3 ⟨JX,(⟨r,cc,rfl,mr⟩|⟨na,nb,out,mg,ac,bc,rfl,m,a1,b1,a2,b2,le⟩)⟩
    ·exact wpS_pure ⟨JX,r,_,rfl,mr⟩
    dsimp only;refine wpS_bind (qe fun oX k4=>wpS_pure ⟨JX.trans k4,_,_,_,_,rfl,m,a1,b1,a2,b2,by (clear b2 a2 b1 a1 hx eb e ea hl h0 hb1 hk;lia)⟩)
   case Ou=>
    rintro y c st3 _ hy ⟨JX,na,nb,out,mg,ac,bc,rfl,m,a1,b1,a2,b2,le⟩;dsimp only;refine aW (fun _=> ?_) (fun _=> ?_)
    all_goals
     refine wpS_bind (qe fun oX k4=> ?_);have sE:=JX.trans k4;obtain ⟨p,ep,mp,rp⟩:=inb (nb - 1) (by (clear le a2 b1 a1 hy hx eb e ea hl h0 hb1 hk;lia));have cL:b[nb - 1]=p:=Option.some.inj ((getElem?_pos b _ (by (clear rp ep le a2 b1 a1 hy hx eb e ea hl h0 hb1 hk;lia))).symm.trans ep);refine wpS_bind (bY ep (wpS_bind (je C (sE.k.trans hk) mp ha (by (clear cL rp ep le b2 b1 a1 hy hx eb e ea hl h0 hb1 hk;lia)) (by (clear cL rp ep le b2 a2 b1 hy hx eb e ea hl h0 hb1 hk;lia)) (fun i j h1 h2 h3=>sa i j (by (clear h3 h2 h1 cL rp ep le b2 a2 b1 a1 hy hx eb e ea hl h0 hb1 hk;lia)) h2 (by (clear h2 h1 cL rp ep le b2 b1 a1 hy hx eb e ea hl h0 hb1 hk;lia))) fun k k1 k2 k3=> ?_)));dsimp only;simp only [Nat.zero_add] at k2 k3
     have mA:=m.vm k1 fun i i1 i2 i3 j j1 j2=>by
      have e1:=RZ (k3 i i1 i2);have e2:=sb j (nb - 1) (by (clear e1 j2 j1 i3 i2 i1 k1 cL rp ep le b2 a2 b1 a1 hy hx eb e ea hl h0 hb1 hk;lia)) (by (clear e1 j2 i3 i2 i1 k1 cL rp ep le b2 a2 b1 a1 hy hx eb e ea hl h0 hb1 hk;lia)) (by (clear e1 j2 j1 i3 i2 i1 k1 cL rp ep le a2 b1 a1 hy hx eb e ea hl h0 hb1 hk;lia))
      (clear j2 j1 i3 i2 i1 k1 cL ep le b2 a2 b1 a1 hy hx eb e ea hl h0 hb1 hk;lia)
     have nxt:∀j,j<k->j<a.size->R rk a j<=R rk b (nb - 1):=fun j j1 j2=>by
      have:=Vx (k2 j j1)
      (clear j2 j1 k1 cL ep le b2 a2 b1 a1 hy hx eb e ea hl h0 hb1 hk;lia)
     apply aW
     case' h1=>
      intro kpos;refine aW (fun e=> ?_) (fun e=> ?_)
      ·exact wpS_pure ⟨sE,.inl ⟨_,_,rfl,mA.done (.inl (by simpa using e))⟩⟩
      have e1:¬k=0:=fun z=>e (beq_iff_eq.mpr z);have a3:1<=k:=by (clear e kpos k1 cL rp ep le b2 a2 b1 a1 hy hx eb ea hl h0 hb1 hk;lia)
      have a4:k<=a.size:=by (clear a3 e1 e kpos cL rp ep le b2 b1 a1 hy hx eb ea hl h0 hb1 hk;lia)
      have gU:k+nb+x+1+y<=a.size+b.size:=by (clear a4 a3 e1 e kpos cL rp ep b2 a2 b1 a1 hy hx eb ea hl h0 hb1 hk;lia)
     case' h2=>
      intro kpos;have k0:k=na:=by (clear cL rp ep le b2 a2 b1 a1 hy hx eb e ea hl h0 hb1 hk;lia)
      have a3:1<=na:=a1;have a4:na<=a.size:=a2;have gU:na+nb+x+1+y<=a.size+b.size:=by (clear a4 a3 k0 kpos k1 cL rp ep b2 a2 b1 a1 hy hx eb e ea hl h0 hb1 hk;lia)
      rw [k0] at nxt
      replace mA:=m
     all_goals
      have mB:=mA.yd (by (clear gU a4 a3 kpos k1 cL rp ep le b2 a2 a1 hy hx eb e ea hl h0 hb1 hk;lia)) b2 nxt;rw [cL] at mB;refine wpS_bind (bY ep ?_);refine aW (fun e=> ?_) (fun e=> ?_)
      ·exact wpS_pure ⟨sE,.inl ⟨_,_,rfl,mB.first fun i j i1 i2 j1 j2=>mid i j _ i1 (eq_of_beq e) j2⟩⟩
      have e3:¬nb - 1=1:=fun z=>e (beq_iff_eq.mpr z);obtain ⟨q,eq,mq,rq⟩:=V4 _ (Nat.lt_of_lt_of_le (Nat.sub_lt a3 Nat.one_pos) a4);refine wpS_bind (bY eq (wpS_bind (je C (sE.k.trans hk) mq hb (by (clear rq eq e3 e gU a4 a3 kpos k1 cL rp ep le a2 b1 a1 hy hx eb ea hl h0 hb1 hk;lia)) (by (clear rq eq e3 e gU a4 a3 kpos k1 cL rp ep le b2 a2 a1 hy hx eb ea hl h0 hb1 hk;lia)) (fun i j h1 h2 h3=>sb i j (by (clear h3 h2 h1 rq eq e3 e gU a4 a3 kpos k1 cL rp ep le b2 a2 b1 a1 hy hx eb ea hl h0 hb1 hk;lia)) h2 (by (clear h2 h1 rq eq e3 e gU a4 a3 kpos k1 cL rp ep le a2 b1 a1 hy hx eb ea hl h0 hb1 hk;lia))) fun k' l1 l2 l3=> ?_)));dsimp only;simp only [Nat.zero_add] at l2 l3
      have mC:=mB.vh l1 fun i i1 i2 i3 j j1 j2=>by
       have e1:=Gs (l3 i i1 i2);have e2:=sa j _ (by (clear e1 j2 j1 i3 i2 i1 l1 rq eq e3 e gU a4 a3 kpos k1 cL rp ep le b2 a2 b1 a1 hy hx eb ea hl h0 hb1 hk;lia)) (Nat.le_sub_one_of_lt j1) (by (clear e1 j2 j1 i3 i2 i1 l1 rq eq e3 e gU a4 a3 kpos cL rp ep le b2 b1 a1 hy hx eb ea hl h0 hb1 hk;lia))
       (clear j2 j1 i3 i2 i1 l1 eq e3 e gU a4 a3 kpos k1 cL rp ep le b2 a2 b1 a1 hy hx eb ea hl h0 hb1 hk;lia)
      have nx:∀j,j<k'->j<b.size->R rk b j<=rk q.1:=fun j j1 j2=>by
       have:=Ze (l2 j j1)
       (clear j2 j1 l1 rq eq e3 e gU a4 a3 kpos k1 cL rp ep le b2 a2 b1 a1 hy hx eb ea hl h0 hb1 hk;lia)
      apply aW
      case' h1=>
       intro kpos;refine aW (fun e=> ?_) (fun e=> ?_)
       ·exact wpS_pure ⟨sE,.inl ⟨_,_,rfl,mC.first fun i j i1 i2 j1 j2=>mid i j _ i1 (eq_of_beq e) j2⟩⟩
       have e4:¬k'=1:=fun z=>e (beq_iff_eq.mpr z);refine aW (fun e=> ?_) (fun e=> ?_)
       ·exact wpS_pure ⟨sE,.inl ⟨_,_,rfl,mC.done (.inr (by simpa using e))⟩⟩
       have e5:¬k'=0:=fun z=>e (beq_iff_eq.mpr z);have b3:2<=k':=by (clear e kpos l1 rq eq e3 gU a4 a3 k1 cL rp ep le b2 a2 b1 a1 hy hx eb ea hl h0 hb1 hk;lia)
      case' h2=>
       intro kpos;have k0:k'=nb - 1:=by (clear rq eq e3 e gU a4 a3 k1 cL rp ep le b2 a2 b1 a1 hy hx eb ea hl h0 hb1 hk;lia)
       rw [k0] at nx;have b3:2<=nb - 1:=by (clear k0 kpos l1 rq eq e gU a4 a3 k1 cL rp ep le b2 a2 a1 hy hx eb ea hl h0 hb1 hk;lia)
       replace mC:=mB
      all_goals
       have mD:=mC.yg a3 a4 (fun j j1 j2=>by rw [rq];exact nx j j1 j2);have ig:=Option.some.inj ((getElem?_pos a _ (by (clear b3 kpos l1 rq eq e3 e gU k1 cL rp ep le b2 a2 b1 a1 hy hx eb ea hl h0 hb1 hk;lia))).symm.trans eq);rw [ig] at mD;refine wpS_bind (bY eq ?_);refine aW (fun e=> ?_) (fun e=> ?_)
       ·exact wpS_pure ⟨sE,.inl ⟨_,_,rfl,mD.done (.inl (eq_of_beq e))⟩⟩
       have e6:¬_=0:=fun z=>e (beq_iff_eq.mpr z);refine aW (fun _=> ?_) (fun _=> ?_)
       ·exact wpS_pure ⟨sE,.inr ⟨_,_,_,_,_,_,rfl,mD,by (clear e ig b3 kpos l1 rq eq e3 gU a4 a3 k1 cL rp ep le b2 a2 b1 a1 hy hx eb ea hl h0 hb1 hk;lia),by (clear e6 e ig b3 kpos l1 rq eq gU a4 a3 k1 cL rp ep le b2 a2 a1 hy hx eb ea hl h0 hb1 hk;lia),by (clear e6 e ig b3 kpos l1 rq eq e3 gU a4 a3 k1 cL rp ep le b2 b1 a1 hy hx eb ea hl h0 hb1 hk;lia),by (clear e6 e ig b3 kpos rq eq e3 gU a4 a3 k1 cL rp ep le a2 b1 a1 hy hx eb ea hl h0 hb1 hk;lia),by (clear e6 e ig b3 kpos rq eq e3 gU a4 a3 k1 cL rp ep b2 a2 b1 a1 hy hx eb ea hl h0 hb1 hk;lia)⟩⟩
       ·exact wpS_pure ⟨sE,_,_,_,_,_,_,rfl,mD,by (clear e ig b3 kpos l1 rq eq e3 gU a4 a3 k1 cL rp ep le b2 a2 b1 a1 hy hx eb ea hl h0 hb1 hk;lia),by (clear e6 e ig b3 kpos l1 rq eq gU a4 a3 k1 cL rp ep le b2 a2 a1 hy hx eb ea hl h0 hb1 hk;lia),by (clear e6 e ig b3 kpos l1 rq eq e3 gU a4 a3 k1 cL rp ep le b2 b1 a1 hy hx eb ea hl h0 hb1 hk;lia),by (clear e6 e ig b3 kpos rq eq e3 gU a4 a3 k1 cL rp ep le a2 b1 a1 hy hx eb ea hl h0 hb1 hk;lia),by (clear e6 e ig b3 kpos rq eq e3 gU a4 a3 k1 cL rp ep b2 a2 b1 hy hx eb ea hl h0 hb1 hk;lia)⟩
end
end Tim
set_option Elab.async false
set_option linter.all false
set_option maxRecDepth 100000
set_option maxHeartbeats 4000000
namespace Tim
open PySem PyProof.Rows
section
variable {prog:Program} {w:World} {A:Around} {E:Value->Shared->Prop} {s:Shared} {κ:SortKind} {a₀:Array Keyed} {rk:Value->Nat} {pd:Array (Nat×Nat×Nat)}
structure SB (κ:SortKind) (a₀:Array Keyed) (pd:Array (Nat×Nat×Nat)) (st:SortSt):Prop where
 perm:(arrOf st).Perm a₀
 kind:kindOf st=κ
 failed:failedOf st=none
 pend:pendingOf st=pd
theorem SB.size {st:SortSt} (h:SB κ a₀ pd st):(arrOf st).size=a₀.size:=h.perm.size_eq
theorem SB.setArr {st:SortSt} (h:SB κ a₀ pd st) {xs:Array Keyed} (hp:xs.Perm (arrOf st)):SB κ a₀ pd (setArr st xs):=⟨hp.trans h.perm,h.kind,h.failed,h.pend⟩
theorem SB.mem {st:SortSt} (h:SB κ a₀ pd st) {p:Keyed} (hp:p∈(arrOf st).toList):p∈a₀.toList:=(Array.perm_iff_toList_perm.mp h.perm).mem_iff.mp hp
theorem kE {st:SortSt} {i j:Nat} {Q:Option Bool->SortSt->Prop} (C:Jp prog w A s κ a₀ rk) (hB:SB κ a₀ pd st) (hi:i<a₀.size) (hj:j<a₀.size) (h:Q (some (decide (R rk (arrOf st) i<R rk (arrOf st) j))) st):
 wpS (model prog w) A E s (ltAt' i j) Q st:=by
 rw [ltAt'_eq];refine wpS_bind (wpS_get ?_);have hi':i<(arrOf st).size:=by rw [hB.size];exact hi
 have hj':j<(arrOf st).size:=by rw [hB.size];exact hj
 rw [iV hi',iV hj'] at h;exact wpS_bind (bY (getElem?_pos (arrOf st) i hi') (wpS_bind (bY (getElem?_pos (arrOf st) j hj') (xr C hB.kind (hB.mem (by simp)) (hB.mem (by simp)) h))))
def Kb (lo:Nat) (st st':SortSt):Prop:=∀i,i<lo->(arrOf st')[i]? = (arrOf st)[i]?
theorem Kb.refl {lo:Nat} {st:SortSt}:Kb lo st st:=fun _ _=>rfl
theorem Kb.trans {lo:Nat} {a b c:SortSt} (h:Kb lo a b) (g:Kb lo b c):Kb lo a c:=fun i hi=>(g i hi).trans (h i hi)
theorem zF {xs:Array Keyed} {i j:Nat} (hj:j<=xs.size) (k:Nat):R rk (mirror xs i j ((j - i) / 2)) k=if i<=k/\k<j then R rk xs (i+j - 1 - k) else R rk xs k:=by
 have e:=getElem?_mirror_all (i:=i) hj k
 by_cases h1:i<=k/\k<j
 ·rw [if_pos h1] at e ⊢;exact gJ e
 ·rw [if_neg h1] at e ⊢;exact gJ e
theorem qC {st:SortSt} {lo i j:Nat} (hj:j<=(arrOf st).size) (hi:lo<=i):Kb lo st (setArr st (mirror (arrOf st) i j ((j - i) / 2))):=fun k hk=>by
 show (mirror (arrOf st) i j ((j - i) / 2))[k]? = _;rw [getElem?_mirror_all hj,if_neg (by (clear hj;lia))]
theorem jG {xs:Array Keyed} {i j:Nat} (hj:j<=xs.size) (heq:∀k,i<=k->k<j->R rk xs k=R rk xs (j - 1)) (k:Nat):R rk (mirror xs i j ((j - i) / 2)) k=R rk xs k:=by
 rw [zF hj];split
 ·rw [heq _ (by (clear hj;lia)) (by (clear hj;lia)),heq k (by (clear hj;lia)) (by (clear hj;lia))]
 ·rfl
theorem Gp {xs:Array Keyed} {src d:Nat} (hs:src<xs.size) (hd:d<=src) (k:Nat):
 R rk (bubble xs src d) k=if k=src - d then R rk xs src else if src - d<k/\k<=src then R rk xs (k - 1) else R rk xs k:=by
 have e:=getElem?_bubble hs d hd k
 by_cases h1:k=src - d
 ·rw [if_pos h1] at e ⊢;exact gJ e
 ·rw [if_neg h1] at e ⊢
  by_cases h2:src - d<k/\k<=src
  ·rw [if_pos h2] at e ⊢;exact gJ e
  ·rw [if_neg h2] at e ⊢;exact gJ e
def Zz (rk:Value->Nat) (xs:Array Keyed) (lo hi:Nat):Prop:=∀i j,lo<=i->i<=j->j<hi->R rk xs j<=R rk xs i
theorem wpS_countRun {st:SortSt} {lo nrem:Nat} {Q:Option Nat->SortSt->Prop} (C:Jp prog w A s κ a₀ rk) (hn:lo+nrem<=a₀.size) (h1:1<=nrem) (hB:SB κ a₀ pd st)
 (h:∀m st',SB κ a₀ pd st'->Kb lo st st'->1<=m->m<=nrem->Seg rk (arrOf st') lo (lo+m)->Q (some m) st'):wpS (model prog w) A E s (countRun' lo nrem) Q st:=by
 rw [countRun'_eq]
 refine wpS_bind (wpS_mono (wpS_forRange (I:=fun x c st'=>st'=st/\c=(none,x)/\Seg rk (arrOf st) lo (lo+x))
  (Q:=fun c st'=>st'=st /\ ∃n,c=(none,n)/\1<=n/\n<=nrem/\Seg rk (arrOf st) lo (lo+n)/\(n=nrem\/R rk (arrOf st) (lo+n)<R rk (arrOf st) (lo+n - 1))) ?step ?fin ⟨rfl,rfl,fun i j a b c=>by rw [show i=j by (clear h1 hn;lia)];exact Nat.le_refl _⟩) ?post)
 case fin=>
  rintro c st' ⟨rfl,rfl,hs⟩;rw [show max 1 nrem=nrem by (clear hn;lia)] at hs ⊢;exact ⟨rfl,nrem,rfl,h1,Nat.le_refl _,hs,.inl rfl⟩
 case step=>
  rintro x c st' x1 xn ⟨rfl,rfl,hs⟩;dsimp only;refine wpS_bind (kE C hB (by (clear x1 h1;lia)) (by (clear x1 h1;lia)) ?_);dsimp only;refine aW (fun lt=> ?_) (fun lt=> ?_)
  ·exact wpS_pure ⟨rfl,x,rfl,x1,by (clear lt x1 h1 hn;lia),hs,.inr (of_decide_eq_true lt)⟩
  ·have lt:R rk (arrOf st') (lo+x - 1)<=R rk (arrOf st') (lo+x):=Nat.le_of_not_lt fun z=>lt (decide_eq_true z)
   refine wpS_pure ⟨rfl,rfl,fun i j a b c=> ?_⟩
   by_cases hj:j<lo+x
   ·exact hs i j a b hj
   ·have:j=lo+x:=by (clear b a lt xn x1 h1 hn;lia)
    subst this
    by_cases hi:i=lo+x
    ·rw [hi];exact Nat.le_refl _
    ·exact Nat.le_trans (hs i (lo+x - 1) a (by (clear hj c a lt xn x1 h1 hn;lia)) (by (clear hi hj c b a lt xn h1 hn;lia))) lt
 case post=>
  rintro c st' ⟨rfl,n,rfl,n1,nn,hs,hor⟩;dsimp only;have hsz:(arrOf st').size=a₀.size:=hB.size;refine aW (fun e=> ?_) (fun e=> ?_)
  ·exact wpS_pure (h n _ hB Kb.refl n1 nn hs)
  have e:¬n=nrem:=fun z=>e (beq_iff_eq.mpr z);have lt:=hor.resolve_left e;have n2:n+1<=nrem:=by (clear lt hsz hor n1 h1 hn;lia)
  apply aW
  case' h1=>
   intro gt;refine wpS_bind (kE C hB (by (clear gt n2 lt e hsz hor nn n1;lia)) (by (clear gt n2 lt e hsz hor n1;lia)) ?_);dsimp only;refine aW (fun rose=> ?_) (fun rose=> ?_)
   ·exact wpS_pure (h n _ hB Kb.refl n1 nn hs)
   have rose:R rk (arrOf st') (lo+n - 1)<=R rk (arrOf st') lo:=Nat.le_of_not_lt fun z=>rose (decide_eq_true z)
   have all:∀k,lo<=k->k<lo+n->R rk (arrOf st') k=R rk (arrOf st') (lo+n - 1):=fun k k1 k2=>by
    have a1:=hs lo k (Nat.le_refl _) k1 k2;have a2:=hs k (lo+n - 1) k1 (by (clear a1 k1 rose gt n2 lt e hsz hor nn n1 h1 hn;lia)) (by (clear a1 k2 k1 rose gt n2 lt e hsz hor nn h1 hn;lia))
    (clear k2 k1 gt n2 lt e hsz hor nn n1 h1 hn;lia)
   rw [reverseSlice'_eq];refine wpS_bind (wpS_modify ?_);have m9:SB κ a₀ pd (setArr st' (mirror (arrOf st') lo (lo+n) ((lo+n - lo) / 2))):=hB.setArr (mirror_perm _ _ _ _);have k1:Kb lo st' (setArr st' (mirror (arrOf st') lo (lo+n) ((lo+n - lo) / 2))):=qC (by (clear rose gt n2 lt e hor n1 h1;lia)) (Nat.le_refl _)
   have dw:Zz rk (arrOf (setArr st' (mirror (arrOf st') lo (lo+n) ((lo+n - lo) / 2)))) lo (lo+n+1):=fun i j a b c=>by
    show R rk (mirror _ _ _ _) j<=R rk (mirror _ _ _ _) i;rw [jG (by (clear c b a rose gt n2 lt e hor n1 h1;lia)) all,jG (by (clear c b a rose gt n2 lt e hor n1 h1;lia)) all]
    by_cases hj:j<lo+n
    ·rw [all i a (by (clear c a rose gt n2 lt e hsz hor nn n1 h1 hn;lia)),all j (by (clear hj c rose gt n2 lt e hsz hor nn n1 h1 hn;lia)) hj];exact Nat.le_refl _
    ·have:j=lo+n:=by (clear b a rose gt n2 lt e hsz hor nn n1 h1 hn;lia)
     subst this
     by_cases hi:i=lo+n
     ·rw [hi];exact Nat.le_refl _
     ·rw [all i a (by (clear hj c a rose gt n2 lt e hsz hor nn n1 h1 hn;lia))];(clear hi hj c b a rose gt n2 lt hsz nn n1 h1 hn;lia)
   generalize setArr st' (mirror (arrOf st') lo (lo+n) ((lo+n - lo) / 2))=st1 at m9 k1 dw ⊢
  case' h2=>
   intro gt;have m9:=hB;have k1:Kb lo st' st':=Kb.refl
   have dw:Zz rk (arrOf st') lo (lo+n+1):=fun i j a b c=>by
    have e1:n=1:=by (clear c b a n2 lt e hsz hor nn h1 hn;lia)
    subst e1
    by_cases hi:i=j
    ·rw [hi];exact Nat.le_refl _
    ·have:i=lo+1 - 1:=by (clear gt n2 lt e hor nn n1 hsz h1 hn;lia)
     have:j=lo+1:=by (clear this gt n2 lt e hor nn n1 hsz h1 hn;lia)
     subst_vars
     (clear hi b c a gt n2 lt nn n1 hsz h1 hn;lia)
   revert m9 k1 dw;generalize hst:st'=st1;intro m9 k1 dw
  all_goals
   refine wpS_bind (wpS_lift (wpAny_rule ⟨rfl, ?_⟩))
   refine wpS_bind (wpS_mono (wpS_forRange (I:=fun x c st2=>∃neq,c=(none,x,neq)/\SB κ a₀ pd st2/\Kb lo st1 st2/\Zz rk (arrOf st2) lo (lo+x)/\neq+1<=x/\(∀i,lo+x - (neq+1)<=i->i<lo+x->R rk (arrOf st2) i=R rk (arrOf st2) (lo+x - 1)))
    (Q:=fun c st2=>∃x neq,c=(none,x,neq)/\n+1<=x/\x<=nrem/\SB κ a₀ pd st2/\Kb lo st1 st2/\Zz rk (arrOf st2) lo (lo+x)/\neq+1<=x/\(∀i,lo+x - (neq+1)<=i->i<lo+x->R rk (arrOf st2) i=R rk (arrOf st2) (lo+x - 1))) ?_ ?_ ⟨0,rfl,m9,Kb.refl,dw,by (clear gt n2 lt e hsz hor nn n1 h1 hn;lia),fun i a b=>by congr 1;(clear gt n2 lt e hsz hor nn n1 h1 hn;lia)⟩) ?_)
   ·rintro x c st2 x1 xn ⟨neq,rfl,hB2,k2,d2,q2,e2⟩
    dsimp only;have m8:(arrOf st2).size=a₀.size:=hB2.size;refine wpS_bind (kE C hB2 (by (clear m8 q2 x1 gt n2 lt e hsz hor nn n1 h1;lia)) (by (clear m8 q2 x1 gt n2 lt e hsz hor nn n1 h1;lia)) ?_);dsimp only;refine aW (fun lt=> ?_) (fun lt=> ?_)
    ·have lt:R rk (arrOf st2) (lo+x)<R rk (arrOf st2) (lo+x - 1):=of_decide_eq_true lt
     have step1:∀xs:Array Keyed,(∀k,R rk xs k=R rk (arrOf st2) k)->Zz rk xs lo (lo+(x+1)):=by
      intro xs hk i j a b c;rw [hk,hk]
      by_cases hj:j<lo+x
      ·exact d2 i j a b hj
      ·have:j=lo+x:=by (clear b a lt m8 q2 xn x1 gt n2 e hsz hor nn n1 h1 hn;lia)
       subst this
       by_cases hi:i=lo+x
       ·rw [hi];exact Nat.le_refl _
       ·exact Nat.le_trans (Nat.le_of_lt lt) (d2 i (lo+x - 1) a (by (clear hj c a lt m8 q2 xn x1 gt n2 e hsz hor nn n1 h1 hn;lia)) (by (clear hi hj c b a lt m8 q2 xn gt n2 e hsz hor nn n1 h1 hn;lia)))
     refine aW (fun _=> ?_) (fun _=> ?_)
     ·rw [reverseSlice'_eq]
      refine wpS_bind (wpS_modify (wpS_pure ⟨0,rfl,hB2.setArr (mirror_perm _ _ _ _),k2.trans (qC (by (clear lt q2 x1 gt n2 e hsz hor nn n1 h1;lia)) (by (clear lt m8 xn x1 gt n2 e hsz hor nn n1 h1 hn;lia))),step1 _ (jG (by (clear lt q2 x1 gt n2 e hsz hor nn n1 h1;lia)) e2),by (clear lt m8 q2 xn x1 gt n2 e hsz hor nn n1 h1 hn;lia),fun i a b=>by congr 1;(clear lt m8 q2 xn x1 gt n2 e hsz hor nn n1 h1 hn;lia)⟩))
     ·exact wpS_pure ⟨0,rfl,hB2,k2,step1 _ (fun _=>rfl),by (clear lt m8 q2 xn x1 gt n2 e hsz hor nn n1 h1 hn;lia),fun i a b=>by congr 1;(clear lt m8 q2 xn x1 gt n2 e hsz hor nn n1 h1 hn;lia)⟩
    ·have ge:R rk (arrOf st2) (lo+x - 1)<=R rk (arrOf st2) (lo+x):=Nat.le_of_not_lt fun z=>lt (decide_eq_true z)
     refine wpS_bind (kE C hB2 (by (clear ge lt m8 q2 x1 gt n2 e hsz hor nn n1 h1;lia)) (by (clear ge lt m8 q2 x1 gt n2 e hsz hor nn n1 h1;lia)) ?_);dsimp only;refine aW (fun lg=> ?_) (fun lg=> ?_)
     ·exact wpS_pure ⟨x,neq,rfl,x1,by (clear lg ge lt m8 q2 x1 gt n2 e hsz hor nn n1 h1 hn;lia),hB2,k2,d2,q2,e2⟩
     ·have le:R rk (arrOf st2) (lo+x)<=R rk (arrOf st2) (lo+x - 1):=Nat.le_of_not_lt fun z=>lg (decide_eq_true z)
      have Vb:R rk (arrOf st2) (lo+x)=R rk (arrOf st2) (lo+x - 1):=by (clear lg lt m8 q2 xn x1 gt n2 e hsz hor nn n1 h1 hn;lia)
      refine wpS_pure ⟨neq+1,rfl,hB2,k2,fun i j a b c=> ?_,by (clear Vb le lg ge lt m8 xn x1 gt n2 e hsz hor nn n1 h1 hn;lia),fun i a b=> ?_⟩
      ·by_cases hj:j<lo+x
       ·exact d2 i j a b hj
       ·have:j=lo+x:=by (clear b a Vb le lg ge lt m8 q2 xn x1 gt n2 e hsz hor nn n1 h1 hn;lia)
        subst this
        by_cases hi:i=lo+x
        ·rw [hi];exact Nat.le_refl _
        ·rw [Vb];exact d2 i (lo+x - 1) a (by (clear hj c a Vb le lg ge lt m8 q2 xn x1 gt n2 e hsz hor nn n1 h1 hn;lia)) (by (clear hi hj c b a Vb le lg ge lt m8 q2 xn gt n2 e hsz hor nn n1 h1 hn;lia))
      ·rw [show lo+(x+1) - 1=lo+x by (clear b a Vb le lg ge lt m8 q2 xn x1 gt n2 e hsz hor nn n1 h1 hn;lia)]
       by_cases hi:i=lo+x
       ·rw [hi]
       ·rw [Vb];exact e2 i (by (clear hi b Vb le lg ge lt m8 q2 xn x1 gt n2 e hsz hor nn n1 h1 hn;lia)) (by (clear a Vb le lg ge lt m8 q2 xn x1 gt n2 e hsz hor nn n1 h1 hn;lia))
   ·rintro c st2 ⟨neq,rfl,hB2,k2,d2,q2,e2⟩
    rw [show max (n+1) nrem=nrem by (clear q2 gt n2 lt hsz hor n1 h1 hn;lia)] at d2 q2 e2 ⊢;exact ⟨nrem,neq,rfl,n2,Nat.le_refl _,hB2,k2,d2,q2,e2⟩
   ·rintro c st2 ⟨x,neq,rfl,x1,xn,hB2,k2,d2,q2,e2⟩
    dsimp only;have m8:(arrOf st2).size=a₀.size:=hB2.size;apply aW
    case' h1=>
     intro _;rw [reverseSlice'_eq];refine wpS_bind (wpS_modify ?_);have hB3:SB κ a₀ pd (setArr st2 (mirror (arrOf st2) (lo+x - (neq+1)) (lo+x) ((lo+x - (lo+x - (neq+1))) / 2))):=hB2.setArr (mirror_perm _ _ _ _);have k3:=k2.trans (qC (st:=st2) (lo:=lo) (i:=lo+x - (neq+1)) (j:=lo+x) (by (clear q2 x1 gt n2 lt e hsz hor nn n1 h1;lia)) (by (clear m8 xn x1 gt n2 lt e hsz hor nn n1 h1 hn;lia)))
     have d3:Zz rk (arrOf (setArr st2 (mirror (arrOf st2) (lo+x - (neq+1)) (lo+x) ((lo+x - (lo+x - (neq+1))) / 2)))) lo (lo+x):=fun i j a b c=>by
      show R rk (mirror _ _ _ _) j<=R rk (mirror _ _ _ _) i;rw [jG (by (clear c b a q2 x1 gt n2 lt e hsz hor nn n1 h1;lia)) e2,jG (by (clear c b a q2 x1 gt n2 lt e hsz hor nn n1 h1;lia)) e2];exact d2 i j a b c
     generalize setArr st2 (mirror (arrOf st2) (lo+x - (neq+1)) (lo+x) ((lo+x - (lo+x - (neq+1))) / 2))=st3 at hB3 k3 d3 ⊢
    case' h2=>
     intro _;have hB3:=hB2;have k3:=k2;have d3:=d2;revert hB3 k3 d3;generalize st2=st3;intro hB3 k3 d3
    all_goals
     have Jw:(arrOf st3).size=a₀.size:=hB3.size;rw [reverseSlice'_eq];refine wpS_bind (wpS_modify ?_);have u6:SB κ a₀ pd (setArr st3 (mirror (arrOf st3) lo (lo+x) ((lo+x - lo) / 2))):=hB3.setArr (mirror_perm _ _ _ _);have k4:=k3.trans (qC (st:=st3) (lo:=lo) (i:=lo) (j:=lo+x) (by (clear m8 q2 x1 gt n2 lt e hsz hor nn n1 h1;lia)) (by (clear Jw m8 q2 xn x1 gt n2 lt e hsz hor nn n1 h1 hn;lia)))
     have s4:Seg rk (arrOf (setArr st3 (mirror (arrOf st3) lo (lo+x) ((lo+x - lo) / 2)))) lo (lo+x):=fun i j a b c=>by
      show R rk (mirror _ _ _ _) i<=R rk (mirror _ _ _ _) j;rw [zF (by (clear c b a m8 q2 x1 gt n2 lt e hsz hor nn n1 h1;lia)),zF (by (clear c b a m8 q2 x1 gt n2 lt e hsz hor nn n1 h1;lia)),if_pos (by (clear Jw m8 q2 xn x1 gt n2 lt e hsz hor nn n1 h1 hn;lia)),if_pos (by (clear Jw m8 q2 xn x1 gt n2 lt e hsz hor nn n1 h1 hn;lia))];exact d3 _ _ (by (clear b a Jw m8 q2 xn x1 gt n2 lt e hsz hor nn n1 h1 hn;lia)) (by (clear c a Jw m8 q2 xn x1 gt n2 lt e hsz hor nn n1 h1 hn;lia)) (by (clear c b Jw m8 q2 xn gt n2 lt e hsz hor nn n1 h1 hn;lia))
     generalize setArr st3 (mirror (arrOf st3) lo (lo+x) ((lo+x - lo) / 2))=oX at u6 k4 s4 ⊢
     refine wpS_bind (wpS_mono (wpS_forRange (I:=fun y c zN=>zN=oX/\c=(none,y)/\Seg rk (arrOf oX) lo (lo+y))
      (Q:=fun c zN=>zN=oX /\ ∃y,c=(none,y)/\x<=y/\y<=nrem/\Seg rk (arrOf oX) lo (lo+y)) ?_ ?_ ⟨rfl,rfl,s4⟩) ?_)
     ·rintro y c zN y1 yn ⟨rfl,rfl,V7⟩
      dsimp only;refine wpS_bind (kE C u6 (by (clear y1 Jw m8 q2 xn x1 gt n2 lt e hsz hor nn n1 h1;lia)) (by (clear y1 Jw m8 q2 xn x1 gt n2 lt e hsz hor nn n1 h1;lia)) ?_);dsimp only;refine aW (fun lt=> ?_) (fun lt=> ?_)
      ·exact wpS_pure ⟨rfl,y,rfl,y1,by (clear lt y1 Jw m8 q2 xn x1 gt n2 e hsz hor nn n1 h1 hn;lia),V7⟩
      ·have lt:R rk (arrOf zN) (lo+y - 1)<=R rk (arrOf zN) (lo+y):=Nat.le_of_not_lt fun z=>lt (decide_eq_true z)
       refine wpS_pure ⟨rfl,rfl,fun i j a b c=> ?_⟩
       by_cases hj:j<lo+y
       ·exact V7 i j a b hj
       ·have:j=lo+y:=by (clear b a lt yn y1 Jw m8 q2 xn x1 gt n2 e hsz hor nn n1 h1 hn;lia)
        subst this
        by_cases hi:i=lo+y
        ·rw [hi];exact Nat.le_refl _
        ·exact Nat.le_trans (V7 i (lo+y - 1) a (by (clear hj c a lt yn y1 Jw m8 q2 xn x1 gt n2 e hsz hor nn n1 h1 hn;lia)) (by (clear hi hj c b a lt yn Jw m8 q2 xn gt n2 e hsz hor nn n1 h1 hn;lia))) lt
     ·rintro c zN ⟨rfl,rfl,V7⟩
      rw [show max x nrem=nrem by (clear Jw m8 q2 x1 gt n2 lt e hsz hor nn n1 h1 hn;lia)] at V7 ⊢;exact ⟨rfl,nrem,rfl,xn,Nat.le_refl _,V7⟩
     ·rintro c zN ⟨rfl,y,rfl,y1,yn,V7⟩
      exact wpS_pure (h y _ u6 (by first |exact k1.trans k4|(subst hst;exact k4)) (by (clear yn Jw m8 q2 xn gt n2 lt e hsz hor nn n1 h1 hn;lia)) yn V7)
theorem wpS_binarySort {st:SortSt} {lo n ok:Nat} {Q:Bool->SortSt->Prop} (C:Jp prog w A s κ a₀ rk) (hn:lo+n<=a₀.size) (hok:ok<=n) (hB:SB κ a₀ pd st) (hs:Seg rk (arrOf st) lo (lo+ok))
 (h:∀st',SB κ a₀ pd st'->Kb lo st st'->Seg rk (arrOf st') lo (lo+n)->Q true st'):wpS (model prog w) A E s (binarySort' lo n ok) Q st:=by
 rw [binarySort'_eq]
 refine wpS_bind (wpS_mono (wpS_forRange (I:=fun k c st'=>c=(none,())/\SB κ a₀ pd st'/\Kb lo st st'/\Seg rk (arrOf st') lo (lo+min k n))
  (Q:=fun c st'=>c=(none,())/\SB κ a₀ pd st'/\Kb lo st st'/\Seg rk (arrOf st') lo (lo+n)) ?step ?fin ?init) ?post)
 case post=>
  rintro c st' ⟨rfl,hB',k',hs'⟩;exact wpS_pure (h st' hB' k' hs')
 case init=>
  refine ⟨rfl,hB,Kb.refl,fun i j a b c=> ?_⟩
  by_cases h1:ok=0
  ·rw [show i=j by (clear hok hn;lia)];exact Nat.le_refl _
  ·exact hs i j a b (by (clear b a hok hn;lia))
 case fin=>
  rintro c st' ⟨hc,hB',k',hs'⟩;refine ⟨hc,hB',k', ?_⟩;rwa [show min (max (max ok 1) n) n=n by (clear hc hok hn;lia)] at hs'
 case step=>
  rintro k c st' hak hkn ⟨rfl,hB',k',hs'⟩;rw [show min k n=k by (clear hak hok hn;lia)] at hs';have sz:(arrOf st').size=a₀.size:=hB'.size
  refine wpS_bind (wpS_mono (wpS_forRange (I:=fun x c st''=>st''=st' /\ ∃l r,c=(none,l,r)/\l<=r/\r<=k/\r - l<=k - x /\
   (∀i,i<l->R rk (arrOf st') (lo+i)<=R rk (arrOf st') (lo+k))/\(∀i,r<=i->i<k->R rk (arrOf st') (lo+k)<R rk (arrOf st') (lo+i)))
   (Q:=fun c st''=>st''=st' /\ ∃l r,c=(none,l,r)/\l<=k /\
     (∀i,i<l->R rk (arrOf st') (lo+i)<=R rk (arrOf st') (lo+k))/\(∀i,l<=i->i<k->R rk (arrOf st') (lo+k)<R rk (arrOf st') (lo+i))) ?istep ?ifin ?iinit) ?ipost)
  case iinit=>exact ⟨rfl,0,k,rfl,by (clear sz hkn hak hok hn;lia),by (clear sz hkn hak hok hn;lia),by (clear sz hkn hak hok hn;lia),fun i hi=>by (clear sz hkn hak hok hn;lia),fun i h1 h2=>by (clear sz hkn hak hok hn;lia)⟩
  case ifin=>
   rintro c st'' ⟨rfl,l,r,rfl,hlr,hrk,hm,hlo,hhi⟩;have:l=r:=by (clear hrk sz hkn hak hok hn;lia)
   subst this;exact ⟨rfl,l,l,rfl,hrk,hlo,hhi⟩
  case istep=>
   rintro x c st'' _ hxk ⟨rfl,l,r,rfl,hlr,hrk,hm,hlo,hhi⟩;dsimp only;refine aW (fun hge=> ?_) (fun hge=> ?_)
   ·have:l=r:=by (clear hm hrk sz hxk hkn hak hok hn;lia)
    subst this;exact wpS_pure ⟨rfl,l,l,rfl,hrk,hlo,hhi⟩
   ·refine wpS_bind (kE C hB' (by (clear hge hm hrk hlr sz hxk hak hok;lia)) (by (clear hge hm sz hxk hak hok;lia)) ?_)
    dsimp only;refine aW (fun lt=> ?_) (fun lt=> ?_)
    ·have lt:=of_decide_eq_true lt
     refine wpS_pure ⟨rfl,l,(l+r) / 2,rfl,by (clear lt hge hm hrk sz hxk hkn hak hok hn;lia),by (clear lt hge hm sz hxk hkn hak hok hn;lia),by (clear lt hge hrk hlr sz hxk hkn hak hok hn;lia),hlo,fun i h1 h2=> ?_⟩;exact Nat.lt_of_lt_of_le lt (hs' _ _ (by (clear h2 h1 lt hge hm hrk hlr sz hxk hkn hak hok hn;lia)) (by (clear h2 lt hge hm hrk hlr sz hxk hkn hak hok hn;lia)) (by (clear h1 lt hge hm hrk hlr sz hxk hkn hak hok hn;lia)))
    ·have lt:R rk (arrOf st'') (lo+(l+r) / 2)<=R rk (arrOf st'') (lo+k):=Nat.le_of_not_lt fun z=>lt (decide_eq_true z)
     refine wpS_pure ⟨rfl,(l+r) / 2+1,r,rfl,by (clear lt hm hrk hlr sz hxk hkn hak hok hn;lia),by (clear lt hge hm hlr sz hxk hkn hak hok hn;lia),by (clear lt hge hrk hlr sz hxk hkn hak hok hn;lia),fun i h1=> ?_,hhi⟩;exact Nat.le_trans (hs' (lo+i) (lo+(l+r) / 2) (by (clear h1 lt hge hm hrk hlr sz hxk hkn hak hok hn;lia)) (by (clear lt hge hm hrk hlr sz hxk hkn hak hok hn;lia)) (by (clear h1 lt hm hlr sz hxk hkn hak hok hn;lia))) lt
  case ipost=>
   rintro c st'' ⟨rfl,l,r,rfl,hlk,hlo,hhi⟩;show wpS _ _ _ _ (do moveDown' (lo+k) (lo+l);pure (ForInStep.yield (none,()))) _ _;rw [moveDown'_eq];refine wpS_bind (wpS_modify (wpS_pure ⟨rfl,hB'.setArr (bubble_perm _ _ _),k'.trans ?_, ?_⟩))
   ·intro i hi
    show (bubble (arrOf st'') (lo+k) (lo+k - (lo+l)))[i]? = _;rw [getElem?_bubble (by (clear hi hlk hak hok;lia)) _ (by (clear hi hlk sz hkn hak hok hn;lia)),if_neg (by (clear hlk sz hkn hak hok hn;lia)),if_neg (by (clear hlk sz hkn hak hok hn;lia))]
   rw [show min (k+1) n=k+1 by (clear hlk sz hak hok hn;lia)];intro i j a b c;show R rk (bubble (arrOf st'') (lo+k) (lo+k - (lo+l))) i<=R rk (bubble (arrOf st'') (lo+k) (lo+k - (lo+l))) j;rw [Gp (by (clear c b a hlk hak hok;lia)) (by (clear c b a hlk sz hkn hak hok hn;lia)),Gp (by (clear c b a hlk hak hok;lia)) (by (clear c b a hlk sz hkn hak hok hn;lia)),show lo+k - (lo+k - (lo+l))=lo+l by (clear c b a sz hkn hak hok hn;lia)]
   have L1:∀i,lo<=i->i<lo+l->R rk (arrOf st'') i<=R rk (arrOf st'') (lo+k):=fun i i1 i2=>by
    have:=hlo (i - lo) (by (clear c b a hlk sz hkn hak hok hn;lia));rwa [show lo+(i - lo)=i by (clear this i2 c b a hlk sz hkn hak hok hn;lia)] at this
   have L2:∀i,lo+l<=i->i<lo+k->R rk (arrOf st'') (lo+k)<R rk (arrOf st'') i:=fun i i1 i2=>by
    have:=hhi (i - lo) (by (clear i2 c b a hlk sz hkn hak hok hn;lia)) (by (clear i1 c b a hlk sz hkn hok hn;lia));rwa [show lo+(i - lo)=i by (clear this i2 c b a hlk sz hkn hak hok hn;lia)] at this
   repeat' split
   all_goals first
    | (exfalso;(clear a hlk sz hkn hak hok hn;lia))
    | exact Nat.le_refl _
    | exact L1 _ (by (clear c b hlk sz hkn hak hok hn;lia)) (by (clear c a hlk sz hkn hak hok hn;lia))
    | exact Nat.le_of_lt (L2 _ (by (clear c b a hlk sz hkn hak hok hn;lia)) (by (clear c b a hlk sz hkn hak hok hn;lia)))
    | exact hs' _ _ (by (clear c b hlk sz hkn hak hok hn;lia)) (by (clear c a hlk sz hkn hak hok hn;lia)) (by (clear b a sz hkn hak hok hn;lia))
end
end Tim
set_option Elab.async false
set_option linter.all false
set_option maxRecDepth 100000
set_option maxHeartbeats 4000000
namespace Tim
open PySem PyProof.Rows
theorem Fe (i:Nat):mergeAt' i=(do
 let s ←get
 let (some (sa,na,power),some (sb,nb,_)):=((pendingOf s)[i]?,(pendingOf s)[i+1]?)|unsupported "internal:list.sort.pending"
 set (SortSt.mk' (kindOf s) (arrOf s) (((pendingOf s).setIfInBounds i (sa,na+nb,power)).eraseIdxIfInBounds (i+1)) (gallopOf s) (failedOf s))
 let some k ←lV false (←elem' (arrOf s) sb) (arrOf s) sa na 0|return false
 let (sa,na):=(sa+k,na - k)
 if na==0 then return true
 let some nb ←lV true (←elem' (arrOf s) (sa+na - 1)) (arrOf s) sb nb (nb - 1)|return false
 if nb==0 then return true
 let x:=(arrOf s).extract sa sb
 let y:=(arrOf s).extract sb (sb+nb)
 let merged ←if na<=nb then yx x y else yC x y
 modify fun s=>setArr s (merged.toList.zipIdx.foldl (fun a (p,j)=>a.setIfInBounds (sa+j) p) (arrOf s))
 return (failedOf (←get)).isNone):=rfl
section
variable {prog:Program} {w:World} {A:Around} {E:Value->Shared->Prop} {s:Shared} {κ:SortKind} {a₀:Array Keyed} {rk:Value->Nat} {pd:Array (Nat×Nat×Nat)}
theorem JG (b:Nat) (m:List Keyed):∀(n:Nat) (xs:Array Keyed) (j:Nat),b+n+m.length<=xs.size->((m.zipIdx n).foldl (fun a x=>a.setIfInBounds (b+x.2) x.1) xs)[j]? = if b+n<=j/\j<b+n+m.length then m[j - (b+n)]? else xs[j]? :=by
 induction m with
 | nil=>intro n xs j h;rw [if_neg (by simp)];rfl
 | cons p m ih=>
   intro n xs j h;rw [List.length_cons] at h;rw [List.zipIdx_cons,List.foldl_cons,ih (n+1) _ j (by rw [Array.size_setIfInBounds];lia)]
   by_cases e:j=b+n
   ·subst e
    rw [if_neg (by (clear h;lia)),if_pos (by rw [List.length_cons];(clear h;lia)),Nat.sub_self];rw [Array.getElem?_setIfInBounds_self_of_lt (by lia)];rfl
   ·by_cases c:b+(n+1)<=j/\j<b+(n+1)+m.length
    ·rw [if_pos c,if_pos (by rw [List.length_cons];(clear e h;lia)),show j - (b+n)=(j - (b+(n+1)))+1 by (clear e h;lia),List.getElem?_cons_succ]
    ·rw [if_neg c,if_neg (by rw [List.length_cons];(clear h;lia)),Array.getElem?_setIfInBounds_ne (Ne.symm e)]
theorem O8 {b n:Nat} {m:List Keyed} {xs:Array Keyed} (hl:m.length=n) (hb:b+n<=xs.size) (hp:m.Perm ((xs.toList.drop b).take n)):((m.zipIdx).foldl (fun a x=>a.setIfInBounds (b+x.2) x.1) xs).Perm xs:=by
 have e:((m.zipIdx).foldl (fun a x=>a.setIfInBounds (b+x.2) x.1) xs).toList=xs.toList.take b++(m++xs.toList.drop (b+n)):=by
  have hx:xs.toList.length=xs.size:=Array.length_toList;apply List.ext_getElem?;intro j;rw [Array.getElem?_toList,JG b m 0 xs j (by (clear hx;lia))]
  by_cases j1:j<b
  ·rw [if_neg (by (clear hx hb hl;lia)),List.getElem?_append_left (by rw [List.length_take,hx];(clear hx hl;lia)),List.getElem?_take_of_lt j1,Array.getElem?_toList]
  ·rw [List.getElem?_append_right (by rw [List.length_take,hx];(clear hx hb hl;lia)),List.length_take,hx,Nat.min_eq_left (by (clear j1 hx hl;lia))]
   by_cases j2:j<b+n
   ·rw [if_pos (by (clear hx hb;lia)),List.getElem?_append_left (by (clear hx hb;lia))];rfl
   ·rw [if_neg (by (clear j1 hx hb;lia)),List.getElem?_append_right (by (clear j1 hx hb;lia)),List.getElem?_drop,Array.getElem?_toList]
    congr 1
    (clear j1 hx hb;lia)
 refine Array.perm_iff_toList_perm.mpr ?_;rw [e]
 have sp:xs.toList=xs.toList.take b++((xs.toList.drop b).take n++xs.toList.drop (b+n)):=by
  rw [←yR,List.take_append_drop]
 refine List.Perm.trans ?_ (List.Perm.of_eq sp.symm);exact List.Perm.append_left _ (List.Perm.append_right _ hp)
theorem vP {xs:Array Keyed} {lo hi i:Nat} (h:lo+i<hi) (hh:hi<=xs.size):R rk (xs.extract lo hi) i=R rk xs (lo+i):=by
 apply gJ;rw [Array.getElem?_extract];rw [if_pos (by lia)]
theorem Sh {σ:Type} {M:Model} {A:Around} {E:Value->Shared->Prop} {s:Shared} {x:σ} {Q:PUnit->σ->Prop} {st:σ} (h:Q ⟨⟩ x):wpS M A E s (set x:StateT σ Sem PUnit) Q st:=by
 unfold wpS;rw [StateT.run_set];exact wpAny_pure ⟨rfl,h⟩
theorem Dw {st:SortSt} {i sa na pw sb nb pw2:Nat} {Q:Bool->SortSt->Prop} (C:Jp prog w A s κ a₀ rk) (hB:SB κ a₀ pd st) (h1:pd[i]? = some (sa,na,pw)) (h2:pd[i+1]? = some (sb,nb,pw2)) (hsb:sb=sa+na) (na1:1<=na) (eF:1<=nb) (hz:sb+nb<=a₀.size)
 (s1:Seg rk (arrOf st) sa (sa+na)) (s2:Seg rk (arrOf st) sb (sb+nb))
 (h:∀st',SB κ a₀ ((pd.setIfInBounds i (sa,na+nb,pw)).eraseIdxIfInBounds (i+1)) st'->(∀j,j<sa\/sb+nb<=j->(arrOf st')[j]? = (arrOf st)[j]?)->Seg rk (arrOf st') sa (sb+nb)->Q true st'):
 wpS (model prog w) A E s (mergeAt' i) Q st:=by
 rw [Fe];refine wpS_bind (wpS_get ?_);rw [hB.pend,h1,h2];dsimp only;have sz:(arrOf st).size=a₀.size:=hB.size;have tW:∀p∈(arrOf st).toList,p∈a₀.toList:=fun p hp=>hB.mem hp;have V4:∀i,i<a₀.size -> ∃p,(arrOf st)[i]? = some p/\p∈a₀.toList/\R rk (arrOf st) i=rk p.1:=fun i hi=>⟨(arrOf st)[i]'(by (clear hz eF na1 hsb h2 h1;lia)),getElem?_pos (arrOf st) i (by (clear hz eF na1 hsb h2 h1;lia)),hB.mem (by simp),iV (by (clear hz eF na1 hsb h2 h1;lia))⟩;refine wpS_bind (Sh ?_);have m9:SB κ a₀ ((pd.setIfInBounds i (sa,na+nb,pw)).eraseIdxIfInBounds (i+1)) (SortSt.mk' (kindOf st) (arrOf st) ((pd.setIfInBounds i (sa,na+nb,pw)).eraseIdxIfInBounds (i+1)) (gallopOf st) (failedOf st)):=⟨hB.perm,hB.kind,hB.failed,rfl⟩;have dM:arrOf (SortSt.mk' (kindOf st) (arrOf st) ((pd.setIfInBounds i (sa,na+nb,pw)).eraseIdxIfInBounds (i+1)) (gallopOf st) (failedOf st))=arrOf st:=rfl;generalize (pd.setIfInBounds i (sa,na+nb,pw)).eraseIdxIfInBounds (i+1)=pd1 at m9 dM h ⊢;generalize SortSt.mk' (kindOf st) (arrOf st) pd1 (gallopOf st) (failedOf st)=st1 at m9 dM ⊢;obtain ⟨p,ep,mp,rp⟩:=V4 sb (by (clear dM sz na1 hsb h2 h1;lia));refine wpS_bind (bY ep (wpS_bind (je C m9.kind mp tW (by (clear rp ep dM eF na1 h2 h1;lia)) (by (clear rp ep dM sz hz eF hsb h2 h1;lia)) s1 fun k k1 k2 k3=> ?_)));dsimp only;refine aW (fun e=> ?_) (fun e=> ?_)
 ·have e:na - k=0:=eq_of_beq e
  refine wpS_pure (h st1 m9 (fun j _=>by rw [dM]) fun i j a b c=> ?_);rw [dM]
  by_cases hj:j<sb
  ·exact s1 i j a b (by (clear c b a e k1 rp ep dM sz hz eF na1 h2 h1;lia))
  ·by_cases hi:i<sb
   ·have e1:=Vx (k2 (i - sa) (by (clear hj c b a k1 rp ep dM sz hz eF h2 h1;lia)))
    rw [show sa+(i - sa)=i by (clear e1 hi hj c b e k1 rp ep dM sz hz eF na1 hsb h2 h1;lia)] at e1;have e2:=s2 sb j (Nat.le_refl _) (by (clear e1 hi c b a e k1 rp ep dM sz hz eF na1 hsb h2 h1;lia)) c
    (clear hi hj c b a e k1 ep dM sz hz eF na1 hsb h2 h1;lia)
   ·exact s2 i j (by (clear hj c b a e k1 rp ep dM sz hz eF na1 hsb h2 h1;lia)) b c
 have ek:k<na:=by have:¬na - k=0:=fun z=>e (beq_iff_eq.mpr z);(clear e k1 rp ep dM sz hz eF na1 hsb h2 h1;lia)
 obtain ⟨q,eq,mq,rq⟩:=V4 (sa+k+(na - k) - 1) (by (clear ek e rp ep dM sz eF h2 h1;lia));refine wpS_bind (bY eq (wpS_bind (je C m9.kind mq tW (by (clear rq eq ek e k1 rp ep dM eF na1 hsb h2 h1;lia)) (by (clear rq eq ek e k1 rp ep dM sz hz na1 hsb h2 h1;lia)) s2 fun n2 l1 l2 l3=> ?_)));dsimp only;have aZ:sa+k+(na - k) - 1=sb - 1:=by (clear l1 rq eq ek e rp ep dM sz hz eF na1 h2 h1;lia)
 rw [aZ] at rq;refine aW (fun e=> ?_) (fun e=> ?_)
 ·have e:n2=0:=eq_of_beq e
  refine wpS_pure (h st1 m9 (fun j _=>by rw [dM]) fun i j a b c=> ?_);rw [dM]
  by_cases hj:j<sb
  ·exact s1 i j a b (by (clear c b a e aZ l1 rq eq ek k1 rp ep dM sz hz eF na1 h2 h1;lia))
  ·by_cases hi:i<sb
   ·have e1:=Gs (l3 (j - sb) (by (clear hi hj c b a aZ l1 rq eq ek k1 rp ep dM sz hz eF na1 hsb h2 h1;lia)) (by (clear hi hj b a e aZ l1 rq eq ek k1 rp ep dM sz hz na1 hsb h2 h1;lia)))
    rw [show sb+(j - sb)=j by (clear e1 hi c b a e aZ l1 rq eq ek k1 rp ep dM sz hz eF na1 hsb h2 h1;lia)] at e1;have e2:=s1 i (sb - 1) a (by (clear e1 hj c b a e aZ l1 rq eq ek k1 rp ep dM sz hz eF na1 hsb h2 h1;lia)) (by (clear e1 hi hj c b a e aZ l1 rq eq ek k1 rp ep dM sz hz eF h2 h1;lia))
    (clear hi hj c b a e aZ l1 eq ek k1 rp ep dM sz hz eF na1 hsb h2 h1;lia)
   ·exact s2 i j (by (clear hj c b a e aZ l1 rq eq ek k1 rp ep dM sz hz eF na1 hsb h2 h1;lia)) b c
 have e2:¬n2=0:=fun z=>e (beq_iff_eq.mpr z);have gw:((arrOf st).extract (sa+k) sb).size=sb - (sa+k):=by rw [Array.size_extract,Nat.min_eq_left (by (clear e2 e aZ l1 rq eq ek k1 rp ep dM eF na1 hsb h2 h1;lia))]
 have gB:((arrOf st).extract sb (sb+n2)).size=n2:=by rw [Array.size_extract,Nat.min_eq_left (by (clear gw e2 e aZ rq eq ek k1 rp ep dM eF na1 hsb h2 h1;lia))];(clear gw e2 e aZ l1 rq eq ek k1 rp ep dM sz hz eF na1 hsb h2 h1;lia)
 have ZD:∀p∈((arrOf st).extract (sa+k) sb).toList,p∈a₀.toList:=fun p hp=>tW p (by rw [dG] at hp;exact List.mem_of_mem_drop (List.mem_of_mem_take hp));have yin:∀p∈((arrOf st).extract sb (sb+n2)).toList,p∈a₀.toList:=fun p hp=>tW p (by rw [dG] at hp;exact List.mem_of_mem_drop (List.mem_of_mem_take hp))
 have sx:Seg rk ((arrOf st).extract (sa+k) sb) 0 ((arrOf st).extract (sa+k) sb).size:=fun i j a b c=>by
  rw [gw] at c;rw [vP (by (clear a gB gw e2 e aZ l1 rq eq ek k1 rp ep dM sz hz eF na1 hsb h2 h1;lia)) (by (clear c b a gB gw e2 e aZ l1 rq eq ek k1 rp ep dM eF na1 hsb h2 h1;lia)),vP (by (clear b a gB gw e2 e aZ l1 rq eq ek k1 rp ep dM sz hz eF na1 hsb h2 h1;lia)) (by (clear c b a gB gw e2 e aZ l1 rq eq ek k1 rp ep dM eF na1 hsb h2 h1;lia))];exact s1 _ _ (by (clear c b a gB gw e2 e aZ l1 rq eq ek k1 rp ep dM sz hz eF na1 hsb h2 h1;lia)) (by (clear c a gB gw e2 e aZ l1 rq eq ek k1 rp ep dM sz hz eF na1 hsb h2 h1;lia)) (by (clear b a gB gw e2 e aZ l1 rq eq ek k1 rp ep dM sz hz eF na1 h2 h1;lia))
 have sy:Seg rk ((arrOf st).extract sb (sb+n2)) 0 ((arrOf st).extract sb (sb+n2)).size:=fun i j a b c=>by
  rw [gB] at c;rw [vP (by (clear a gB gw e2 e aZ l1 rq eq ek k1 rp ep dM sz hz eF na1 hsb h2 h1;lia)) (by (clear c b a gB gw e2 e aZ rq eq ek k1 rp ep dM eF na1 hsb h2 h1;lia)),vP (by (clear b a gB gw e2 e aZ l1 rq eq ek k1 rp ep dM sz hz eF na1 hsb h2 h1;lia)) (by (clear c b a gB gw e2 e aZ rq eq ek k1 rp ep dM eF na1 hsb h2 h1;lia))];exact s2 _ _ (by (clear c b a gB gw e2 e aZ l1 rq eq ek k1 rp ep dM sz hz eF na1 hsb h2 h1;lia)) (by (clear c a gB gw e2 e aZ l1 rq eq ek k1 rp ep dM sz hz eF na1 hsb h2 h1;lia)) (by (clear b a gB gw e2 e aZ rq eq ek k1 rp ep dM sz hz eF na1 hsb h2 h1;lia))
 have h0:R rk ((arrOf st).extract sb (sb+n2)) 0<=R rk ((arrOf st).extract (sa+k) sb) 0:=by
  rw [vP (by (clear gB gw e aZ l1 rq eq ek k1 rp ep dM sz hz eF na1 hsb h2 h1;lia)) (by (clear gB gw e2 e aZ rq eq ek k1 rp ep dM eF na1 hsb h2 h1;lia)),vP (by (clear gB gw e2 e aZ l1 rq eq k1 rp ep dM sz hz eF na1 h2 h1;lia)) (by (clear gB gw e2 e aZ l1 rq eq ek k1 rp ep dM eF na1 hsb h2 h1;lia)),Nat.add_zero,Nat.add_zero,rp];have:=RZ (k3 k (Nat.le_refl _) ek)
  (clear gB gw e2 e aZ l1 rq eq ek k1 rp ep dM sz hz eF na1 hsb h2 h1;lia)
 have hl:R rk ((arrOf st).extract sb (sb+n2)) (((arrOf st).extract sb (sb+n2)).size - 1)<=R rk ((arrOf st).extract (sa+k) sb) (((arrOf st).extract (sa+k) sb).size - 1):=by
  rw [gw,gB,vP (by (clear h0 gB gw e aZ l1 rq eq ek k1 rp ep dM sz hz eF na1 hsb h2 h1;lia)) (by (clear h0 gB gw e2 e aZ rq eq ek k1 rp ep dM eF na1 hsb h2 h1;lia)),vP (by (clear h0 gB gw e2 e aZ l1 rq eq k1 rp ep dM sz hz eF na1 h2 h1;lia)) (by (clear h0 gB gw e2 e aZ l1 rq eq ek k1 rp ep dM eF na1 hsb h2 h1;lia)),show sa+k+(sb - (sa+k) - 1)=sb - 1 by (clear h0 gB gw e2 e aZ l1 rq eq k1 rp ep dM sz hz eF na1 h2 h1;lia),rq];have:=Ze (l2 (n2 - 1) (by (clear h0 gB gw e aZ l1 rq eq ek k1 rp ep dM sz hz eF na1 hsb h2 h1;lia)))
  (clear h0 gB gw e2 e aZ l1 rq eq ek k1 rp ep dM sz hz eF na1 hsb h2 h1;lia)
 have fin:∀r st2,Dt st1 st2->Mg rk ((arrOf st).extract (sa+k) sb) ((arrOf st).extract sb (sb+n2)) r->wpS (model prog w) A E s (do
  modify fun s=>setArr s (List.foldl (fun a x=>a.setIfInBounds (sa+k+x.snd) x.fst) (arrOf s) r.toList.zipIdx)
  let __do_lift ←get
  pure (failedOf __do_lift).isNone) Q st2:=by
  intro r st2 k2' mg;have mH:arrOf st2=arrOf st:=k2'.a.trans dM;refine wpS_bind (wpS_modify ?_);refine wpS_bind (wpS_get ?_);have hf:failedOf (setArr st2 (List.foldl (fun a x=>a.setIfInBounds (sa+k+x.snd) x.fst) (arrOf st2) r.toList.zipIdx))=none:=k2'.f.trans m9.failed;rw [hf]
  have rl:r.toList.length=sb - (sa+k)+n2:=by
   rw [mg.perm.length_eq,List.length_append,Array.length_toList,Array.length_toList,gw,gB]
  have rp':r.toList.Perm (((arrOf st).toList.drop (sa+k)).take (sb - (sa+k)+n2)):=by
   refine mg.perm.trans (List.Perm.of_eq ?_);rw [dG,dG,List.take_add,List.drop_drop,show sb+n2 - sb=n2 by (clear rl hf mH hl h0 gB gw e2 e aZ l1 rq eq ek k1 rp ep dM sz hz eF na1 hsb h2 h1;lia),show sa+k+(sb - (sa+k))=sb by (clear rl hf mH hl h0 gB gw e2 e aZ l1 rq eq ek rp ep dM sz hz eF na1 h2 h1;lia)]
  have get:∀j,(arrOf (setArr st2 (List.foldl (fun a x=>a.setIfInBounds (sa+k+x.snd) x.fst) (arrOf st2) r.toList.zipIdx)))[j]? = if sa+k<=j/\j<sb+n2 then r.toList[j - (sa+k)]? else (arrOf st)[j]? :=fun j=>by
   show (List.foldl (fun a x=>a.setIfInBounds (sa+k+x.snd) x.fst) (arrOf st2) r.toList.zipIdx)[j]? = _;rw [mH,JG (sa+k) r.toList 0 (arrOf st) j (by (clear hf mH hl h0 gB gw e2 e aZ rq eq ek rp ep dM eF na1 h2 h1;lia)),rl]
   by_cases c:sa+k<=j/\j<sb+n2
   ·rw [if_pos c,if_pos (by (clear rl hf mH hl h0 gB gw e2 e aZ l1 rq eq ek k1 rp ep dM sz hz eF na1 hsb h2 h1;lia))];rfl
   ·rw [if_neg c,if_neg (by (clear rl hf mH hl h0 gB gw e2 e aZ l1 rq eq ek rp ep dM sz hz eF na1 h2 h1;lia))]
  have hB2:SB κ a₀ pd1 (setArr st2 (List.foldl (fun a x=>a.setIfInBounds (sa+k+x.snd) x.fst) (arrOf st2) r.toList.zipIdx)):=by
   refine ⟨?_,k2'.k.trans m9.kind,hf,k2'.p.trans m9.pend⟩;show (List.foldl (fun a x=>a.setIfInBounds (sa+k+x.snd) x.fst) (arrOf st2) r.toList.zipIdx).Perm a₀;rw [mH];exact (O8 rl (by (clear rl hf mH hl h0 gB gw e2 e aZ rq eq ek rp ep dM eF na1 h2 h1;lia)) rp').trans hB.perm
  generalize setArr st2 (List.foldl (fun a x=>a.setIfInBounds (sa+k+x.snd) x.fst) (arrOf st2) r.toList.zipIdx)=st3 at get hB2 ⊢;have out:∀j,¬(sa+k<=j/\j<sb+n2)->R rk (arrOf st3) j=R rk (arrOf st) j:=fun j hj=>gJ (by rw [get j,if_neg hj])
  have mid:∀j,sa+k<=j->j<sb+n2 -> ∃j0,sa+k<=j0/\j0<sb+n2/\R rk (arrOf st3) j=R rk (arrOf st) j0:=fun j j1 j2=>by
   have e:=get j;rw [if_pos ⟨j1,j2⟩,List.getElem?_eq_getElem (by (clear e j1 hf mH hl h0 gB gw e2 aZ l1 rq eq k1 rp ep dM sz hz eF na1 h2 h1;lia))] at e;have hm:r.toList[j - (sa+k)]'(by (clear e j1 hf mH hl h0 gB gw e2 aZ l1 rq eq k1 rp ep dM sz hz eF na1 h2 h1;lia))∈((arrOf st).toList.drop (sa+k)).take (sb - (sa+k)+n2):=rp'.mem_iff.mp (List.getElem_mem _);obtain ⟨j0,a1,a2,a3⟩:=ju (rk:=rk) hm;exact ⟨sa+k+j0,by (clear a3 a2 a1 e j1 hf mH hl h0 gB gw e2 aZ l1 rq eq k1 rp ep dM sz hz eF na1 h2 h1;lia),by (clear a3 a2 e j1 hf mH hl h0 gB gw e2 aZ l1 rq eq k1 rp ep dM sz hz eF na1 h2 h1;lia),by rw [zE e,a3]⟩
  refine wpS_pure (h st3 hB2 (fun j hj=>by rw [get j,if_neg (by (clear rl hf mH hl h0 gB gw e2 e aZ rq eq ek k1 rp ep dM sz hz eF na1 hsb h2 h1;lia))]) fun i j a b c=> ?_)
  by_cases i1:i<sa+k
  ·have ei:=Vx (k2 (i - sa) (by (clear c b rl hf mH hl h0 gB gw e2 e aZ l1 rq eq ek k1 rp ep dM sz hz eF na1 hsb h2 h1;lia)))
   rw [show sa+(i - sa)=i by (clear ei i1 c b rl hf mH hl h0 gB gw e2 e aZ l1 rq eq ek k1 rp ep dM sz hz eF na1 hsb h2 h1;lia),←rp] at ei;rw [out i (by (clear ei c b a rl hf mH hl h0 gB gw e2 e aZ l1 rq eq ek k1 rp ep dM sz hz eF na1 hsb h2 h1;lia))]
   have key:∀j0,sa+k<=j0->j0<sb+nb->R rk (arrOf st) i<=R rk (arrOf st) j0:=fun j0 b1 b2=>by
    by_cases c:j0<sb
    ·exact s1 i j0 a (by (clear c b2 ei b a rl hf mH hl h0 gB gw e2 e aZ l1 rq eq ek k1 rp ep dM sz hz eF na1 hsb h2 h1;lia)) (by (clear b2 b1 ei i1 b a rl hf mH hl h0 gB gw e2 e aZ l1 rq eq ek k1 rp ep dM sz hz eF na1 h2 h1;lia))
    ·have:=s2 sb j0 (Nat.le_refl _) (by (clear b2 b1 ei i1 b a rl hf mH hl h0 gB gw e2 e aZ l1 rq eq ek k1 rp ep dM sz hz eF na1 hsb h2 h1;lia)) b2;(clear c b2 b1 i1 b a rl hf mH hl h0 gB gw e2 e aZ l1 rq eq ek k1 rp ep dM sz hz eF na1 hsb h2 h1;lia)
   by_cases j1:sa+k<=j/\j<sb+n2
   ·obtain ⟨j0,b1,b2,b3⟩:=mid j j1.1 j1.2
    rw [b3];exact key j0 b1 (by (clear b3 b1 j1 ei i1 c b a rl hf mH hl h0 gB gw e2 e aZ rq eq ek k1 rp ep dM sz hz eF na1 hsb h2 h1;lia))
   ·rw [out j j1]
    by_cases j2:j<sa+k
    ·exact s1 i j a b (by (clear j1 ei i1 c b a rl hf mH hl h0 gB gw e2 e aZ l1 rq eq ek rp ep dM sz hz eF na1 hsb h2 h1;lia))
    ·exact key j (by (clear j1 ei i1 c b a rl hf mH hl h0 gB gw e2 e aZ l1 rq eq ek k1 rp ep dM sz hz eF na1 hsb h2 h1;lia)) c
  ·by_cases i2:i<sb+n2
   ·by_cases j2:j<sb+n2
    ·have e1:=get i
     have e2:=get j;rw [if_pos ⟨by (clear e2 e1 j2 i2 c b a rl hf mH hl h0 gB gw e aZ l1 rq eq ek k1 rp ep dM sz hz eF na1 hsb h2 h1;lia),i2⟩,List.getElem?_eq_getElem (by (clear e2 e1 j2 i1 c b a hf mH hl h0 gB gw e aZ l1 rq eq ek k1 rp ep dM sz hz eF na1 hsb h2 h1;lia))] at e1;rw [if_pos ⟨by (clear e2 e1 j2 i2 c a rl hf mH hl h0 gB gw e aZ l1 rq eq ek k1 rp ep dM sz hz eF na1 hsb h2 h1;lia),j2⟩,List.getElem?_eq_getElem (by (clear e2 e1 i2 i1 c b a hf mH hl h0 gB gw e aZ l1 rq eq ek k1 rp ep dM sz hz eF na1 hsb h2 h1;lia))] at e2;rw [zE e1,zE e2]
     by_cases eij:i=j
     ·subst eij;exact Nat.le_refl _
     ·exact List.pairwise_iff_getElem.mp mg.srt _ _ _ _ (by (clear e2 e1 j2 i2 c a rl hf mH hl h0 gB gw e aZ l1 rq eq ek k1 rp ep dM sz hz eF na1 hsb h2 h1;lia))
    ·obtain ⟨i0,b1,b2,b3⟩:=mid i (by (clear j2 i2 c b a rl hf mH hl h0 gB gw e2 e aZ l1 rq eq ek k1 rp ep dM sz hz eF na1 hsb h2 h1;lia)) i2
     rw [b3,out j (by (clear b3 b2 b1 i2 i1 c b a rl hf mH hl h0 gB gw e2 e aZ l1 rq eq ek k1 rp ep dM sz hz eF na1 hsb h2 h1;lia))]
     by_cases c':i0<sb
     ·have e1:=s1 i0 (sb - 1) (by (clear c' b3 b2 j2 i2 i1 c b a rl hf mH hl h0 gB gw e2 e aZ l1 rq eq ek k1 rp ep dM sz hz eF na1 hsb h2 h1;lia)) (by (clear b3 b2 b1 j2 i2 i1 c b a rl hf mH hl h0 gB gw e2 e aZ l1 rq eq ek k1 rp ep dM sz hz eF na1 hsb h2 h1;lia)) (by (clear c' b3 b2 b1 j2 i2 i1 c b a rl hf mH hl h0 gB gw e2 e aZ l1 rq eq ek k1 rp ep dM sz hz eF h2 h1;lia))
      have e2:=Gs (l3 (j - sb) (by (clear e1 c' b3 b2 b1 i2 i1 c b a rl hf mH hl h0 gB gw e2 e aZ l1 rq eq ek k1 rp ep dM sz hz eF na1 hsb h2 h1;lia)) (by (clear e1 c' b3 b2 b1 j2 i2 i1 b a rl hf mH hl h0 gB gw e2 e aZ l1 rq eq ek k1 rp ep dM sz hz na1 hsb h2 h1;lia)));rw [show sb+(j - sb)=j by (clear e2 e1 c' b3 b2 b1 i2 i1 c b a rl hf mH hl h0 gB gw e aZ l1 rq eq ek k1 rp ep dM sz hz eF na1 hsb h2 h1;lia),←rq] at e2
      (clear c' b3 b2 b1 j2 i2 i1 c b a rl hf mH hl h0 gB gw e aZ l1 rq eq ek k1 rp ep dM sz hz eF na1 hsb h2 h1;lia)
     ·exact s2 i0 j (by (clear b3 b2 b1 j2 i2 i1 c b a rl hf mH hl h0 gB gw e2 e aZ l1 rq eq ek k1 rp ep dM sz hz eF na1 hsb h2 h1;lia)) (by (clear c' b3 b1 i2 i1 c b a rl hf mH hl h0 gB gw e2 e aZ l1 rq eq ek k1 rp ep dM sz hz eF na1 hsb h2 h1;lia)) c
   ·rw [out i (by (clear i1 c b a rl hf mH hl h0 gB gw e2 e aZ l1 rq eq ek k1 rp ep dM sz hz eF na1 hsb h2 h1;lia)),out j (by (clear i1 c a rl hf mH hl h0 gB gw e2 e aZ l1 rq eq ek k1 rp ep dM sz hz eF na1 hsb h2 h1;lia))]
    exact s2 i j (by (clear i1 c b a rl hf mH hl h0 gB gw e2 e aZ l1 rq eq ek k1 rp ep dM sz hz eF na1 hsb h2 h1;lia)) b c
 refine aW (fun _=> ?_) (fun _=> ?_)
 ·exact wpS_bind (Du C m9.kind ZD yin (by (clear hl h0 gB e2 e aZ l1 rq eq k1 rp ep dM sz hz eF na1 h2 h1;lia)) (by (clear hl h0 gw e2 e aZ l1 rq eq k1 rp ep dM sz hz eF na1 hsb h2 h1;lia)) sx sy h0 hl fin)
 ·exact wpS_bind (Dv C m9.kind ZD yin (by (clear hl h0 gB e2 e aZ l1 rq eq ek k1 rp ep dM sz hz eF na1 h2 h1;lia)) (by (clear hl h0 gw e aZ l1 rq eq ek k1 rp ep dM sz hz eF na1 hsb h2 h1;lia)) sx sy h0 hl fin)
end
end Tim
set_option Elab.async false
set_option linter.all false
set_option maxRecDepth 100000
set_option maxHeartbeats 4000000
namespace Tim
open PySem PyProof.Rows
section
variable {prog:Program} {w:World} {A:Around} {E:Value->Shared->Prop} {s:Shared} {κ:SortKind} {a₀:Array Keyed} {rk:Value->Nat} {pd:Array (Nat×Nat×Nat)}
def Runs (rk:Value->Nat) (xs:Array Keyed):List (Nat×Nat×Nat)->Nat->Nat->Prop
 | [],a,e=>a=e
 | (s,n,_)::r,a,e=>s=a/\1<=n/\Seg rk xs a (a+n)/\Runs rk xs r (a+n) e
theorem Runs.le {xs:Array Keyed}:∀{l:List (Nat×Nat×Nat)} {a e:Nat},Runs rk xs l a e->a+l.length<=e
 | [],a,e,h=>Nat.le_of_eq h
 | (s,n,_)::r,a,e,h=>by
   have:=Runs.le h.2.2.2;have:=h.2.1;rw [List.length_cons];lia
theorem Runs.app {xs:Array Keyed} {r:List (Nat×Nat×Nat)}:∀{l:List (Nat×Nat×Nat)} {a e:Nat},Runs rk xs (l++r) a e ↔ ∃m,Runs rk xs l a m/\Runs rk xs r m e
 | [],a,e=>⟨fun h=>⟨a,rfl,h⟩,fun ⟨m,h1,h2⟩=>by
     have h1:a=m:=h1;subst h1;exact h2⟩
 | (s,n,_)::l,a,e=>by
   constructor
   ·rintro ⟨h1,h2,h3,h4⟩
    obtain ⟨m,m1,m2⟩:=Runs.app.mp h4;exact ⟨m,⟨h1,h2,h3,m1⟩,m2⟩
   ·rintro ⟨m,⟨h1,h2,h3,h4⟩,m2⟩
    exact ⟨h1,h2,h3,Runs.app.mpr ⟨m,h4,m2⟩⟩
theorem Runs.congr {xs ys:Array Keyed}:∀{l:List (Nat×Nat×Nat)} {a e:Nat},Runs rk xs l a e->(∀j,a<=j->j<e->R rk xs j=R rk ys j)->Runs rk ys l a e
 | [],a,e,h,_=>h
 | (s,n,_)::r,a,e,⟨h1,h2,h3,h4⟩,g=>by
   have le:=Runs.le h4;refine ⟨h1,h2,fun i j x y z=> ?_,Runs.congr h4 fun j x y=>g j (by (clear y le h2 h1;lia)) y⟩;rw [←g i x (by (clear x h2 h1;lia)),←g j (by (clear z le h2 h1;lia)) (by (clear y x h2 h1;lia))];exact h3 i j x y z
theorem Ww {α:Type} {l:List α} {i:Nat} (h:i+1<l.length):∃pre p q post,l=pre++p::q::post/\pre.length=i:=by
 refine ⟨l.take i,l[i],l[i+1],l.drop (i+2), ?_,by rw [List.length_take];lia⟩;rw [←List.drop_eq_getElem_cons,←List.drop_eq_getElem_cons,List.take_append_drop]
theorem qO {st:SortSt} {i e:Nat} {Q:Bool->SortSt->Prop} (C:Jp prog w A s κ a₀ rk) (hB:SB κ a₀ pd st) (hr:Runs rk (arrOf st) pd.toList 0 e) (he:e<=a₀.size) (hi:i+1<pd.size)
 (h:∀pd' st',SB κ a₀ pd' st'->Runs rk (arrOf st') pd'.toList 0 e->pd'.size+1=pd.size->(∀j,e<=j->(arrOf st')[j]? = (arrOf st)[j]?)->Q true st'):wpS (model prog w) A E s (mergeAt' i) Q st:=by
 obtain ⟨pre,⟨sa,na,pw⟩,⟨sb,nb,pw2⟩,post,el,pl⟩:=Ww (l:=pd.toList) (i:=i) (by rw [Array.length_toList];exact hi);rw [el] at hr;obtain ⟨m,r1,r2⟩:=Runs.app.mp hr;obtain ⟨e1,n1,s1,e2,n2,s2,r3⟩:=r2;subst e1;have gU:=Runs.le r3;have h1:pd[i]? = some (sa,na,pw):=by rw [←Array.getElem?_toList,el,List.getElem?_append_right (by (clear gU e2 n2 n1 el hi he;lia)),pl,Nat.sub_self];rfl
 have h2:pd[i+1]? = some (sb,nb,pw2):=by rw [←Array.getElem?_toList,el,List.getElem?_append_right (by (clear h1 gU e2 n2 n1 el hi he;lia)),pl,show i+1 - i=1 by (clear h1 gU e2 n2 n1 pl el hi he;lia)];rfl
 refine Dw C hB h1 h2 e2 n1 n2 (by (clear h2 h1 n2 n1 pl el hi;lia)) s1 (by rw [e2];exact s2) fun st' hB' out seg=> ?_
 have ep:((pd.setIfInBounds i (sa,na+nb,pw)).eraseIdxIfInBounds (i+1)).toList=pre++(sa,na+nb,pw)::post:=by
  rw [Array.toList_eraseIdxIfInBounds,Array.toList_setIfInBounds,el,List.set_append_right _ _ (by (clear h2 h1 gU e2 n2 n1 el hi he;lia)),pl,Nat.sub_self];rw [List.eraseIdx_append_of_length_le (by (clear h2 h1 gU e2 n2 n1 el hi he;lia)),pl,show i+1 - i=1 by (clear h2 h1 gU e2 n2 n1 pl el hi he;lia)];rfl
 refine h _ st' hB' ?_ ?_ fun j hj=>out j (.inr (by (clear ep h2 h1 n2 n1 pl el hi he;lia)))
 ·rw [ep]
  refine Runs.app.mpr ⟨sa,r1.congr fun j _ j2=>gJ (out j (.inl j2)).symm,rfl,by (clear ep h2 h1 gU e2 n2 pl el hi he;lia), ?_, ?_⟩
  ·rw [show sa+(na+nb)=sb+nb by (clear ep h2 h1 gU n2 n1 pl el hi he;lia)];exact seg
  ·rw [←Nat.add_assoc]
   exact r3.congr fun j j1 j2=>gJ (out j (.inr (by (clear j2 ep h2 h1 gU n2 n1 pl el hi he;lia)))).symm
 ·rw [←Array.length_toList,ep,←Array.length_toList,el]
  simp only [List.length_append,List.length_cons]
  (clear ep h2 h1 gU e2 n2 n1 pl el hi he;lia)
theorem Runs.modify {xs:Array Keyed} {f:Nat×Nat×Nat->Nat×Nat×Nat} (hf:∀x,(f x).1=x.1/\(f x).2.1=x.2.1) (l:List (Nat×Nat×Nat)):∀(i a e:Nat),Runs rk xs l a e->Runs rk xs (l.modify i f) a e:=by
 induction l with
 | nil=>intro i a e h;cases i<;>exact h
 | cons t r ih=>
   obtain ⟨s,n,p⟩:=t;intro i a e h;obtain ⟨h1,h2,h3,h4⟩:=h;cases i with
   | zero=>
     rw [List.modify_zero_cons];have e2:=hf (s,n,p);rcases hfp:f (s,n,p) with ⟨s',n',p'⟩
     rw [hfp] at e2;obtain ⟨q1,q2⟩:=e2;have q1:s'=s:=q1;have q2:n'=n:=q2;rw [q1,q2];exact ⟨h1,h2,h3,h4⟩
   | succ i=>
     rw [List.modify_succ_cons];exact ⟨h1,h2,h3,ih i _ _ h4⟩
theorem wpS_sortRuns {st:SortSt} {Q:Unit->SortSt->Prop} (C:Jp prog w A s κ a₀ rk) (hB:SB κ a₀ #[] st) (h2:2<=a₀.size)
 (h:∀st',(arrOf st').Perm a₀->failedOf st'=none->Seg rk (arrOf st') 0 a₀.size->Q () st'):wpS (model prog w) A E s sortRuns' Q st:=by
 rw [sortRuns'_eq];refine wpS_bind (wpS_get ?_);dsimp only;simp only [hB.size];generalize minRun' a₀.size a₀.size 0=mr
 refine wpS_bind (wpS_mono (wpS_forRange (I:=fun x c st'=>∃lo pd,c=(none,lo)/\x<=lo/\lo<=a₀.size/\SB κ a₀ pd st'/\Runs rk (arrOf st') pd.toList 0 lo)
  (Q:=fun c st'=>∃pd,c=(none,a₀.size)/\SB κ a₀ pd st'/\Runs rk (arrOf st') pd.toList 0 a₀.size) ?step ?fin ⟨0, #[],rfl,by (clear h2;lia),by (clear h2;lia),hB,rfl⟩) ?post)
 case fin=>
  rintro c st' ⟨lo,pd,rfl,x1,x2,hB',hr⟩;have:lo=a₀.size:=by (clear h2;lia)
  subst this;exact ⟨pd,rfl,hB',hr⟩
 case step=>
  rintro x c st' _ hx ⟨lo,pd,rfl,x1,x2,hB',hr⟩;dsimp only;refine aW (fun ge=> ?_) (fun ge=> ?_)
  ·have:lo=a₀.size:=by (clear x1 hx h2;lia)
   subst this;exact wpS_pure ⟨pd,rfl,hB',hr⟩
  refine wpS_bind (wpS_countRun C (by (clear ge x1 hx h2;lia)) (by (clear x2 x1 hx h2;lia)) hB' fun m st2 hB2 kb2 m1 m2 hs2=> ?_);dsimp only;have hr2:=hr.congr (ys:=arrOf st2) fun j _ j2=>gJ (kb2 j j2).symm;apply aW
  case' h1=>
   intro lt;refine wpS_bind (wpS_lift (wpAny_rule ⟨rfl, ?_⟩));refine wpS_bind (wpS_binarySort C (by (clear lt m2 m1 ge x1 hx h2;lia)) (by (clear m1 ge x2 x1 hx h2;lia)) hB2 hs2 fun st3 hB3 kb3 hs3=> ?_);simp only [Bool.not_true,Bool.false_eq_true,if_false];have UJ:=hr2.congr (ys:=arrOf st3) fun j _ j2=>gJ (kb3 j j2).symm;have n1:1<=min (a₀.size - lo) mr:=by (clear m2 m1 x2 x1 hx h2;lia)
   have n2:min (a₀.size - lo) mr<=a₀.size - lo:=by (clear n1 lt m2 m1 ge x2 x1 hx h2;lia)
   generalize min (a₀.size - lo) mr=n at hs3 n1 n2 ⊢
  case' h2=>
   intro lt;have UJ:=hr2;have hB3:=hB2;have hs3:=hs2;have n1:=m1;have n2:=m2;revert UJ hB3 hs3;generalize st2=st3;revert n1 n2;generalize m=n;intro n1 n2 UJ hB3 hs3
  all_goals
   refine wpS_bind (wpS_get ?_)
   have done:∀oJ oX,SB κ a₀ oJ oX->Runs rk (arrOf oX) oJ.toList 0 lo->Seg rk (arrOf oX) lo (lo+n)->wpS (model prog w) A E s (do
    modify fun s=>setPending s ((pendingOf s).push (lo,n,0))
    pure (ForInStep.yield ((none:Option Unit),lo+n))) (fun r st'=>match r with
     | ForInStep.done c'=>∃pd,c'=(none,a₀.size)/\SB κ a₀ pd st'/\Runs rk (arrOf st') pd.toList 0 a₀.size
     | ForInStep.yield c'=>∃lo pd,c'=(none,lo)/\x+1<=lo/\lo<=a₀.size/\SB κ a₀ pd st'/\Runs rk (arrOf st') pd.toList 0 lo) oX:=by
    intro oJ oX u6 yI Yp;refine wpS_bind (wpS_modify (wpS_pure ⟨lo+n,oJ.push (lo,n,0),rfl,by (clear n2 lt m2 m1 ge x2 hx h2;lia),by (clear n1 lt m2 m1 ge x1 hx h2;lia),⟨u6.perm,u6.kind,u6.failed,by show (pendingOf oX).push _=_;rw [u6.pend]⟩, ?_⟩));rw [Array.toList_push];exact Runs.app.mpr ⟨lo,yI,rfl,n1,Yp,rfl⟩
   cases hb:(pendingOf st3).back? with
   | none=>exact done _ _ hB3 UJ hs3
   | some t=>
     obtain ⟨s1,n1',pw⟩:=t;dsimp only;generalize power' a₀.size (2*s1+n1') (2*s1+n1'+n1'+n) a₀.size=pwr
     refine wpS_bind (wpS_mono (wpS_forRange (I:=fun y c oX=>∃oJ,c=(none,())/\SB κ a₀ oJ oX/\Runs rk (arrOf oX) oJ.toList 0 lo/\Seg rk (arrOf oX) lo (lo+n))
      (Q:=fun c oX=>∃oJ,c=(none,())/\SB κ a₀ oJ oX/\Runs rk (arrOf oX) oJ.toList 0 lo/\Seg rk (arrOf oX) lo (lo+n)) ?_ (fun _ _ z=>z) ⟨_,rfl,hB3,UJ,hs3⟩) ?_)
     ·rintro y c oX _ hy ⟨oJ,rfl,u6,yI,Yp⟩
      refine wpS_bind (wpS_get ?_);rw [u6.pend];cases hg:(if oJ.size>1 then oJ[oJ.size - 2]? else none) with
      | none=>exact wpS_pure ⟨oJ,rfl,u6,yI,Yp⟩
      | some t=>
        obtain ⟨f1,f2,older⟩:=t;dsimp only
        have gt:oJ.size>1:=by
         by_cases g:oJ.size>1
         ·exact g
         ·rw [if_neg g] at hg;cases hg
        refine aW (fun _=> ?_) (fun _=> ?_)
        ·exact wpS_pure ⟨oJ,rfl,u6,yI,Yp⟩
        ·refine wpS_bind (qO C u6 yI x2 (by (clear hg hy hb n2 n1 lt m2 m1 ge x2 x1 hx h2;lia)) fun pd5 zN hB5 hr5 _ aak=> ?_)
         simp only [Bool.not_true,Bool.false_eq_true,if_false];refine wpS_pure ⟨pd5,rfl,hB5,hr5,fun i j a b c=> ?_⟩;rw [gJ (aak i a),gJ (aak j (by (clear c gt hg hy hb n2 n1 lt m2 m1 ge x2 x1 hx h2;lia)))];exact Yp i j a b c
     ·rintro c oX ⟨oJ,rfl,u6,yI,Yp⟩
      dsimp only;refine wpS_bind (wpS_modify ?_);refine done _ _ ⟨u6.perm,u6.kind,u6.failed,rfl⟩ ?_ Yp;rw [←u6.pend] at yI;rw [Array.toList_modify];refine Runs.modify (fun x=> ?_) _ _ _ _ yI;exact ⟨rfl,rfl⟩
 case post=>
  rintro c st' ⟨pd,rfl,hB',hr⟩;dsimp only;have le:=Runs.le hr;rw [Array.length_toList] at le
  refine wpS_bind (wpS_mono (wpS_forRange (I:=fun y c oX=>∃oJ,c=(none,())/\SB κ a₀ oJ oX/\Runs rk (arrOf oX) oJ.toList 0 a₀.size/\oJ.size<=max 1 (a₀.size - y))
   (Q:=fun c oX=>∃oJ,c=(none,())/\SB κ a₀ oJ oX/\Runs rk (arrOf oX) oJ.toList 0 a₀.size/\oJ.size<=1) ?_ ?_ ⟨pd,rfl,hB',hr,by (clear h2;lia)⟩) ?_)
  ·rintro y c oX _ hy ⟨oJ,rfl,u6,yI,le4⟩
   refine wpS_bind (wpS_get ?_);rw [u6.pend];refine aW (fun l1=> ?_) (fun l1=> ?_)
   ·exact wpS_pure ⟨oJ,rfl,u6,yI,l1⟩
   ·have hix:∀(c:Prop) [Decidable c],(if c then oJ.size - 2 - 1 else oJ.size - 2)+1<oJ.size:=by
     intro c _;split<;>(clear le4 hy le h2;lia)
    refine wpS_bind (qO C u6 yI (Nat.le_refl _) (hix _) fun pd5 zN hB5 hr5 z5 _=> ?_);simp only [Bool.not_true,Bool.false_eq_true,if_false];exact wpS_pure ⟨pd5,rfl,hB5,hr5,by (clear l1 hy le h2;lia)⟩
  ·rintro c oX ⟨oJ,rfl,u6,yI,le4⟩
   exact ⟨oJ,rfl,u6,yI,by (clear le h2;lia)⟩
  ·rintro c oX ⟨oJ,rfl,u6,yI,le4⟩
   refine wpS_pure (h oX u6.perm u6.failed ?_);have ll:oJ.toList.length<=1:=by rw [Array.length_toList];exact le4
   match hl:oJ.toList,ll,yI with
   | [],_,yI=>have:0=a₀.size:=yI;(clear hl ll le4 le;lia)
   | [(s,n,p)],_,yI=>
     obtain ⟨_,_,hs,e⟩:=yI;have e:0+n=a₀.size:=e;rw [e] at hs;exact hs
end
end Tim
set_option Elab.async false
set_option linter.all false
set_option maxRecDepth 100000
set_option maxHeartbeats 4000000
namespace Tim
open PySem PyProof.Rows
section
variable {prog:Program} {w:World} {A:Around} {E:Value->Shared->Prop} {s:Shared} {κ:SortKind} {rk:Value->Nat}
theorem Xj {vs:List Value} {xs:Array Keyed} (hp:xs.Perm (pairsOf vs)) (hs:Seg rk xs 0 (pairsOf vs).size):(xs.map (·.2)).toList.Perm vs/\(xs.map (·.2)).toList.Pairwise (fun x y=>rk x<=rk y):=by
 have hl:xs.toList.Perm (vs.zip vs):=by rw [←pairsOf_toList];exact Array.perm_iff_toList_perm.mp hp
 have hmem:∀p,p∈xs.toList->p.1=p.2:=fun p hp'=>(mem_zip_self (hl.mem_iff.mp hp')).1
 have e:(xs.map (·.2)).toList=xs.toList.map (·.1):=by
  rw [Array.toList_map];exact List.map_congr_left fun p hp'=>(hmem p hp').symm
 rw [e];constructor
 ·have:=hl.map Prod.fst
  rwa [List.map_fst_zip (Nat.le_refl _)] at this
 ·rw [List.pairwise_map,List.pairwise_iff_getElem]
  intro i j hi hj hij;rw [Array.length_toList] at hi hj;have:=hs i j (Nat.zero_le _) (Nat.le_of_lt hij) (by rw [←hp.size_eq];exact hj);rw [iV hi,iV hj] at this;simpa using this
theorem zU {a:Addr} {vs:List Value} {n:Nat} {P:PySem.Fin->Shared->Prop} (ho:s.heap.get? a=some (seqObj "list" vs.toArray n)) (hz:vs.length<=sizeLine)
 (hk:2<=vs.length -> ∀h':Heap,(∀b o,b≠a->s.heap.get? b=some o->h'.get? b=some o)->(∀(Q:SortKind->Shared->Prop) (E:Value->Shared->Prop),Q κ {s with heap:=h'}->wpAny (model prog w) A (keyKind' vs.toArray) Q E {s with heap:=h'})/\Jp prog w A {s with heap:=h'} κ (pairsOf vs) rk)
 (h:∀out:List Value,out.Perm vs->out.Pairwise (fun x y=>rk x<=rk y)->P (.done (.ret .none)) {s with heap:=sortedHeap s.heap a vs out.toArray}):
 wpAny (model prog w) A (Builtin.«list.sort» ⟨[.ref a],[]⟩) P E s:=by
 rw [list_sort_plain];have ha:a<s.heap.objs.size:=Heap.lt_size ho;refine wpAny_bind (listItems_at ho rfl ?_);refine wpAny_bind (listUpdate_at ho rfl ?_ (by rw [List.size_toArray];exact hz) (Nat.zero_le _));obtain ⟨e1,ho1⟩:∃e1,(s.heap.update a (Obj.mapSeq fun _=> #[])).get? a=some (seqObj "list" #[] e1):=⟨_,get?_update_seq ho (fun _=> #[])⟩;refine wpAny_bind (seqEpoch_at ho1 rfl ?_);refine wpAny_bind (wpAny_newTuple ?_ (by show vs.length<=_;exact hz));refine wpAny_bind (wpAny_newList ?_ (Nat.zero_le _));refine wpAny_holding ?_
 have keep:∀b o,b≠a->s.heap.get? b=some o->(((s.heap.update a (Obj.mapSeq fun _=> #[])).push (seqObj "tuple" vs.toArray 0)).push (seqObj "list" #[] 0)).get? b=some o:=fun b o nb e=>by
  refine Heap.get?_push_of_some _ (Heap.get?_push_of_some _ ?_);rw [Heap.get?_update_ne _ _ _ _ nb];exact e
 have ho6:(((s.heap.update a (Obj.mapSeq fun _=> #[])).push (seqObj "tuple" vs.toArray 0)).push (seqObj "list" #[] 0)).get? a=some (seqObj "list" #[] e1):=Heap.get?_push_of_some _ (Heap.get?_push_of_some _ ho1);show wpAny (model prog w) A _ P E {s with heap:=((s.heap.update a (Obj.mapSeq fun _=> #[])).push (seqObj "tuple" vs.toArray 0)).push (seqObj "list" #[] 0)};dsimp only;have hsz:vs.toArray.size=vs.length:=by simp
 have fin:∀st':SortSt,(arrOf st').Perm (pairsOf vs)->Seg rk (arrOf st') 0 (pairsOf vs).size ->
  P (.done (.ret .none)) {s with heap:=sortedHeap s.heap a vs ((arrOf st').map (·.2))}:=by
  intro st' hp hs;obtain ⟨h1,h2⟩:=Xj hp hs;have:=h _ h1 h2;rwa [Array.toArray_toList] at this
 by_cases h2:vs.toArray.size<2
 ·rw [if_pos h2,if_pos h2]
  refine wpAny_bind (wpAny_pure ?_);rw [StateT.run_pure];refine wpAny_bind (wpAny_pure ?_);dsimp only;refine wpAny_bind (seqEpoch_at ho6 rfl ?_);refine wpAny_bind (listUpdate_at ho6 rfl ?_ (Nat.zero_le _) (by rw [Array.size_map];show (pairsOf vs).size<=_;rw [pairsOf_size];omega));simp only [bne_self_eq_false,Bool.false_eq_true,if_false];refine wpAny_pure (fin (SortSt.mk' general' (vs.toArray.zip vs.toArray) #[] 7 none) (Array.Perm.refl _) ?_);intro i j _ hij hj;have:i=j:=by rw [pairsOf_size] at hj;omega
  subst this;exact Nat.le_refl _
 ·rw [if_neg h2,if_neg h2]
  obtain ⟨kk,kc⟩:=hk (by omega) _ keep;refine wpAny_bind (kk _ _ ?_)
  refine wpAny_bind (wpAny_mono (wpS_sortRuns (a₀:=pairsOf vs) (rk:=rk) (st:=SortSt.mk' κ (vs.toArray.zip vs.toArray) #[] 7 none)
   (Q:=fun _ st'=>(arrOf st').Perm (pairsOf vs)/\failedOf st'=none/\Seg rk (arrOf st') 0 (pairsOf vs).size)
   kc ⟨Array.Perm.refl _,rfl,rfl,rfl⟩ (by rw [pairsOf_size];omega) fun st' a1 a2 a3=>⟨a1,a2,a3⟩) ?_ fun _ _ e=>e)
  rintro ⟨⟨⟩,st'⟩ s' ⟨rfl,hp,hf,hs⟩;dsimp only;refine wpAny_bind (seqEpoch_at ho6 rfl ?_);refine wpAny_bind (listUpdate_at ho6 rfl ?_ (Nat.zero_le _) (Nat.le_trans (Nat.le_of_eq ((Array.size_map ..).trans (hp.size_eq.trans (pairsOf_size _)))) (Nat.le_succ_of_le hz)));rw [hf];simp only [bne_self_eq_false,Bool.false_eq_true,if_false];exact wpAny_pure (fin st' hp hs)
theorem Hj {l:Addr} {vs:List Value} {Q:Value->Shared->Prop} (hl:s.heap.IsList l vs.toArray) (hz:vs.length<=sizeLine)
 (hk:2<=vs.length -> ∀h':Heap,(∀b o,s.heap.get? b=some o->h'.get? b=some o)->(∀(Q:SortKind->Shared->Prop) (E:Value->Shared->Prop),Q κ {s with heap:=h'}->wpAny (model prog w) A.in1.in1 (keyKind' vs.toArray) Q E {s with heap:=h'})/\Jp prog w A.in1.in1 {s with heap:=h'} κ (pairsOf vs) rk)
 (h:∀(h':Heap) (D:Addr) (c:Nat) (out:List Value),(∀b o,s.heap.get? b=some o->h'.get? b=some o)->s.heap.objs.size<=D->h'.get? D=some (seqObj "list" out.toArray c)->out.Perm vs->out.Pairwise (fun x y=>rk x<=rk y)->Q (.ref D) {s with heap:=h'}):
 wpAny (model prog w) A (call (.builtin "sorted") [.ref l]) Q E s:=by
 refine Calls.call_function_entry kind_sorted plain_sorted entry_sorted (args_sorted1 _) ?_;unfold Builtin.«sorted»;refine wpAny_bind (m:=checkCount "sorted" 1 1 _) (wpAny_pure ?_);refine wpAny_bind (collect_list hl ?_ hz);refine wpAny_bind (wpAny_newList ?_ hz)
 have hsz:((s.heap.push (seqObj "list" #[] 0)).update s.heap.objs.size (Obj.mapSeq (· ++ vs.toArray))).objs.size=s.heap.objs.size+1:=by
  rw [Heap.size_update,size_push']
 have hoL:(((s.heap.push (seqObj "list" #[] 0)).update s.heap.objs.size (Obj.mapSeq (· ++ vs.toArray))).push (seqObj "list" vs.toArray 0)).get? (s.heap.objs.size+1)=some (seqObj "list" vs.toArray 0):=by
  rw [←hsz];exact Heap.get?_push_size _ rfl
 have keep:∀b o,s.heap.get? b=some o->(((s.heap.push (seqObj "list" #[] 0)).update s.heap.objs.size (Obj.mapSeq (· ++ vs.toArray))).push (seqObj "list" vs.toArray 0)).get? b=some o:=fun b o q=>by
  have hlt:b<s.heap.objs.size:=Heap.lt_size q;rw [Heap.get?_push_ne _ _ _ (by rw [hsz];exact Nat.ne_of_lt (Nat.lt_succ_of_lt hlt)),Heap.get?_update_ne _ _ _ _ (Nat.ne_of_lt hlt),Heap.get?_push_ne _ _ _ (Nat.ne_of_lt hlt)];exact q
 show wpAny _ _ _ _ _ {s with heap:=((s.heap.push (seqObj "list" #[] 0)).update s.heap.objs.size (Obj.mapSeq (· ++ vs.toArray))).push (seqObj "list" vs.toArray 0)};rw [hsz];generalize ((s.heap.push (seqObj "list" #[] 0)).update s.heap.objs.size (Obj.mapSeq (· ++ vs.toArray))).push (seqObj "list" vs.toArray 0)=h1 at keep hoL ⊢;have nD:∀b o,s.heap.get? b=some o->b≠s.heap.objs.size+1:=fun b o e=>Nat.ne_of_lt (Nat.lt_succ_of_lt (Heap.lt_size e));refine wpAny_bind (wpAny_holding (wpAny_call_entry slot_list_sort ⟨_,hoL,rfl⟩ entry_list_sort (zU (s:={s with heap:=h1}) hoL hz (fun h2 h' kp=>hk h2 h' fun b o e=>kp b o (nD b o e) (keep b o e)) fun out p1 p2=>⟨_,rfl, ?_⟩) (args_list_sort _)));refine wpAny_pure ⟨_,rfl, ?_⟩;obtain ⟨e1,ho1⟩:∃e1,(h1.update (s.heap.objs.size+1) (Obj.mapSeq fun _=> #[])).get? (s.heap.objs.size+1)=some (seqObj "list" #[] e1):=⟨_,get?_update_seq hoL (fun _=> #[])⟩;have ho2:(((h1.update (s.heap.objs.size+1) (Obj.mapSeq fun _=> #[])).push (seqObj "tuple" vs.toArray 0)).push (seqObj "list" #[] 0)).get? (s.heap.objs.size+1)=some (seqObj "list" #[] e1):=Heap.get?_push_of_some _ (Heap.get?_push_of_some _ ho1);refine h (sortedHeap h1 (s.heap.objs.size+1) vs out.toArray) _ _ out (fun b o e=> ?_) (Nat.le_succ _) (by unfold sortedHeap;exact get?_update_seq ho2 (fun _=>out.toArray)) p1 p2;unfold sortedHeap;rw [Heap.get?_update_ne _ _ _ _ (nD b o e)];refine Heap.get?_push_of_some _ (Heap.get?_push_of_some _ ?_);rw [Heap.get?_update_ne _ _ _ _ (nD b o e)];exact keep b o e
end
section
theorem Aw {α:Type} {p q:α->Bool} {u:α}:∀{l:List α},u∈l->q u=true->p u=false->(∀x,p x=true->q x=true)->l.countP p<l.countP q
 | [],hm,_,_,_=>by simp at hm
 | x::l,hm,hq,hp,hi=>by
   have mono:l.countP p<=l.countP q:=List.countP_mono_left fun x _=>hi x;rw [List.countP_cons,List.countP_cons];rcases List.mem_cons.mp hm with rfl|hm
   ·rw [hq,hp];simp;omega
   ·have:=Aw hm hq hp hi
    cases e:p x with
    | true=>rw [hi x e];simp;omega
    | false=>simp;omega
def o_ {α:Type} (L:α->α->Bool) (vs:List α) (v:α):Nat:=vs.countP fun u=>L u v
structure Swo {α:Type} (L:α->α->Bool):Prop where
 irr:∀a,L a a=false
 tr:∀a b c,L a b=true->L b c=true->L a c=true
 ntr:∀a b c,L a b=false->L b c=false->L a c=false
theorem JD {α:Type} {L:α->α->Bool} (S:Swo L) {vs:List α} {u v:α} (hu:u∈vs):decide (o_ L vs u<o_ L vs v)=L u v:=by
 cases e:L u v with
 | true=>exact decide_eq_true (Aw hu e (S.irr u) fun x hx=>S.tr x u v hx e)
 | false=>
   refine decide_eq_false fun z=> ?_
   have:o_ L vs v<=o_ L vs u:=List.countP_mono_left fun x _ hx=>by
    cases e':L x u with
    | true=>rfl
    | false=>rw [S.ntr x u v e' e] at hx;cases hx
   omega
theorem Td {α:Type} {L:α->α->Bool} (S:Swo L) {vs:List α} {u v:α} (hv:v∈vs) (h:o_ L vs u<=o_ L vs v):L v u=false:=by
 have:=JD S (u:=v) (v:=u) hv;rw [←this];exact decide_eq_false (by omega)
def jy:List Int->List Int->Bool
 | _,[]=>false
 | [],_::_=>true
 | a::as,b::bs=>if a=b then jy as bs else decide (a<b)
theorem Fj (a:List Int):jy a []=false:=by cases a<;>rfl
theorem Fl:∀a,jy a a=false
 | []=>rfl
 | a::as=>by unfold jy;rw [if_pos rfl];exact Fl as
theorem JW:∀a b c,jy a b=true->jy b c=true->jy a c=true
 | a,[],_,h,_=>by rw [Fj] at h;cases h
 | [],_::_,[],_,h=>by cases h
 | [],_::_,_::_,_,_=>rfl
 | _::_,_::_,[],_,h=>by cases h
 | a::as,b::bs,c::cs,h1,h2=>by
   unfold jy at h1 h2 ⊢
   by_cases e1:a=b
   ·rw [if_pos e1] at h1
    by_cases e2:b=c
    ·rw [if_pos e2] at h2
     rw [if_pos (e1.trans e2)];exact JW as bs cs h1 h2
    ·rw [if_neg e2] at h2
     rw [if_neg (e1▸e2),e1];exact h2
   ·rw [if_neg e1] at h1
    have h1:=of_decide_eq_true h1
    by_cases e2:b=c
    ·rw [←e2,if_neg e1];exact decide_eq_true h1
    ·rw [if_neg e2] at h2
     have h2:=of_decide_eq_true h2;rw [if_neg (by omega)];exact decide_eq_true (by omega)
theorem Fi:∀a b c,jy a b=false->jy b c=false->jy a c=false
 | a,_,[],_,_=>Fj a
 | [],[],_::_,_,h=>by cases h
 | [],_::_,_::_,h,_=>by cases h
 | _::_,[],_::_,_,h=>by cases h
 | a::as,b::bs,c::cs,h1,h2=>by
   unfold jy at h1 h2 ⊢
   by_cases e1:a=b
   ·rw [if_pos e1] at h1
    by_cases e2:b=c
    ·rw [if_pos e2] at h2
     rw [if_pos (e1.trans e2)];exact Fi as bs cs h1 h2
    ·rw [if_neg e2] at h2
     rw [if_neg (e1▸e2),e1];exact h2
   ·rw [if_neg e1] at h1
    have h1:=of_decide_eq_false h1
    by_cases e2:b=c
    ·rw [←e2,if_neg e1];exact decide_eq_false h1
    ·rw [if_neg e2] at h2
     have h2:=of_decide_eq_false h2;rw [if_neg (by omega)];exact decide_eq_false (by omega)
theorem Fg:∀a b,jy a b=false->jy b a=false->a=b
 | [],[],_,_=>rfl
 | [],_::_,h,_=>by cases h
 | _::_,[],_,h=>by cases h
 | a::as,b::bs,h1,h2=>by
   unfold jy at h1 h2
   by_cases e:a=b
   ·rw [if_pos e] at h1
    rw [if_pos e.symm] at h2;rw [e,Fg as bs h1 h2]
   ·rw [if_neg e] at h1
    rw [if_neg (Ne.symm e)] at h2;have h1:=of_decide_eq_false h1;have h2:=of_decide_eq_false h2;omega
theorem Jx {α:Type} (key:α->List Int):Swo fun a b=>jy (key a) (key b):=⟨fun a=>Fl _,fun a b c=>JW _ _ _,fun a b c=>Fi _ _ _⟩
end
end Tim
set_option Elab.async false
set_option linter.all false
set_option maxRecDepth 100000
set_option maxHeartbeats 4000000
namespace L2
open PySem PySem.Spec PyProof.Rows PySem.W
section
variable {X:Cx}
def keyOf (h:Heap):Value->List Int
 | .int n _=>[n]
 | .ref a=>match h.get? a with
   | some o=>match o.data with
     | .seq xs _=>xs.toList.map numOf
     | _=>[]
   | none=>[]
 | _=>[]
theorem JV {prog:Program} {w:World} {A:Around} {s:Shared} {Q:Bool->Shared->Prop}:∀(xs ys:List Value) (ns ms:List Int) (i:Nat),IntsAre xs ns->IntsAre ys ms -> ∀(fin:Bool),(ns.length=ms.length->fin=false)->ns.length=ms.length->Q (Tim.jy ns ms) s->KatLex prog w A true fin Q (xs.zip ys) i s
 | _,_,[],[],i,.nil,.nil,fin,hf,_,h=>by
   show Q fin s;rw [hf rfl];exact h
 | _,_,_::_,[],_,_,_,_,_,hl,_=>by cases hl
 | _,_,[],_::_,_,_,_,_,_,hl,_=>by cases hl
 | _,_,n::ns,m::ms,i,.cons _ t hx,.cons _ u hy,fin,hf,hl,h=>by
   rw [List.zip_cons_cons];refine kat_cons (wpAny_eqBool_int ?_);have hl':ns.length=ms.length:=by simpa using hl
   by_cases e:n=m
   ·subst e
    rw [show (n==n)=true by simp];refine kat_yes (JV _ _ ns ms (i+1) hx hy fin (fun z=>hf (by simpa using z)) hl' ?_);unfold Tim.jy at h;rwa [if_pos rfl] at h
   ·rw [show (n==m)=false by simpa using e]
    unfold Tim.jy at h;rw [if_neg e] at h;refine kat_no ?_;cases (true&&i==0) with
    | true=>exact oneLt_int h
    | false=>exact kat_one _ _ (lt_int (show W.BoolBack Q (.bool (decide (n<m))) s from h))
theorem qz {h:Heap} {a:Addr} {its:List Value} {ns:List Int} (ht:IsTup h a its.toArray) (hi:IntsAre its ns):keyOf h (.ref a)=ns:=by
 obtain ⟨o,e,_,n,d⟩:=ht
 show (match h.get? a with
  | some o=>match o.data with
    | .seq xs _=>xs.toList.map numOf
    | _=>[]
  | none=>[])=ns
 rw [e];dsimp only;rw [d];dsimp only;exact hi.nums
def Ks (h:Heap) (k:Nat) (vs:List Value):Prop:=∀v∈vs,∃a its ns,v = .ref a/\IsTup h a its.toArray/\IntsAre its ns/\ns.length=k
theorem Oj {prog:Program} {w:World} {A:Around} {s:Shared} {vs:List Value} {k:Nat} {h0:Heap} (T:Ks h0 k vs) (kp:∀b o,h0.get? b=some o->s.heap.get? b=some o):
 Tim.Jp prog w A s (tuples' true) (pairsOf vs) (Tim.o_ (fun a b=>Tim.jy (keyOf h0 a) (keyOf h0 b)) vs):=by
 refine ⟨fun p hp q hq E Q h=> ?_⟩;rw [pairsOf_toList] at hp hq;obtain ⟨_,mp⟩:=mem_zip_self hp;obtain ⟨_,mq⟩:=mem_zip_self hq;rw [Tim.JD (Tim.Jx (keyOf h0)) mp] at h;obtain ⟨a,its,ns,ep,ta,ia,la⟩:=T _ mp;obtain ⟨b,jts,ms,eq,tb,ib,lb⟩:=T _ mq;rw [ep,eq] at h ⊢;rw [qz ta ia,qz tb ib] at h;obtain ⟨oa,ea,ca,n1,da⟩:=ta;obtain ⟨ob,eb,cb,n2,db⟩:=tb;have l1:its.length=ns.length:=ia.length;have l2:jts.length=ms.length:=ib.length;refine kat_lt (kp _ _ ea) da (kp _ _ eb) db ?_;have e1:its.toArray.toList=its:=by simp
 have e2:jts.toArray.toList=jts:=by simp
 rw [e1,e2];exact JV its jts ns ms 0 ia ib _ (fun z=>decide_eq_false (by rw [List.size_toArray,List.size_toArray];omega)) (by omega) h
theorem vD {h0 h1:Heap} {k:Nat} (hk:1<=k) (kp:∀b o,h0.get? b=some o->h1.get? b=some o):∀{vs:List Value},Ks h0 k vs -> ∃fs,KatTups h1 vs fs/\fs.length=vs.length /\ ∀f∈fs,∃n t,f=Value.int n t
 | [],_=>⟨[],trivial,rfl,fun _ z=>absurd z (by simp)⟩
 | v::vs,T=>by
   obtain ⟨fs,t1,t2,t3⟩:=vD hk kp (vs:=vs) fun u hu=>T u (List.mem_cons_of_mem _ hu);obtain ⟨a,its,ns,rfl,⟨o,e,c,n,d⟩,ia,la⟩:=T v (List.mem_cons_self ..)
   match its,ns,ia,la,d with
   | _,_,.nil,la,d=>simp at la;omega
   | _,_,.cons m t r,la,d=>
     refine ⟨_::fs,KatTups.cons (kp _ _ e) c d rfl t1,by simp [t2],fun f hf=> ?_⟩;rcases List.mem_cons.mp hf with rfl|hf
     ·exact ⟨_,_,rfl⟩
     ·exact t3 f hf
theorem KN {prog:Program} {w:World} {A:Around} {s:Shared} {vs:List Value} {k:Nat} {h0:Heap} {Q:SortKind->Shared->Prop} {E:Value->Shared->Prop} (hk:1<=k) (T:Ks h0 k vs) (hv:2<=vs.length) (kp:∀b o,h0.get? b=some o->s.heap.get? b=some o)
 (h:Q (tuples' true) s):wpAny (model prog w) A (keyKind' vs.toArray) Q E s:=by
 obtain ⟨fs,t1,t2,t3⟩:=vD hk kp T;refine kat_kind (T:= .type "int") t1 (by omega) (fun v hv=> ?_) rfl h;obtain ⟨n,t,rfl⟩:=t3 v hv;exact .now
theorem KC {ys:List V} {us out:List Value} (r:Vals ys us) (p:out.Perm us):∃zs,Vals zs out/\zs.Perm ys:=by
 induction p generalizing ys with
 | nil=>cases r;exact ⟨[],.nil,.refl _⟩
 | cons x p ih=>
   cases r with
   | cons rx rt=>
     obtain ⟨zs,z1,z2⟩:=ih rt;exact ⟨_::zs,.cons rx z1,.cons _ z2⟩
 | swap x y l=>
   cases r with
   | cons rx rt=>
     cases rt with
     | cons ry rl=>exact ⟨_,.cons ry (.cons rx rl),.swap _ _ _⟩
 | trans p q ih1 ih2=>
   obtain ⟨zs,z1,z2⟩:=ih2 r;obtain ⟨ws,w1,w2⟩:=ih1 z1;exact ⟨ws,w1,w2.trans z2⟩
theorem Ar:∀{ns:List Int} {vs:List Value},Vals (ns.map V.int) vs->IntsAre vs ns
 | [],_,.nil=> .nil
 | n::ns,_,.cons ⟨t,e⟩ r=>by subst e;exact .cons n t (Ar r)
theorem Ab {R:Value->Value->Prop} {S:V->V->Prop} (hRS:∀x y u v,RelV x u->RelV y v->R u v->S x y):∀{zs:List V} {out:List Value},Vals zs out->out.Pairwise R->zs.Pairwise S
 | _,_,.nil,_=> .nil
 | _,_,.cons rx rt,p=>by
   rw [List.pairwise_cons] at p;refine .cons (fun y hy=> ?_) (Ab hRS rt p.2);obtain ⟨i,hi,e⟩:=List.getElem_of_mem hy;obtain ⟨v,hv,ry⟩:=Vals.get rt (i:=i) (x:=y) (by rw [List.getElem?_eq_getElem hi,e]);exact hRS _ _ _ _ rx ry (p.1 v (List.mem_of_getElem? hv))
def akZ (K:PySem.W.Frag) (H:Hp) (k:Nat) (f:V->List Int) (x:V):Prop:=∃a,x = .ref a/\fY K H a ((f x).map V.int)/\(f x).length=k
def Ht (K:PySem.W.Frag):List V->Hp->VK->Prop:=fun xs H Q=>∃(p:Addr) (ys:List V) (k:Nat) (f:V->List Int),xs=[.ref p]/\aV K H p ys/\1<=k/\(∀y∈ys,akZ K H k f y) /\
 ∀l zs,H l=none->zs.Perm ys->zs.Pairwise (fun x y=>Tim.jy (f y) (f x)=false)->Q (.ref l) (upd H l (.lst zs))
theorem Jb:iZ X (.builtin "sorted") (Ht X.K):=by
 intro pins s σ H xs us Q I r h;obtain ⟨p,ys,k,f,rfl,hq,hk,ht,q⟩:=h;obtain ⟨u,rfl,rx⟩:=vals1 r;cases rx;obtain ⟨its,rv,pl,hz⟩:=I.list hq;have hlen:its.length=ys.length:=by rw [←rv.length]
 have item:∀x v,x∈ys->RelV x v -> ∃a jts,v = .ref a/\IsTup s.heap a jts.toArray/\IntsAre jts (f x)/\(f x).length=k:=by
  intro x v hx rxv;obtain ⟨a,rfl,sq,hl⟩:=ht x hx;cases rxv;obtain ⟨jts,rj,tj,_⟩:=I.tuple sq;exact ⟨a,jts,rfl,tj,Ar rj,hl⟩
 have T:Ks s.heap k its:=fun v hv=>by
  obtain ⟨i,hi,e⟩:=List.getElem_of_mem hv;have hy:i<ys.length:=by omega
  obtain ⟨v',hv',ry⟩:=rv.get (i:=i) (x:=ys[i]) (by rw [List.getElem?_eq_getElem hy]);rw [List.getElem?_eq_getElem hi,e] at hv';cases hv';obtain ⟨a,jts,e1,e2,e3,e4⟩:=item _ _ (List.getElem_mem hy) ry;exact ⟨a,jts,_,e1,e2,e3,e4⟩
 refine Tim.Hj (κ:=tuples' true) (rk:=Tim.o_ (fun a b=>Tim.jy (keyOf s.heap a) (keyOf s.heap b)) its) pl.isList (by omega)
  (fun h2 h' kp=>⟨fun Q E hQ=>KN hk T h2 kp hQ,Oj T kp⟩) fun h' D c out kp hD hd hp hs=> ?_
 obtain ⟨zs,z1,z2⟩:=KC rv hp;have hzl:zs.length<=sizeLine:=by rw [z2.length_eq];omega
 refine ⟨.ref D,_,I.laid (t':=s.toks) kp hD (show cU X.prog X.w _ h' _ (.lst zs) from ⟨hzl,out,c,z1,hd⟩),rfl,q D zs (I.hok.fresh hD) z2 ?_⟩
 have hs':out.Pairwise (fun u v=>u∈its/\v∈its/\Tim.jy (keyOf s.heap v) (keyOf s.heap u)=false):=by
  refine List.Pairwise.imp_of_mem (fun {u v} hu hv huv=> ?_) hs;have mu:=hp.mem_iff.mp hu;have mv:=hp.mem_iff.mp hv;exact ⟨mu,mv,Tim.Td (Tim.Jx (keyOf s.heap)) mv huv⟩
 have zin:∀z∈zs,z∈ys:=fun z hz=>z2.mem_iff.mp hz
 have zp:zs.Pairwise (fun x y=>x∈zs/\y∈zs):=by
  rw [List.pairwise_iff_getElem];intro i j hi hj _;exact ⟨List.getElem_mem hi,List.getElem_mem hj⟩
 have:=Ab (S:=fun x y=>x∈ys->y∈ys->Tim.jy (f y) (f x)=false) (fun x y u v rx ry huv hx hy=>by
  obtain ⟨a,jts,rfl,e2,e3,e4⟩:=item x u hx rx;obtain ⟨b,kts,rfl,g2,g3,g4⟩:=item y v hy ry;have:=huv.2.2;rwa [qz e2 e3,qz g2 g3] at this) z1 hs'
 exact List.Pairwise.imp₂ (fun {x y} (h1:x∈ys->y∈ys->Tim.jy (f y) (f x)=false) (h2:x∈zs/\y∈zs)=>h1 (zin _ h2.1) (zin _ h2.2)) this zp
theorem lW {K:PySem.W.Frag} (hK:X.K=K):iZ X (.builtin "sorted") (Ht K):=by subst hK;exact Jb
end
end L2
set_option Elab.async false
set_option linter.all false
set_option maxRecDepth 100000
set_option maxHeartbeats 4000000
namespace L2
open PySem PySem.Spec PyProof.Rows
section
variable {X:Cx} {k:Nat} {C:Addr} {sp:Sp}
theorem wI {pins:List (Addr×Obj)} {σ:St} {H:Hp} {s:Shared} {Q:VK} {us:List Value} {vs:List V} {f:Addr} {fd:FuncData} {ps:List Str} (G:cj X.prog X.w X.K X.mg X.base gZ k f fd ps sp) (hr:dH (k+1) X.A) (hb:Binds X.K fd ps [])
 (I:Inv X pins σ H s) (r:Vals vs us) (q:sp vs H Q E0):wpAny (model X.prog X.w) X.A.in1 (call (.ref f) us) (EP X pins σ Q) X.xe s:=by
 have hlen:us.length=ps.length:=by rw [←r.length];exact G.len _ _ _ _ q
 have hbd:=hb s us I.rJ (by rw [List.append_nil];exact hlen);rw [List.append_nil] at hbd;refine wpAny_call (codeAny_mono (G.run X.A.in1 X.stack s H ⟨us,[]⟩ us vs Q E0 hr.in1 I.env0.in1 hbd r q) fun res s' hq=> ?_)
 match res,hq with
 | .error ev,hq=>exact False.elim hq
 | .ok (.ret u),hq=>exact I.after hq
def aac (C:Addr) (sp:Sp):List V->Hp->VK->Prop:=fun xs H Q=>∃(a dx:Addr) (fs:List (Str×V)),xs=[.ref a]/\H a=some (.ins C dx fs)/\sp [.ref a] H (fun v H'=>∃n:Int,v = .int n/\0<=n/\n<2 ^ 62/\Q (.int n) H') E0
theorem M4 (M:MethAt X.prog X.w X.K X.mg X.base k C "__len__" ["self"] sp) (hr:dH (k+1) X.A):iZ X (.builtin "len") (aac C sp):=by
 intro pins s σ H xs us Q I rv h;obtain ⟨f,fd,G,hm,hb⟩:=M;obtain ⟨a,dx,fs,rfl,ea,q⟩:=h;obtain ⟨u,rfl,ru⟩:=rv.one;obtain rfl:u=Value.ref a:=ru;obtain ⟨mm,Fm⟩:=I.fr;obtain ⟨mA,O,_⟩:=fO I.hok ea;obtain ⟨od,J,_⟩:=O.look;refine PySem.W.len_K Fm I.mod.Qw J hm.at_ hm.fn (dj (wI (us:=[.ref a]) (vs:=[.ref a]) G hr hb I (.cons rfl .nil) q) fun v s' hv=> ?_)
 obtain ⟨x,H',I',rx,n,rfl,n0,n1,q'⟩:=hv;obtain ⟨t,rfl⟩:=rx;exact ⟨⟨n0,by omega⟩,.int n,H',I'.tok _,⟨_,rfl⟩,q'⟩
def aeR (C:Addr) (sp:Sp):R2:=fun x y H Q=>∃(a b dx dy:Addr) (fs gs:List (Str×V)),x = .ref a/\y = .ref b/\H a=some (.ins C dx fs)/\H b=some (.ins C dy gs)/\sp [.ref a,.ref b] H (fun v H'=>∃t:Bool,v = .bl t/\Q (.bl t) H') E0
theorem BZ (M:MethAt X.prog X.w X.K X.mg X.base k C "__eq__" ["self","other"] sp) (hr:dH (k+1) X.A):oh X (compareOp .Eq) (aeR C sp):=by
 intro pins s σ H x y u v Q I rx ry h;obtain ⟨f,fd,G,hm,hb⟩:=M;obtain ⟨a,b,dx,dy,fs,gs,rfl,rfl,ea,eb,q⟩:=h;obtain rfl:u=Value.ref a:=rx;obtain rfl:v=Value.ref b:=ry;obtain ⟨mA,O,_⟩:=fO I.hok ea;obtain ⟨od,J,_⟩:=O.look;obtain ⟨mB,O2,_⟩:=fO I.hok eb;obtain ⟨od2,J2,_⟩:=O2.look;obtain ⟨mm,Fm⟩:=I.fr;refine PySem.W.cmp_ofEq (PySem.W.cmp_K hr.GQ Fm I.mod.Qw J J2.type (by simp [PySem.W.notFirst]) hm.at_ hm.fn (dj (xY (us:=[.ref a,.ref b]) (vs:=[.ref a,.ref b]) (sG:=[]) (ds:=[]) G (hr.mono (Nat.le_succ _)) hb .nil Ai I (.cons rfl (.cons rfl .nil)) q) fun v s' hv=> ?_));obtain ⟨x,H',I',rx,t,rfl,q'⟩:=hv;obtain rfl:v=Value.bool t:=rx;exact ⟨.bl t,H',I',rfl,q'⟩
end
structure Zx (K:PySem.W.Frag) (mg:Str->Option Value) (C:Addr) (nm:Str):Prop where
 bd:mg nm=some (.ref C)
 ha:PySem.W.findIn K (.ref C) "__class__" = some (some (.builtin "object.__class__"))
 hn:PySem.W.specialIn K (.builtin "object.__class__") "__get__" = some (some (.builtin "getset_descriptor.__get__"))
 ht:PySem.W.takesIn K (.builtin "object.__class__")=some true
 hm:PySem.W.mroIn K C (.type "object")=some true
theorem Zx.ty {K:PySem.W.Frag} {mg:Str->Option Value} {C:Addr} {nm:Str} (o:Zx K mg C nm) {H:Hp} {a dx:Addr} {fs:List (Str×V)} (e:H a=some (.ins C dx fs)) (c:Cls K C):oK K H (.ref a) (.ref C):= .ins e c o.ha o.hn o.ht o.hm
end L2
set_option Elab.async false
set_option linter.all false
set_option maxRecDepth 100000
set_option maxHeartbeats 4000000
namespace L2
open PySem PySem.Spec PyProof.Rows
section
variable {X:Cx} {k:Nat} {C:Addr} {sp:Sp}
theorem S_ {pins:List (Addr×Obj)} {σ:St} {H:Hp} {s:Shared} {Q:VK} {us:List Value} {vs:List V} {f:Addr} {fd:FuncData} {ps:List Str} (G:cj X.prog X.w X.K X.mg X.base gZ k f fd ps sp) (hr:dH (k+2) X.A) (hb:Binds X.K fd ps [])
 (I:Inv X pins σ H s) (r:Vals vs us) (q:sp vs H Q E0):wpAny (model X.prog X.w) X.A.in1.in1 (call (.ref f) us) (EP X pins σ Q) X.xe s:=by
 have hlen:us.length=ps.length:=by rw [←r.length];exact G.len _ _ _ _ q
 have hbd:=hb s us I.rJ (by rw [List.append_nil];exact hlen);rw [List.append_nil] at hbd;refine wpAny_call (codeAny_mono (G.run X.A.in1.in1 X.stack s H ⟨us,[]⟩ us vs Q E0 (dH.in1 (dH.in1 hr)) I.env0.in1.in1 hbd r q) fun res s' hq=> ?_)
 match res,hq with
 | .error ev,hq=>exact False.elim hq
 | .ok (.ret u),hq=>exact I.after hq
def Z6 (C:Addr) (sp:Sp):List V->Hp->VK->Prop:=fun xs H Q=>∃(a dx:Addr) (fs:List (Str×V)),xs=[.ref a]/\H a=some (.ins C dx fs)/\sp [.ref a] H (fun v H'=>∃t:Str,v = .str t/\Q (.str t) H') E0
theorem Ax (M:MethAt X.prog X.w X.K X.mg X.base k C "__str__" ["self"] sp) (hr:dH (k+2) X.A):iZ X (.type "str") (Z6 C sp):=by
 intro pins s σ H xs us Q I rv h;obtain ⟨f,fd,G,hm,hb⟩:=M;obtain ⟨a,dx,fs,rfl,ea,q⟩:=h;obtain ⟨u,rfl,ru⟩:=rv.one;obtain rfl:u=Value.ref a:=ru;obtain ⟨mA,O,_⟩:=fO I.hok ea;obtain ⟨od,J,_⟩:=O.look;refine PySem.W.kso_call (dH.GQ (dH.in1 (dH.in1 hr))) I.rJ J hm.at_ hm.fn (dj (S_ (us:=[.ref a]) (vs:=[.ref a]) G hr hb I (.cons rfl .nil) q) fun v s' hv=> ?_)
 obtain ⟨x,H',I',rx,t,rfl,q'⟩:=hv;obtain ⟨tk,rfl⟩:=rx;exact ⟨.str t,H',I',⟨_,rfl⟩,q'⟩
end
end L2
set_option Elab.async false
set_option linter.all false
set_option maxRecDepth 100000
set_option maxHeartbeats 4000000
namespace L2
open PySem PySem.Spec PyProof.Rows
structure NeO (K:PySem.W.Frag) (C:Addr):Prop where
 ne:PySem.W.findIn K (.ref C) "__ne__" = some (some (.builtin "object.__ne__"))
 ob:PySem.W.mroIn K C (.type "object")=some true
section
variable {prog:Program} {w:World} {A:Around} {E:Value->Shared->Prop} {s:Shared} {K:PySem.W.Frag} {x C f:Addr} {ox:Obj} {od:Option Obj} {b:Value}
theorem Qk {Q:PySem.Fin->Shared->Prop} (hu:A.units<cLine) (X:K.In s.heap) (I:PySem.W.InstAt s.heap x ox C od) (hs:PySem.W.findIn K (.ref C) "__eq__" = some (some (.ref f))) (hf:PySem.W.isFn K (.ref f)=true)
 (h:wpAny (model prog w) A (call (.ref f) [.ref x,b]) (fun v s'=>∃t,v = .bool t/\Q (.done (.ret (.bool (!t)))) s') E s):wpAny (model prog w) A (Builtin.«object.__ne__» ⟨[.ref x,b],[]⟩) Q E s:=by
 unfold Builtin.«object.__ne__»;refine wpAny_bind (m:=slotArgs "__ne__" 1 _) (wpAny_pure ?_);refine wpAny_bind (m:=cRoomFor _ _) (wpAny_cRoomFor hu ?_);refine wpAny_bind (m:=callSpecialIfBound? (.ref x) (Str.ofString "__eq__") [b]) (PySem.W.ifBound_K X I hs hf (wpAny_mono h (fun v s' hv=> ?_) fun _ _ e=>e));obtain ⟨t,rfl,q⟩:=hv;exact wpAny_bind (m:=truthy (.bool _)) (wpAny_truthy_bool (wpAny_pure q))
theorem Ul {Q:Value->Shared->Prop} {tb:Value} (hu:A.units+1<cLine) (X:K.In s.heap) (I:PySem.W.InstAt s.heap x ox C od) (hb:PySem.W.Looks (model prog w) s.heap (typeOf b) tb) (hn:PySem.W.notFirst K C tb=true) (N:NeO K C)
 (hs:PySem.W.findIn K (.ref C) "__eq__" = some (some (.ref f))) (hf:PySem.W.isFn K (.ref f)=true)
 (h:wpAny (model prog w) A.in1 (call (.ref f) [.ref x,b]) (fun v s'=>∃t,v = .bool t/\Q (.bool (!t)) s') E s):wpAny (model prog w) A (compareOp .NotEq (.ref x) b) Q E s:=by
 have hu0:A.units<cLine:=by omega
 have one:wpAny (model prog w) A (tryCompare (.ref x) "__ne__" b) (fun r s'=>∃v,r=some v/\Q v s') E s:=by
  unfold tryCompare;refine wpAny_bind ?_;simp only [callSpecialIfBound?,bindSpecialIfBound?];refine wpAny_holding (wpAny_bind (wpAny_bind (wpAny_bind (I.type.here ((PySem.W.looks_findIn X N.ne).here (wpAny_bind (wpAny_askSetting (wpAny_ite ?_))))))));have hbd:PySem.W.Looks (model prog w) s.heap (bindSpecial (.builtin "object.__ne__") (.ref x)) (.builtin "object.__ne__",[.ref x]):=PySem.W.Looks.of_pure (PySem.F.slot_object_ne.bind _)
  have fin:wpAny (model prog w) A (call (.builtin "object.__ne__") ([.ref x]++[b]) >>= fun v=>pure (some v)) (fun a s'=>wpAny (model prog w) A (match a with |some Value.notImplemented=>pure none|none=>pure none|some v=>pure (some v)) (fun r s'=>∃v,r=some v/\Q v s') E s') E s:=by
   refine wpAny_bind (wpAny_call (codeAny_call_builtin PySem.F.slot_object_ne.plain F.cmpEntry_ne (PySem.W.check_slot F.cmpKind_ne F.cmpSplit_ne (I.type.andThen (PySem.W.looks_mroIn X N.ob)) (F.cmpArgs_ne _ _) (Qk (A:=A.in1) hu X I hs hf (wpAny_mono h (fun v s' hv=> ?_) fun _ _ e=>e)))));obtain ⟨t,rfl,q⟩:=hv;refine ⟨t,rfl, ?_⟩;exact wpAny_pure (wpAny_pure ⟨_,rfl,q⟩)
  split
  ·exact wpAny_bind (hbd.here (wpAny_pure (by exact fin)))
  ·exact wpAny_tryCatch (wpAny_bind (hbd.here (wpAny_pure (by exact fin))))
 refine PySem.W.cmp_ofNotEq ?_;unfold richCompare;simp only [oneThing_ref];refine wpAny_holding (wpAny_bind (wpAny_cRoomFor hu0 (wpAny_bind (I.type.here (wpAny_bind (hb.here ?_))))));split
 ·rename_i ql
  have no:PySem.W.subIn K tb (.ref C)=some false:=by
   rcases Bool.or_eq_true_iff.mp hn with y|y
   ·rw [beq_iff_eq.mp y] at ql
    simp at ql
   ·exact beq_iff_eq.mp y
  refine wpAny_bind ((PySem.W.looks_subIn X no).here ?_);simp only [Bool.false_eq_true,if_false];refine wpAny_bind (wpAny_mono one (fun r t' y=> ?_) fun _ _ y=>y);obtain ⟨v,rfl,yq⟩:=y;exact wpAny_pure yq
 ·refine wpAny_bind (wpAny_pure ?_)
  simp only [Bool.false_eq_true,if_false];refine wpAny_bind (wpAny_mono one (fun r t' y=> ?_) fun _ _ y=>y);obtain ⟨v,rfl,yq⟩:=y;exact wpAny_pure yq
end
section
variable {X:Cx} {k:Nat} {C:Addr} {sp:Sp}
def aeO (C:Addr) (sp:Sp):R2:=fun x y H Q=>∃(a b dx dy:Addr) (fs gs:List (Str×V)),x = .ref a/\y = .ref b/\H a=some (.ins C dx fs)/\H b=some (.ins C dy gs)/\sp [.ref a,.ref b] H (fun v H'=>∃t:Bool,v = .bl t/\Q (.bl (!t)) H') E0
theorem Px (N:NeO X.K C) (M:MethAt X.prog X.w X.K X.mg X.base k C "__eq__" ["self","other"] sp) (hr:dH (k+1) X.A):oh X (compareOp .NotEq) (aeO C sp):=by
 intro pins s σ H x y u v Q I rx ry h;obtain ⟨f,fd,G,hm,hb⟩:=M;obtain ⟨a,b,dx,dy,fs,gs,rfl,rfl,ea,eb,q⟩:=h;obtain rfl:u=Value.ref a:=rx;obtain rfl:v=Value.ref b:=ry;obtain ⟨mA,O,_⟩:=fO I.hok ea;obtain ⟨od,J,_⟩:=O.look;obtain ⟨mB,O2,_⟩:=fO I.hok eb;obtain ⟨od2,J2,_⟩:=O2.look;obtain ⟨mm,Fm⟩:=I.fr;refine Ul (by have:=hr.units;omega) (I.mod.Qw.keeps Fm.keep) J J2.type (by simp [PySem.W.notFirst]) N hm.at_ hm.fn (dj (wI (us:=[.ref a,.ref b]) (vs:=[.ref a,.ref b]) G hr hb I (.cons rfl (.cons rfl .nil)) q) fun v s' hv=> ?_)
 obtain ⟨x,H',I',rx,t,rfl,q'⟩:=hv;obtain rfl:v=Value.bool t:=rx;exact ⟨t,rfl,.bl (!t),H',I',rfl,q'⟩
end
end L2
set_option Elab.async false
set_option linter.all false
set_option maxRecDepth 100000
set_option maxHeartbeats 4000000
namespace L2
open PySem PySem.Spec PyProof.Rows
section
variable {P:Program} {w:World} {K:PySem.W.Frag} {mg:Str->Option Value} {base:Heap}
theorem Vt.ok {x qual:Str} {st:Stmt} {ds:List Value} {f:Addr} {fd:FuncData} {N ps:List Str} {k:Nat} {sp:Sp} (F:Vt K x qual st ds f fd) (S:aY N ps (aC st)) (len:∀vs H Q E,sp vs H Q E->vs.length=ps.length)
 (hb:∀(cdv:Value) (A:Around) (outer:List Env) (s:Shared) (H:Hp) (vs:List V) (Q:VK) (E:XK),dH k (A.deeper (envOfC qual (aC st) s.heap.objs.size f cdv))->sp vs H Q E ->
   ∃t,Ku (IW gZ P w K mg base N qual (aC st) f cdv A outer s H E).Zn (aK st) t/\t {nx:=fun _ H'=>Q .non H',rt:=Q} (start N vs) H):cj P w K mg base gZ (k+1) f fd ps sp:=by
 obtain ⟨oc,od,T,kV,doc,pm,an,cdv,ct,osl,tc,td,tn,Zh,rfl,lk,hcd,_⟩:=F.ex;refine V_ lk hcd S len fun A outer s H vs Q E hr q=> ?_;obtain ⟨t,h1,h2⟩:=hb cdv A outer s H vs Q E hr q;exact ⟨t,h1.Zn,h2⟩
end
section
variable {X:Cx} {k:Nat} {x kn:Str} {ps:List Str} {sp:Sp} {sG:List V} {e ke:Expr} {es:List Expr} {te:TE} {t:TA} {p pos kpos:Pos} {E:St->XK}
end
end L2
set_option Elab.async false
set_option linter.all false
set_option maxRecDepth 100000
set_option maxHeartbeats 4000000
namespace L2
open PySem PySem.Spec PyProof.Rows
section
variable {X:Cx} {K:PySem.W.Frag}
end
end L2
set_option Elab.async false
set_option linter.all false
set_option maxRecDepth 100000
set_option maxHeartbeats 4000000
namespace L2
open PySem PySem.Spec PyProof.Rows
section
variable {X:Cx} {k:Nat} {C:Addr} {sp:Sp}
theorem Oe {pins:List (Addr×Obj)} {σ:St} {H:Hp} {s:Shared} {x:V} {u t:Value} (I:Inv X pins σ H s) (rx:RelV x u) (ty:oK X.K H x t):PySem.W.Looks (model X.prog X.w) s.heap (typeOf u) t:=by
 have ld:∀{a:Addr} {o:Obj} {T:String},s.heap.get? a=some o->o.cls = .type T->PySem.W.Looks (model X.prog X.w) s.heap (typeOf (.ref a)) (.type T):=fun e c=>c▸(PySem.W.Looks.ld e).andThen .now;cases ty with
 | non=>cases (show u=Value.none from rx);exact PySem.W.Looks.of_pure rfl
 | bl y=>cases (show u=Value.bool y from rx);exact PySem.W.Looks.of_pure rfl
 | int i=>obtain ⟨t,q⟩:=(show ∃t,u=Value.int i t from rx);cases q;exact PySem.W.Looks.of_pure rfl
 | str y=>obtain ⟨t,q⟩:=(show ∃t,u=Value.str y t from rx);cases q;exact PySem.W.Looks.of_pure rfl
 | flt y=>obtain ⟨t,q⟩:=(show ∃t,u=Value.float y t from rx);cases q;exact PySem.W.Looks.of_pure rfl
 | @lst a xs ea=>
   cases (show u=Value.ref a from rx);obtain ⟨_,_,n,_,h1⟩:=(show cU X.prog X.w H s.heap a (.lst xs) from I.hok a _ ea);exact ld h1 rfl
 | @oF a ob xs ea=>
   cases (show u=Value.ref a from rx);obtain ⟨_,_,_,n,_,h1⟩:=(show cU X.prog X.w H s.heap a (.oF ob (.lst xs)) from I.hok a _ ea);exact ld h1 rfl
 | @tup a xs ea=>
   cases (show u=Value.ref a from rx);obtain ⟨_,_,_,o,h1,h2,_⟩:=(show cU X.prog X.w H s.heap a (.tup xs) from I.hok a _ ea);exact ld h1 h2
 | @dK a kvs ea=>
   cases (show u=Value.ref a from rx);obtain ⟨_,_,vs,_,o,es,ep,h1,h2,_⟩:=(show cU X.prog X.w H s.heap a (.dK kvs) from I.hok a _ ea);exact ld h1 h2.1
 | @dT a kvs ea=>
   cases (show u=Value.ref a from rx);obtain ⟨_,_,xs,_,o,es,ep,h1,h2,_⟩:=(show cU X.prog X.w H s.heap a (.dT kvs) from I.hok a _ ea);exact ld h1 h2.1
 | @ins a C dx fs ea cl ha hn htk hm=>
   cases (show u=Value.ref a from rx);obtain ⟨mA,O,_⟩:=fO I.hok ea;obtain ⟨od,J,_⟩:=O.look;exact J.type
def aeS (K:PySem.W.Frag) (C:Addr) (sp:Sp):R2:=fun x y H Q=>∃(a dx:Addr) (fs:List (Str×V)) (tb:Value),x = .ref a/\H a=some (.ins C dx fs)/\oK K H y tb/\PySem.W.notFirst K C tb=true/\sp [.ref a,y] H (fun v H'=>∃t:Bool,v = .bl t/\Q (.bl t) H') E0
theorem uT {K:PySem.W.Frag} (hK:X.K=K) (M:MethAt X.prog X.w X.K X.mg X.base k C "__eq__" ["self","other"] sp) (hr:dH (k+1) X.A):oh X (compareOp .Eq) (aeS K C sp):=by
 subst hK;intro pins s σ H x y u v Q I rx ry h;obtain ⟨f,fd,G,hm,hb⟩:=M;obtain ⟨a,dx,fs,tb,rfl,ea,ty,nf,q⟩:=h;obtain rfl:u=Value.ref a:=rx;obtain ⟨mA,O,_⟩:=fO I.hok ea;obtain ⟨od,J,_⟩:=O.look;obtain ⟨mm,Fm⟩:=I.fr;refine PySem.W.cmp_ofEq (PySem.W.cmp_K hr.GQ Fm I.mod.Qw J (Oe I ry ty) nf hm.at_ hm.fn (dj (xY (us:=[.ref a,v]) (vs:=[.ref a,y]) (sG:=[]) (ds:=[]) G (hr.mono (Nat.le_succ _)) hb .nil Ai I (.cons rfl (.cons ry .nil)) q) fun v s' hv=> ?_));obtain ⟨x,H',I',rx,t,rfl,q'⟩:=hv;obtain rfl:v=Value.bool t:=rx;exact ⟨.bl t,H',I',rfl,q'⟩
theorem XM (K:PySem.W.Frag) (C:Addr):PySem.W.notFirst K C (.type "int")=true:=by unfold PySem.W.notFirst;rw [show PySem.W.subIn K (.type "int") (.ref C)=some false by kernel_rfl];simp
theorem XH (K:PySem.W.Frag) (C:Addr):PySem.W.notFirst K C (.type "NoneType")=true:=by unfold PySem.W.notFirst;rw [show PySem.W.subIn K (.type "NoneType") (.ref C)=some false by kernel_rfl];simp
theorem XJ (K:PySem.W.Frag) (C:Addr):PySem.W.notFirst K C (.type "list")=true:=by unfold PySem.W.notFirst;rw [show PySem.W.subIn K (.type "list") (.ref C)=some false by kernel_rfl];simp
theorem XD (K:PySem.W.Frag) (C:Addr):PySem.W.notFirst K C (.type "str")=true:=by unfold PySem.W.notFirst;rw [show PySem.W.subIn K (.type "str") (.ref C)=some false by kernel_rfl];simp
theorem XC (K:PySem.W.Frag) (C:Addr):PySem.W.notFirst K C (.type "tuple")=true:=by unfold PySem.W.notFirst;rw [show PySem.W.subIn K (.type "tuple") (.ref C)=some false by kernel_rfl];simp
theorem Uy {pins:List (Addr×Obj)} {σ:St} {H:Hp} {s:Shared} {Q:VK} {f:Addr} {fd:FuncData} {a dx:Addr} {fs:List (Str×V)} {n:Int} {tk:Tok} (G:cj X.prog X.w X.K X.mg X.base gZ k f fd ["self","other"] sp) (hm:Meth X.K C "__eq__" f) (hb:Binds X.K fd ["self","other"] []) (hr:dH (k+1) X.A)
 (hs:PySem.W.subIn X.K (.ref C) (.type "int")=some false) (I:Inv X pins σ H s) (ea:H a=some (.ins C dx fs)) (q:sp [.ref a,.int n] H Q E0) (isB:∀v H',Q v H' -> ∃t:Bool,v = .bl t):
 wpAny (model X.prog X.w) X.A.in1 (richCompare .Eq (.int n tk) (.ref a)) (fun v s'=>∃t:Bool,v = .bool t /\ ∃H',Inv X pins σ H' s'/\Q (.bl t) H') X.xe s:=by
 obtain ⟨mA,O,_⟩:=fO I.hok ea;obtain ⟨od,J,_⟩:=O.look;obtain ⟨mm,Fm⟩:=I.fr;have XK:=I.mod.Qw.keeps Fm.keep;have hu:X.A.in1.units<cLine:=by have:=hr.Oc;omega
 have one:wpAny (model X.prog X.w) X.A.in1 (tryCompare (.int n tk) (cmpInfo .Eq).2.1 (.ref a)) (fun r s'=>r=none/\s'=s) X.xe s:=by
  refine wpAny_tryCompare_declines (typeIs_int s n tk) PySem.F.slot_int_eq ?_;refine wpAny_call_entry PySem.F.slot_int_eq (typeIs_int s n tk) PySem.F.entry_int_eq ?_ (PySem.F.args_int_eq_2 _ _);show wpAny _ _ (slotArgs "__eq__" 1 ⟨[.int n tk,.ref a],[]⟩ >>= _) _ _ s;refine wpAny_bind (wpAny_pure ?_);refine wpAny_bind (m:=pure n) (wpAny_pure ?_);refine wpAny_bind (m:=asInt? (.ref a)) ?_;show wpAny _ _ (load a >>= _) _ _ s;refine wpAny_bind (wpAny_load O.obj (wpAny_pure ?_));exact wpAny_bind (wpAny_rule (wpAny_pure ⟨_,rfl,rfl,rfl,rfl⟩))
 have two:wpAny (model X.prog X.w) X.A.in1 (tryCompare (.ref a) (cmpInfo .Eq).2.2 (.int n tk)) (fun r s'=>∃t:Bool,r=some (.bool t) /\ ∃H',Inv X pins σ H' s'/\Q (.bl t) H') X.xe s:=by
  unfold tryCompare;refine wpAny_bind (PySem.W.ifBound_K XK J hm.at_ hm.fn (wpAny_mono (wI (us:=[.ref a,.int n tk]) (vs:=[.ref a,.int n]) G hr hb I (.cons rfl (.cons ⟨_,rfl⟩ .nil)) q) (fun v s' hv=> ?_) fun _ _ e=>e));obtain ⟨x,H',I',rx,q'⟩:=hv;obtain ⟨t,rfl⟩:=isB _ _ q';obtain rfl:v=Value.bool t:=rx;exact wpAny_pure ⟨t,rfl,H',I',q'⟩
 unfold richCompare;rw [show oneThing? .Eq (.int n tk) (.ref a)=none from rfl];refine wpAny_holding (wpAny_bind (wpAny_cRoomFor hu ?_));refine wpAny_bind (wpAny_typeOf (typeIs_int s n tk) (wpAny_bind (J.type.here ?_)));rw [if_pos (by rfl)];refine wpAny_bind ((PySem.W.looks_subIn XK hs).here ?_);simp only [Bool.false_eq_true,if_false];refine wpAny_bind (wpAny_mono one (fun r s' z=> ?_) fun _ _ e=>e);obtain ⟨rfl,rfl⟩:=z;simp only [Bool.not_false,if_true];refine wpAny_bind (wpAny_mono two (fun r s' z=> ?_) fun _ _ e=>e);obtain ⟨t,rfl,H',I',q'⟩:=z;exact wpAny_pure ⟨t,rfl,H',I',q'⟩
theorem TV {pins:List (Addr×Obj)} {σ:St} {H:Hp} {s:Shared} {Q:VK} {f:Addr} {fd:FuncData} {a b dx dy:Addr} {fs gs:List (Str×V)} (G:cj X.prog X.w X.K X.mg X.base gZ k f fd ["self","other"] sp) (hm:Meth X.K C "__eq__" f) (hb:Binds X.K fd ["self","other"] []) (hr:dH (k+1) X.A)
 (I:Inv X pins σ H s) (ea:H a=some (.ins C dx fs)) (eb:H b=some (.ins C dy gs)) (q:sp [.ref b,.ref a] H Q E0) (isB:∀v H',Q v H' -> ∃t:Bool,v = .bl t):
 wpAny (model X.prog X.w) X.A.in1 (richCompare .Eq (.ref b) (.ref a)) (fun v s'=>∃t:Bool,v = .bool t /\ ∃H',Inv X pins σ H' s'/\Q (.bl t) H') X.xe s:=by
 obtain ⟨mA,O,_⟩:=fO I.hok ea;obtain ⟨od,J,_⟩:=O.look;obtain ⟨mB,O2,_⟩:=fO I.hok eb;obtain ⟨od2,J2,_⟩:=O2.look;obtain ⟨mm,Fm⟩:=I.fr;have hu:X.A.in1.units<cLine:=by have:=hr.Oc;omega
 refine PySem.W.cmp_K hu Fm I.mod.Qw J2 J.type (by simp [PySem.W.notFirst]) hm.at_ hm.fn (wpAny_mono (wI (us:=[.ref b,.ref a]) (vs:=[.ref b,.ref a]) G hr hb I (.cons rfl (.cons rfl .nil)) q) (fun v s' hv=> ?_) fun _ _ e=>e)
 obtain ⟨x,H',I',rx,q'⟩:=hv;obtain ⟨t,rfl⟩:=isB _ _ q';obtain rfl:v=Value.bool t:=rx;exact ⟨t,rfl,H',I',q'⟩
def Wm (K:PySem.W.Frag) (C:Addr) (sp:Sp) (l a:Addr) (vs:List V):List V->Hp->VK->Prop
 | [],H,Q=>Q (.bl false) H
 | v::r,H,Q=>(v = .ref a/\Q (.bl true) H) \/
   (∃n:Int,v = .int n/\sp [.ref a,.int n] H (fun t H'=>∃b:Bool,t = .bl b/\(b=true->Q (.bl true) H')/\(b=false->aV K H' l vs/\(∃dx fs,H' a=some (.ins C dx fs))/\Wm K C sp l a vs r H' Q)) E0) \/
   (∃(b dy:Addr) (gs:List (Str×V)),v = .ref b/\b≠a/\H b=some (.ins C dy gs)/\sp [.ref b,.ref a] H (fun t H'=>∃b:Bool,t = .bl b/\(b=true->Q (.bl true) H')/\(b=false->aV K H' l vs/\(∃dx fs,H' a=some (.ins C dx fs))/\Wm K C sp l a vs r H' Q)) E0)
theorem Qz {pins:List (Addr×Obj)} {σ:St} {Q:VK} {f:Addr} {fd:FuncData} {a l:Addr} {vs:List V} (G:cj X.prog X.w X.K X.mg X.base gZ k f fd ["self","other"] sp) (hm:Meth X.K C "__eq__" f) (hb:Binds X.K fd ["self","other"] []) (hr:dH (k+1) X.A) (hs:PySem.W.subIn X.K (.ref C) (.type "int")=some false):
 ∀(r:List V) (i:Nat) (s:Shared) (H:Hp),vs.drop i=r->Inv X pins σ H s->aV X.K H l vs->(∃dx fs,H a=some (.ins C dx fs))->Wm X.K C sp l a vs r H Q ->
  wpAny (model X.prog X.w) X.A.in1 (Builtin.«list.__contains__.loop» ⟨[.ref l,.ref a,rawInt i],[]⟩) (fun fin s'=>match fin with
   | .done fl=>(match (Except.ok fl:Result) with | .ok (.ret v)=>∃t H',v = .bool t/\Inv X pins σ H' s'/\Q (.bl t) H' | .ok _=>False | .error e=>X.xe e s')
   | .again c'=>c'.quiet=true/\codeAny (model X.prog X.w) X.A c' (fun res s'=>match res with | .ok (.ret v)=>∃t H',v = .bool t/\Inv X pins σ H' s'/\Q (.bl t) H' | .ok _=>False | .error e=>X.xe e s') s') X.xe s:=by
 intro r
 induction r with
 | nil=>
   intro i s H ed I hq ha q;obtain ⟨its,rv,⟨o,n,e,_,_,d⟩,hz⟩:=I.list hq;have hl:vs.length<=i:=List.drop_eq_nil_iff.mp ed;refine (show wpAny _ _ (Builtin.List.listItems (.ref l) >>= _) _ _ s from wpAny_bind (wpAny_listItems e d ?_))
   have hi:its.toArray[((i:Nat):Int).toNat]? = none:=by
    have:=rv.length;simp;omega
   rw [hi];exact wpAny_pure ⟨false,H,rfl,I,q⟩
 | cons v r ih=>
   intro i s H ed I hq ⟨dx,fs,ea⟩ q;obtain ⟨its,rv,⟨o,n,e,_,_,d⟩,hz⟩:=I.list hq
   have hv:vs[i]? = some v:=by
    have:(vs.drop i)[0]? = some v:=by rw [ed];rfl
    simpa using this
   have ed':vs.drop (i+1)=r:=by
    have:=congrArg (List.drop 1) ed;rw [List.drop_drop] at this;simpa using this
   obtain ⟨y,hy,ry⟩:=rv.get hv;refine (show wpAny _ _ (Builtin.List.listItems (.ref l) >>= _) _ _ s from wpAny_bind (wpAny_listItems e d ?_))
   have hi:its.toArray[((i:Nat):Int).toNat]? = some y:=by
    rw [Int.toNat_natCast,List.getElem?_toArray];exact hy
   rw [hi];have hc:((i:Int)+1)=((i+1:Nat):Int):=by push_cast;rfl
   have fin:∀{b:Bool} {H':Hp} {s':Shared},Inv X pins σ H' s'->(b=true->Q (.bl true) H')->(b=false->aV X.K H' l vs/\(∃dx fs,H' a=some (.ins C dx fs))/\Wm X.K C sp l a vs r H' Q) ->
    wpAny (model X.prog X.w) X.A.in1 (if b=true then ret (.bool true) else again (.builtin "list.__contains__.loop" ⟨[.ref l,.ref a,rawInt ((i:Int)+1)],[]⟩)) (fun fin s'=>match fin with
    | .done fl=>(match (Except.ok fl:Result) with | .ok (.ret v)=>∃t H',v = .bool t/\Inv X pins σ H' s'/\Q (.bl t) H' | .ok _=>False | .error e=>X.xe e s')
    | .again c'=>c'.quiet=true/\codeAny (model X.prog X.w) X.A c' (fun res s'=>match res with | .ok (.ret v)=>∃t H',v = .bool t/\Inv X pins σ H' s'/\Q (.bl t) H' | .ok _=>False | .error e=>X.xe e s') s') X.xe s':=fun {b H' s'} I' h1 h2=>by
    cases b with
    | true=>exact wpAny_pure ⟨true,H',rfl,I',h1 rfl⟩
    | false=>
      obtain ⟨g1,g2,g3⟩:=h2 rfl;rw [hc];refine wpAny_pure ⟨plainId_quiet PySem.MeetsSeq.plain_contains_loop _,codeAny_builtin PySem.MeetsSeq.entry_contains_loop ?_⟩;rw [Around.under_plainId PySem.MeetsSeq.plain_contains_loop _];exact ih (i+1) s' H' ed' I' g1 g2 g3
   rcases q with ⟨rfl,q⟩|⟨n,rfl,q⟩|⟨b,dy,gs,rfl,ne,eb,q⟩
   ·obtain rfl:y=Value.ref a:=ry
    refine wpAny_bind (SeqAt.EqAt.same (.ref a) X.prog X.w _ _ ?_);exact fin (b:=true) I (fun _=>q) (fun z=>by cases z)
   ·obtain ⟨tk,rfl⟩:∃t,y=Value.int n t:=ry
    refine wpAny_bind ?_;unfold eqBool;refine wpAny_holding (wpAny_ite_split (fun z=>absurd (eq_of_beq z) nofun) fun _=> ?_);refine wpAny_bind (wpAny_mono (Uy (Q:=fun v H'=>∃b:Bool,v = .bl b/\(b=true->Q (.bl true) H')/\(b=false->aV X.K H' l vs/\(∃dx fs,H' a=some (.ins C dx fs))/\Wm X.K C sp l a vs r H' Q)) G hm hb hr hs I ea q (fun v H' ⟨b,e,_⟩=>⟨b,e⟩)) (fun w' s' hw=> ?_) fun _ _ z=>z)
    ·obtain ⟨t,rfl,H',I',b,eb,h1,h2⟩:=hw
     cases eb;exact wpAny_truthy_bool (fin I' h1 h2)
   ·obtain rfl:y=Value.ref b:=ry
    refine wpAny_bind ?_;unfold eqBool;refine wpAny_holding (wpAny_ite_split (fun z=>absurd (by have:=eq_of_beq z;injection this) ne) fun _=> ?_);refine wpAny_bind (wpAny_mono (TV (Q:=fun v H'=>∃b:Bool,v = .bl b/\(b=true->Q (.bl true) H')/\(b=false->aV X.K H' l vs/\(∃dx fs,H' a=some (.ins C dx fs))/\Wm X.K C sp l a vs r H' Q)) G hm hb hr I ea eb q (fun v H' ⟨b,e,_⟩=>⟨b,e⟩)) (fun w' s' hw=> ?_) fun _ _ z=>z)
    ·obtain ⟨t,rfl,H',I',b,eb,h1,h2⟩:=hw
     cases eb;exact wpAny_truthy_bool (fin I' h1 h2)
def aeQ (K:PySem.W.Frag) (C:Addr) (sp:Sp):R2:=fun x y H Q=>∃(a l dx:Addr) (fs:List (Str×V)) (vs:List V),x = .ref a/\y = .ref l/\H a=some (.ins C dx fs)/\aV K H l vs/\Wm K C sp l a vs vs H Q
theorem Xl {K:PySem.W.Frag} (hK:X.K=K) (M:MethAt X.prog X.w X.K X.mg X.base k C "__eq__" ["self","other"] sp) (hs:PySem.W.subIn K (.ref C) (.type "int")=some false) (hr:dH (k+1) X.A):oh X (compareOp .In) (aeQ K C sp):=by
 subst hK;intro pins s σ H x y u v Q I rx ry h;obtain ⟨f,fd,G,hm,hb⟩:=M;obtain ⟨a,l,dx,fs,vs,rfl,rfl,ea,hq,q⟩:=h;obtain rfl:u=Value.ref a:=rx;obtain rfl:v=Value.ref l:=ry;obtain ⟨its,rv,pl,hz⟩:=I.list hq
 have hT:s.TypeIs (.ref l) "list" :=by
  obtain ⟨o,n,e,c,_⟩:=pl;exact ⟨o,e,c⟩
 show wpAny _ X.A (do return Value.bool (←contains (Value.ref l) (Value.ref a))) _ _ s;refine wpAny_bind (wpAny_contains_slot hT PySem.F.slot_list_contains (wpAny_call (codeAny_call_builtin PySem.F.slot_list_contains.plain PySem.F.entry_list_contains (PySem.F.slot_list_contains.check _ _ _ _ _ _ _ _ hT (PySem.F.args_list_contains_2 _ _) ?_))));show wpAny _ _ (slotArgs "__contains__" 1 ⟨[.ref l,.ref a],[]⟩ >>= _) _ _ s;refine wpAny_bind (wpAny_pure ?_);refine wpAny_pure ⟨plainId_quiet PySem.MeetsSeq.plain_contains_loop _,codeAny_builtin PySem.MeetsSeq.entry_contains_loop ?_⟩;rw [Around.under_plainId PySem.MeetsSeq.plain_contains_loop _];refine wpAny_mono (Qz (pins:=pins) (σ:=σ) (Q:=Q) G hm hb hr hs vs 0 s H rfl I hq ⟨_,_,ea⟩ q) (fun fin s' hf=> ?_) fun _ _ z=>z;cases fin with
 | done fl=>
   cases fl with
   | ret w'=>
     obtain ⟨t,H',rfl,I',q'⟩:=hf;exact wpAny_truthy_bool (wpAny_pure ⟨.bl t,H',I',rfl,q'⟩)
   | next=>exact False.elim hf
   | brk=>exact False.elim hf
   | cont=>exact False.elim hf
 | again c'=>
   refine ⟨hf.1,codeAny_mono hf.2 fun res s2 hz=> ?_⟩
   match res,hz with
   | .error ev,hz=>exact hz
   | .ok (.ret w'),hz=>
     obtain ⟨t,H',rfl,I',q'⟩:=hz;exact wpAny_truthy_bool (wpAny_pure ⟨.bl t,H',I',rfl,q'⟩)
end
end L2
set_option Elab.async false
set_option linter.all false
set_option maxRecDepth 100000
set_option maxHeartbeats 4000000
namespace Prf
open PySem L2
def top (i:Nat):Stmt:=PySem.Challenge.pw_fewnotes_k47_recorders_and_twins.main.body.getD i (.Pass ⟨0,0,0,0⟩)
abbrev fJ:Stmt:=top 7
abbrev fL:Stmt:=top 8
abbrev gG:Stmt:=top 12
abbrev eU:Stmt:=inClass (top 16) 0
abbrev cR:Stmt:=inClass (top 16) 3
abbrev gH:Stmt:=inClass (top 16) 4
abbrev cF:Stmt:=inClass (top 17) 0
abbrev cD:Stmt:=top 18
abbrev cP:Stmt:=top 20
abbrev gF:Stmt:=top 21
abbrev fH:Stmt:=top 23
abbrev dR:Stmt:=top 24
abbrev fK:Stmt:=top 25
abbrev jY:Stmt:=top 26
abbrev dB:Stmt:=top 28
abbrev eO:Stmt:=top 29
abbrev dN:Stmt:=top 30
abbrev cH:Stmt:=inClass (top 32) 0
abbrev cQ:Stmt:=inClass (top 32) 1
abbrev bZ:Stmt:=inClass (top 32) 2
abbrev bT:Stmt:=inClass (top 32) 3
abbrev b_:Stmt:=inClass (top 32) 4
abbrev cG:Stmt:=inClass (top 32) 5
abbrev bU:Stmt:=inClass (top 32) 6
abbrev bQ:Stmt:=inClass (top 32) 7
abbrev bO:Stmt:=inClass (top 32) 8
abbrev dO:Stmt:=top 33
abbrev nQ:Stmt:=top 35
abbrev j5:Stmt:=top 36
abbrev j8:Stmt:=top 37
abbrev iG:Stmt:=top 38
abbrev iB:Stmt:=top 39
abbrev fM:Stmt:=top 40
abbrev iC:Stmt:=top 41
abbrev gP:Stmt:=top 42
abbrev j7:Stmt:=top 43
abbrev j4:Stmt:=top 44
abbrev tu:Stmt:=top 45
abbrev iD:Stmt:=top 46
abbrev iH:Stmt:=top 47
abbrev iI:Stmt:=top 48
abbrev iz:Stmt:=top 49
abbrev jZ:Stmt:=top 50
abbrev j6:Stmt:=top 51
abbrev sZ:Stmt:=top 52
structure oO (mg:Str->Option Value):Prop where
 Vm:mg "ValueError" = none
 Wh:mg "all" = none
 Ru:mg "bool" = none
 Wg:mg "enumerate" = none
 Wf:mg "int" = none
 cT:mg "isinstance" = none
 dW:mg "len" = none
 iT:mg "list" = none
 Wd:mg "max" = none
 ami:mg "min" = none
 fP:mg "range" = none
 uf:mg "sorted" = none
 qT:mg "str" = none
 amh:mg "sum" = none
 C_:mg "tuple" = none
 abT:mg "zip" = none
theorem DP:aY ["value"] ["value"] (aC fJ):=⟨rfl,rfl,rfl,by decide +kernel,rfl,by decide +kernel,by decide +kernel⟩
theorem DR:aY ["value","count"] ["value","count"] (aC fL):=⟨rfl,rfl,rfl,by decide +kernel,rfl,by decide +kernel,by decide +kernel⟩
theorem Hq:aY ["row"] ["row"] (aC gG):=⟨rfl,rfl,rfl,by decide +kernel,rfl,by decide +kernel,by decide +kernel⟩
theorem BR:aY ["self","rows"] ["self","rows"] (aC eU):=⟨rfl,rfl,rfl,by decide +kernel,rfl,by decide +kernel,by decide +kernel⟩
theorem jM:aY ["self","done"] ["self"] (aC cR):=⟨rfl,rfl,rfl,by decide +kernel,rfl,by decide +kernel,by decide +kernel⟩
theorem Hr:aY ["self","row"] ["self","row"] (aC gH):=⟨rfl,rfl,rfl,by decide +kernel,rfl,by decide +kernel,by decide +kernel⟩
theorem lZ:aY ["self","program","cells","one"] ["self","program","cells"] (aC cF):=⟨rfl,rfl,rfl,by decide +kernel,rfl,by decide +kernel,by decide +kernel⟩
theorem uO:aY ["cells","count"] ["cells","count"] (aC cD):=⟨rfl,rfl,rfl,by decide +kernel,rfl,by decide +kernel,by decide +kernel⟩
theorem vQ:aY ["one","other"] ["one","other"] (aC cP):=⟨rfl,rfl,rfl,by decide +kernel,rfl,by decide +kernel,by decide +kernel⟩
theorem Ho:aY ["web","place","later"] ["web","place","later"] (aC gF):=⟨rfl,rfl,rfl,by decide +kernel,rfl,by decide +kernel,by decide +kernel⟩
theorem DK:aY ["named","bare","name"] ["named","bare","name"] (aC fH):=⟨rfl,rfl,rfl,by decide +kernel,rfl,by decide +kernel,by decide +kernel⟩
theorem jt:aY ["web","named","knowns","place","bare","known","earlier"] ["web","named","knowns","place"] (aC dR):=⟨rfl,rfl,rfl,by decide +kernel,rfl,by decide +kernel,by decide +kernel⟩
theorem DQ:aY ["name","known"] ["name","known"] (aC fK):=⟨rfl,rfl,rfl,by decide +kernel,rfl,by decide +kernel,by decide +kernel⟩
theorem DN:aY ["known","more","hand"] ["known","more"] (aC jY):=⟨rfl,rfl,rfl,by decide +kernel,rfl,by decide +kernel,by decide +kernel⟩
theorem o7:aY ["record","lines"] ["record"] (aC dB):=⟨rfl,rfl,rfl,by decide +kernel,rfl,by decide +kernel,by decide +kernel⟩
theorem BP:aY ["note"] ["note"] (aC eO):=⟨rfl,rfl,rfl,by decide +kernel,rfl,by decide +kernel,by decide +kernel⟩
theorem zQ:aY ["touch"] ["touch"] (aC dN):=⟨rfl,rfl,rfl,by decide +kernel,rfl,by decide +kernel,by decide +kernel⟩
theorem uP:aY ["self","hands"] ["self","hands"] (aC cH):=⟨rfl,rfl,rfl,by decide +kernel,rfl,by decide +kernel,by decide +kernel⟩
theorem fQ:aY ["self","hand","kind","cell","place","name","found","brought"] ["self","hand","kind","cell"] (aC cQ):=⟨rfl,rfl,rfl,by decide +kernel,rfl,by decide +kernel,by decide +kernel⟩
theorem sX:aY ["self"] ["self"] (aC bZ):=⟨rfl,rfl,rfl,by decide +kernel,rfl,by decide +kernel,by decide +kernel⟩
theorem rm:aY ["self"] ["self"] (aC bT):=⟨rfl,rfl,rfl,by decide +kernel,rfl,by decide +kernel,by decide +kernel⟩
theorem lN:aY ["self","hand","known"] ["self","hand"] (aC b_):=⟨rfl,rfl,rfl,by decide +kernel,rfl,by decide +kernel,by decide +kernel⟩
theorem mL:aY ["self","other"] ["self"] (aC cG):=⟨rfl,rfl,rfl,by decide +kernel,rfl,by decide +kernel,by decide +kernel⟩
theorem rA:aY ["self","other"] ["self","other"] (aC bU):=⟨rfl,rfl,rfl,by decide +kernel,rfl,by decide +kernel,by decide +kernel⟩
theorem qI:aY ["self"] ["self"] (aC bQ):=⟨rfl,rfl,rfl,by decide +kernel,rfl,by decide +kernel,by decide +kernel⟩
theorem qH:aY ["self"] ["self"] (aC bO):=⟨rfl,rfl,rfl,by decide +kernel,rfl,by decide +kernel,by decide +kernel⟩
theorem zR:aY ["places","hand"] ["places","hand"] (aC dO):=⟨rfl,rfl,rfl,by decide +kernel,rfl,by decide +kernel,by decide +kernel⟩
theorem wH:aY ["script","total","cell"] ["script"] (aC nQ):=⟨rfl,rfl,rfl,by decide +kernel,rfl,by decide +kernel,by decide +kernel⟩
theorem xV:aY ["number","place","one","two"] ["number","place"] (aC j5):=⟨rfl,rfl,rfl,by decide +kernel,rfl,by decide +kernel,by decide +kernel⟩
theorem xX:aY ["bag","many","cell","found"] ["bag","many"] (aC j8):=⟨rfl,rfl,rfl,by decide +kernel,rfl,by decide +kernel,by decide +kernel⟩
theorem K1:aY ["bag"] ["bag"] (aC iG):=⟨rfl,rfl,rfl,by decide +kernel,rfl,by decide +kernel,by decide +kernel⟩
theorem qt:aY ["bag","hands","cells","loads","apart","kinds","hand","kind"] ["bag","hands","cells","loads","apart"] (aC iB):=⟨rfl,rfl,rfl,by decide +kernel,rfl,by decide +kernel,by decide +kernel⟩
theorem gY:aY ["bag","hands","size","cells","loads","apart","many"] ["bag","hands"] (aC fM):=⟨rfl,rfl,rfl,by decide +kernel,rfl,by decide +kernel,by decide +kernel⟩
theorem cV:aY ["touches","hands","rows","called","brought","many","hand","kind","cell","got","fresh","i","other","sort","there","meets"] ["touches","hands"] (aC iC):=⟨rfl,rfl,rfl,by decide +kernel,rfl,by decide +kernel,by decide +kernel⟩
theorem Af:aY ["found","due"] ["found","due"] (aC gP):=⟨rfl,rfl,rfl,by decide +kernel,rfl,by decide +kernel,by decide +kernel⟩
theorem xW:aY ["lists","found","row"] ["lists"] (aC j7):=⟨rfl,rfl,rfl,by decide +kernel,rfl,by decide +kernel,by decide +kernel⟩
theorem gO:aY ["ties","counts","found","count","hand","k","other","m"] ["ties","counts"] (aC j4):=⟨rfl,rfl,rfl,by decide +kernel,rfl,by decide +kernel,by decide +kernel⟩
theorem o9:aY ["recorder","touches","hands","table","ties","counts","hand","places","due"] ["recorder","touches","hands"] (aC tu):=⟨rfl,rfl,rfl,by decide +kernel,rfl,by decide +kernel,by decide +kernel⟩
theorem Ae:aY ["touches","hands","counts"] ["touches","hands"] (aC iD):=⟨rfl,rfl,rfl,by decide +kernel,rfl,by decide +kernel,by decide +kernel⟩
theorem jf:aY ["some","lists","hands","one","shape","alike","other","others","due"] ["some","lists","hands"] (aC iH):=⟨rfl,rfl,rfl,by decide +kernel,rfl,by decide +kernel,by decide +kernel⟩
theorem mO:aY ["hands","touches","recorder","hand","kind","cell"] ["hands","touches"] (aC iI):=⟨rfl,rfl,rfl,by decide +kernel,rfl,by decide +kernel,by decide +kernel⟩
theorem qp:aY ["some","touches","hands","other","wider","one"] ["some","touches","hands"] (aC iz):=⟨rfl,rfl,rfl,by decide +kernel,rfl,by decide +kernel,by decide +kernel⟩
theorem xU:aY ["bag","some","lists","at","fresh"] ["bag","some","lists"] (aC jZ):=⟨rfl,rfl,rfl,by decide +kernel,rfl,by decide +kernel,by decide +kernel⟩
theorem sY:aY ["bag","some","lists","hands","told","at","found","due"] ["bag","some","lists","hands","told"] (aC j6):=⟨rfl,rfl,rfl,by decide +kernel,rfl,by decide +kernel,by decide +kernel⟩
theorem jL:aY ["script","bag","hands","touches","some","lists","at","told","turn"] ["script"] (aC sZ):=⟨rfl,rfl,rfl,by decide +kernel,rfl,by decide +kernel,by decide +kernel⟩
structure bN (K:PySem.W.Frag) (C:Addr):Prop where
 cls:Cls K C
 Al:fD K C "web"
 qy:fD K C "named"
 mR:fD K C "knowns"
 qx:fD K C "taken"
 fU:fD K C "places"
structure wW (K:PySem.W.Frag) (C:Addr):Prop where
 cls:Cls K C
 Ig:fD K C "rows"
 XR:fD K C "at"
 Ih:fD K C "in_boxes"
 Ly:fD K C "sayings"
 JR:fD K C "state"
structure zL (K:PySem.W.Frag) (C:Addr):Prop where
 cls:Cls K C
 Am:fD K C "program"
 Lz:fD K C "numbers"
 JT:fD K C "hands"
 Um:fD K C "turns"
section
variable {P:Program} {w:World} {K:PySem.W.Frag} {mg:Str->Option Value} {base:Heap}
def dY (H:Hp) (r b:Addr) (n:Nat):Prop:=∃(ns:List Int) (i f c t:Int),H r=some (.lst [.ref b,.int i,.int f,.int c,.int t])/\H b=some (.lst (ns.map V.int))/\b≠r/\0<=i/\i<=ns.length/\0<=f/\0<=c/\c<=n
theorem dY.keep {H H':Hp} {r b:Addr} {n:Nat} (h:dY H r b n) (k:Same H H'):dY H' r b n:=by
 obtain ⟨ns,i,f,c,t,e1,e2,q⟩:=h;exact ⟨ns,i,f,c,t,k _ _ e1,k _ _ e2,q⟩
theorem dY.kp {H H':Hp} {r b p:Addr} {n:Nat} (h:dY H r b n) (k:Kp p H H') (n1:r≠p) (n2:b≠p):dY H' r b n:=by
 obtain ⟨ns,i,f,c,t,e1,e2,q⟩:=h;exact ⟨ns,i,f,c,t,k _ _ e1 n1,k _ _ e2 n2,q⟩
theorem dY.mono {H:Hp} {r b:Addr} {n m:Nat} (h:dY H r b n) (k:n<=m):dY H r b m:=by
 obtain ⟨ns,i,f,c,t,e1,e2,q0,q1,q2,q3,q4,q5⟩:=h;exact ⟨ns,i,f,c,t,e1,e2,q0,q1,q2,q3,q4,by (clear q4 q3 q2 q1 q0 e2 e1;omega)⟩
theorem dY.lst {H:Hp} {r b:Addr} {n:Nat} (h:dY H r b n):∃ys,H r=some (.lst ys):=by
 obtain ⟨ns,i,f,c,t,e1,_⟩:=h;exact ⟨_,e1⟩
theorem dY.ne {H:Hp} {r b p:Addr} {n:Nat} (h:dY H r b n) (hp:H p=none):p≠r/\p≠b:=by
 obtain ⟨ns,i,f,c,t,e1,e2,_⟩:=h;exact ⟨(aB e1 hp).symm,(aB e2 hp).symm⟩
theorem Kp.new {H H':Hp} {r p:Addr} (k:Kp r H H') (hp:H' p=none) (hr:∃o,H' r=some o):H p=none:=by
 cases e:H p with
 | none=>rfl
 | some o=>
   by_cases n:p=r
   ·subst n
    obtain ⟨o',ho⟩:=hr;rw [hp] at ho;cases ho
   ·rw [k _ _ e n] at hp
    cases hp
theorem dY.at {H:Hp} {r b:Addr} {n:Nat} (h:dY H r b n):∃o,H r=some o:=by
 obtain ⟨ns,i,f,c,t,e1,_⟩:=h;exact ⟨_,e1⟩
theorem dY.tups {H H':Hp} {r b:Addr} {n:Nat} (h:dY H r b n) (k:Kp r H H'):∀a xs,H a=some (HO.tup xs)->H' a=some (HO.tup xs):=by
 obtain ⟨ys,e⟩:=h.lst;exact k.tups e
def G6 (K:PySem.W.Frag):Sp:=fun vs H Q _=>∃(x p:Int),vs=[.int x,.int p]/\0<=p/\p<2 ^ 62 /\ ∀z:Int,0<=z->Q (.int z) H
theorem T8 {f:Addr} {fd:FuncData} (F:jW K "_law_stir" "_law_stir" j5 f fd):cj P w K mg base gZ 1 f fd ["number","place"] (G6 K):=by
 refine F.ok xV (fun vs H Q E h=> ?_) (fun cdv A outer s H vs Q E hr h=> ?_)
 ·obtain ⟨x,p,rfl,_⟩:=h
  rfl
 ·obtain ⟨x,p,rfl,p0,p1,k⟩:=h
  refine ⟨_,(aD (bw (i:=2) xV.nd rfl (Or.inl rfl) (bC lq (bC gb (bC gb (bC pG (pv 0) aG) (bC pG (pv 1) aG)) aG) aG))
   (aD (bw (i:=3) xV.nd rfl (Or.inl rfl) (bC lq (bC pG (pv 2) (pv 2)) aG))
   (aH (bf (bC tR (bC lq (bC gb (bC gb (bC pG (pv 3) aG) (bC pG (bC pG (pv 1) (pv 1)) aG)) (bC tR (pv 2) aG)) aG) aG))))), ?_⟩
  refine ⟨_,rfl,_,_,rfl,rfl,.inr ⟨by decide,by decide⟩,_,rfl,_,_,rfl,rfl,.inr ⟨by decide,by decide⟩,_,_,rfl,rfl,_,_,rfl,rfl,_,_,rfl,rfl,(by show (0:Int)<2305843009213693951;decide), ?_⟩;have o0:(0:Int)<=(x*998244353+p*1000000007+5) % 2305843009213693951:=Int.emod_nonneg _ (by decide);have o1:(x*998244353+p*1000000007+5) % 2305843009213693951<2305843009213693951:=Int.emod_lt_of_pos _ (by decide);generalize (x*998244353+p*1000000007+5) % 2305843009213693951=one at o0 o1;refine ⟨_,rfl,_,rfl,_,_,rfl,rfl,.inl ⟨by (clear o1 o0 p1 p0;omega),by (clear o1 o0 p1 p0;omega)⟩,_,_,rfl,rfl,(by show (0:Int)<2305843009213693951;decide), ?_⟩;refine ⟨_,rfl,_,_,rfl,rfl,.inr ⟨by decide,by decide⟩,_,rfl,_,rfl,_,_,rfl,rfl,.inl ⟨by (clear o1 o0 p1;omega),by (clear o1 o0 p0;omega)⟩,_,_,rfl,rfl,.inr ⟨by decide,by decide⟩,_,_,rfl,rfl,_,rfl,_,_,rfl,rfl,(by show Nm _ 3;exact ⟨by decide,by decide⟩),_,_,rfl,rfl,_,_,rfl,rfl,(by show (0:Int)<2305843009213693921;decide),_,_,rfl,rfl,(by show Nm _ 1024;exact ⟨by decide,by decide⟩), ?_⟩;exact k _ (Int.ediv_nonneg (Int.emod_nonneg _ (by decide)) (by decide))
def oY (K:PySem.W.Frag):Sp:=fun vs H Q _=>∃(r b:Addr) (m:Int) (n:Nat),vs=[.ref r,.int m]/\dY H r b n/\n<1099511627776/\0<m/\m<1329227995784915872903807060280344576 /\ ∀(z:Int) (H':Hp),0<=z->z<m->dY H' r b (n+1)->Kp r H H'->Q (.int z) H'
theorem Ud {f:Addr} {fd:FuncData} (F:jW K "_law_draw" "_law_draw" j8 f fd) (Ky:FnAt P w K mg base 1 "_law_stir" ["number","place"] (G6 K)) (Bt:oO mg):cj P w K mg base gZ 2 f fd ["bag","many"] (oY K):=by
 refine F.ok xX (fun vs H Q E h=> ?_) (fun cdv A outer s H vs Q E hr h=> ?_)
 ·obtain ⟨r,b,m,n,rfl,_⟩:=h
  rfl
 ·obtain ⟨r,b,m,n,rfl,⟨ns,i,f,c,t,hR,hB,nb,i0,i1,f0,c0,c1⟩,hn,m0,m1,k⟩:=h
  have g8:=hr.units
  refine ⟨_,(aD (cW (bB jV (pv 1) aG (bx _)) (aH (bf aG)) bF)
   (aD (rB (bC gb (aN (aJ (K:=K) rfl) (pv 0) aG (fun _ _=>rfl)) aG) (uR (pv 0) aG set_list))
   (aD (cW (PW.pt (BX (bB vI (aN (aJ (K:=K) rfl) (pv 0) aG (fun _ _=>rfl)) aG (bx _)) (wJ (bB jV (aN (aJ (K:=K) rfl) (pv 0) aG (fun _ _=>rfl)) (aQ (aP (K:=K) rfl) (by rfl) Bt.dW cB (ao (aN (aJ (K:=K) rfl) (pv 0) aG (fun _ _=>rfl)) aA)) (bx _))))) (aH (bf (bC lq (bD Ky (hr.mono (by decide)) (by rfl) (ao (aN (aJ (K:=K) rfl) (pv 0) aG (fun _ _=>rfl)) (ao (aN (aJ (K:=K) rfl) (pv 0) aG (fun _ _=>rfl)) aA))) (pv 1)))) bF)
   (aD (cW (bB vI (aN (aJ (K:=K) rfl) (pv 0) aG (fun _ _=>rfl)) aG (bx _)) (aD (bw (i:=2) xX.nd rfl (Or.inl rfl) (aN (aJ (K:=K) rfl) (aN (aJ (K:=K) rfl) (pv 0) aG (fun _ _=>rfl)) (aN (aJ (K:=K) rfl) (pv 0) aG (fun _ _=>rfl)) (fun _ _=>rfl)))
   (aD (rB (bC gb (aN (aJ (K:=K) rfl) (pv 0) aG (fun _ _=>rfl)) aG) (uR (pv 0) aG set_list))
   (aD (cW (bB vI (pv 2) (bC Pu aG aG) (bx _)) (aH (bf (bC lq (bD Ky (hr.mono (by decide)) (by rfl) (ao (bC lq (pv 2) aG) (ao (aN (aJ (K:=K) rfl) (pv 0) aG (fun _ _=>rfl)) aA))) (pv 1)))) bF)
   (aH (rB (bC Hx (pv 2) (bC Pu aG aG)) (uR (pv 0) aG set_list)))))) bF)
   (aD (bw (i:=3) xX.nd rfl (Or.inl rfl) (bC lq (aN (aJ (K:=K) rfl) (pv 0) aG (fun _ _=>rfl)) (pv 1)))
   (aD (rB (bC PB (aN (aJ (K:=K) rfl) (pv 0) aG (fun _ _=>rfl)) (pv 1)) (uR (pv 0) aG set_list))
   (aH (bf (pv 3))))))))), ?_⟩
  refine ⟨_,rfl,rfl,_,rfl, ?_⟩;refine nW (fun h0=> ?_) (fun h0=> ?_)
  ·have e:m=1:=by injection (of_decide_eq_true h0)
   subst e;exact k 0 H (by decide) (by decide) ⟨ns,i,f,c,t,hR,hB,nb,i0,i1,f0,c0,by (clear h0 m1 m0 g8 hn c0 f0 i1 i0 nb hB hR;omega)⟩ (Kp.refl _ _)
  ·
   refine ⟨_,rfl,_,_,_,_,rfl,rfl,aV.of hR,rfl,_,_,rfl,rfl,_,rfl,_,_,_,_,rfl,rfl,hR,rfl, ?_⟩;have k1:Kp r H (upd H r (.lst [.ref b,.int i,.int f,.int (c+1),.int t])):=Kp.set;have qR:(upd H r (.lst [.ref b,.int i,.int f,.int (c+1),.int t])) r=some (.lst [.ref b,.int i,.int f,.int (c+1),.int t]):=aq;have m9:=k1 _ _ hB nb;have ln:(List.map V.int ns).length=ns.length:=List.length_map ..;have zO:(0:Int)<=c+1:=by (clear ln m9 qR h0 g8 m1 m0 hn c1 f0 i1 i0 nb hB hR;omega)
   have Ei:c+1<2 ^ 62:=by (clear zO ln m9 qR h0 g8 m1 m0 c0 f0 i1 i0 nb hB hR;omega)
   have md0:∀z:Int,0<=z % m:=fun z=>Int.emod_nonneg _ (by (clear Ei zO ln m9 qR h0 g8 m1 hn c1 c0 f0 i1 i0 nb hB hR;omega));have md1:∀z:Int,z % m<m:=fun z=>Int.emod_lt_of_pos _ m0;refine ⟨_,rfl,_,_,_,_,rfl,rfl,aV.of qR,rfl,_,_,rfl,rfl,_,rfl, ?_⟩
   by_cases f2:f<2
   ·rw [decide_eq_true f2]
    refine iY ?_;refine ⟨_,rfl,_,_,_,_,rfl,rfl,aV.of qR,rfl,_,rfl,_,_,_,_,rfl,rfl,aV.of qR,rfl,b,_,rfl,.inl (aV.of m9),rfl,_,rfl, ?_⟩;refine nW (fun h1=> ?_) (fun h1=> ?_)
    ·refine ⟨_,rfl,_,_,_,_,rfl,rfl,aV.of qR,rfl,_,rfl,_,_,_,_,rfl,rfl,aV.of qR,rfl,t,c+1,rfl,zO,Ei,fun z z0=> ?_⟩
     refine ⟨_,rfl,_,_,rfl,rfl,m0, ?_⟩;exact k _ _ (md0 z) (md1 z) ⟨ns,i,f,c+1,t,qR,m9,nb,i0,i1,f0,zO,by (clear z0 h1 f2 Ei zO ln m9 qR h0 g8 m1 m0 hn c0 f0 i1 i0 nb hB hR;omega)⟩ k1
    ·have hlt:i<ns.length:=by
      have:¬i=(ns.length:Int):=fun z=>h1 (decide_eq_true (by rw [ln,z]));omega
     obtain ⟨cell,hc,_⟩:∃cell:Int,ug (ns.map V.int) i=some (V.int cell)/\True:=by
      obtain ⟨m',rfl⟩:=Int.eq_ofNat_of_zero_le i0;have:m'<ns.length:=by (clear h1 m9 qR i1 i0 hR f2 Ei zO ln h0 g8 m1 m0 hn c1 c0 f0 nb hB;omega)
      exact ⟨ns[m'],aU (by simp [this]),trivial⟩
     refine ⟨_,rfl,_,_,_,_,rfl,rfl,aV.of qR,rfl,_,_,rfl,rfl,_,rfl, ?_⟩;rw [decide_eq_true f2];refine iY ?_;refine ⟨_,rfl,_,_,_,_,rfl,rfl,aV.of qR,rfl,_,rfl,_,_,_,_,rfl,rfl,aV.of qR,rfl,_,_,_,_,rfl,rfl,aV.of m9,hc, ?_⟩;refine ⟨_,rfl,_,_,_,_,rfl,rfl,aV.of qR,rfl,_,_,rfl,rfl,_,rfl,_,_,_,_,rfl,rfl,qR,rfl, ?_⟩;have k2:Kp r (upd H r (.lst [.ref b,.int i,.int f,.int (c+1),.int t])) (upd (upd H r (.lst [.ref b,.int i,.int f,.int (c+1),.int t])) r (.lst [.ref b,.int (i+1),.int f,.int (c+1),.int t])):=Kp.set;have QK:(upd (upd H r (.lst [.ref b,.int i,.int f,.int (c+1),.int t])) r (.lst [.ref b,.int (i+1),.int f,.int (c+1),.int t])) r=some (.lst [.ref b,.int (i+1),.int f,.int (c+1),.int t]):=aq;have hB2:=k2 _ _ m9 nb;refine ⟨_,rfl,_,_,rfl,rfl,(by show Zc 10 18;exact ⟨by decide,by decide,by decide⟩),_,_,rfl,rfl,_,rfl, ?_⟩;refine nW (fun h2=> ?_) (fun h2=> ?_)
     ·refine ⟨_,rfl,_,_,rfl,rfl,(by show (0:Int)<2305843009213693951;decide),_,rfl,_,_,_,_,rfl,rfl,aV.of QK,rfl,_,c+1,rfl,zO,Ei,fun z z0=> ?_⟩
      refine ⟨_,rfl,_,_,rfl,rfl,m0, ?_⟩;exact k _ _ (md0 z) (md1 z) ⟨ns,i+1,f,c+1,t,QK,hB2,nb,by (clear z0 h2 hB2 QK hc hlt h1 f2 Ei zO ln m9 qR h0 g8 m1 m0 hn c1 c0 f0 i1 nb hB hR;omega),by (clear z0 h2 hB2 QK hc h1 f2 Ei zO ln m9 qR h0 g8 m1 m0 hn c1 c0 f0 i1 i0 nb hB hR;omega),f0,zO,by (clear z0 h2 hB2 QK hc hlt h1 f2 Ei zO ln m9 qR h0 g8 m1 m0 hn c0 f0 i1 i0 nb hB hR;omega)⟩ (k1.trans k2)
     ·have hbig:(0:Int)<=cell - 10 ^ ((18:Int).toNat):=by
       have h2':(1000000000000000000:Int)<=cell:=by simpa using h2
       show (0:Int)<=cell - 1000000000000000000
       (clear h2 hB2 QK hc hlt h1 f2 Ei zO ln m9 qR h0 g8 m1 m0 hn c1 c0 f0 i1 i0 nb hB hR;omega)
      refine ⟨_,rfl,_,_,rfl,rfl,(by show Zc 10 18;exact ⟨by decide,by decide,by decide⟩),_,_,rfl,rfl,_,rfl,_,_,_,_,rfl,rfl,QK,rfl, ?_⟩;have Yw:(upd (upd (upd H r (.lst [.ref b,.int i,.int f,.int (c+1),.int t])) r (.lst [.ref b,.int (i+1),.int f,.int (c+1),.int t])) r (.lst [.ref b,.int (i+1),.int (cell - 10 ^ ((18:Int).toNat)),.int (c+1),.int t])) r=some (.lst [.ref b,.int (i+1),.int (cell - 10 ^ ((18:Int).toNat)),.int (c+1),.int t]):=aq;have k3:Kp r (upd (upd H r (.lst [.ref b,.int i,.int f,.int (c+1),.int t])) r (.lst [.ref b,.int (i+1),.int f,.int (c+1),.int t])) (upd (upd (upd H r (.lst [.ref b,.int i,.int f,.int (c+1),.int t])) r (.lst [.ref b,.int (i+1),.int f,.int (c+1),.int t])) r (.lst [.ref b,.int (i+1),.int (cell - 10 ^ ((18:Int).toNat)),.int (c+1),.int t])):=Kp.set;have hB3:=k3 _ _ hB2 nb;refine ⟨_,rfl,_,_,_,_,rfl,rfl,aV.of Yw,rfl,_,rfl,_,_,rfl,rfl,m0, ?_⟩;refine ⟨_,rfl,_,_,_,_,rfl,rfl,aV.of Yw,rfl,_,rfl,_,_,rfl,rfl,⟨m0,m1⟩,_,rfl,_,_,_,_,rfl,rfl,Yw,rfl, ?_⟩;refine ⟨_,rfl, ?_⟩;refine k _ _ (md0 _) (md1 _) ⟨ns,i+1,_,c+1,t,aq, ?_,nb,by (clear hB3 Yw hbig h2 hB2 QK hc hlt h1 f2 Ei zO ln m9 qR h0 g8 m1 m0 hn c1 c0 f0 i1 nb hB hR;omega),by (clear hB3 Yw hbig h2 hB2 QK hc h1 f2 Ei zO ln m9 qR h0 g8 m1 m0 hn c1 c0 f0 i1 i0 nb hB hR;omega),Int.ediv_nonneg hbig (by (clear hB3 Yw hbig h2 hB2 QK hc hlt h1 f2 Ei zO ln m9 qR h0 g8 m1 hn c1 c0 f0 i1 i0 nb hB hR;omega)),zO,by (clear hB3 Yw hbig h2 hB2 QK hc hlt h1 f2 Ei zO ln m9 qR h0 g8 m1 m0 hn c0 f0 i1 i0 nb hB hR;omega)⟩ (((k1.trans k2).trans k3).trans Kp.set);rw [aO nb];exact hB3
   ·have YF:decide (f<2)=false:=decide_eq_false f2
    rw [YF];refine dJ ?_;refine ⟨_,rfl,_,_,_,_,rfl,rfl,aV.of qR,rfl,_,_,rfl,rfl,_,rfl, ?_⟩;rw [YF];refine dJ ?_;refine ⟨_,rfl,_,_,_,_,rfl,rfl,aV.of qR,rfl,_,rfl,_,_,rfl,rfl,m0, ?_⟩;refine ⟨_,rfl,_,_,_,_,rfl,rfl,aV.of qR,rfl,_,rfl,_,_,rfl,rfl,⟨m0,m1⟩,_,rfl,_,_,_,_,rfl,rfl,qR,rfl, ?_⟩;refine ⟨_,rfl, ?_⟩;refine k _ _ (md0 _) (md1 _) ⟨ns,i,_,c+1,t,aq, ?_,nb,by (clear YF f2 Ei zO ln m9 qR h0 g8 m1 m0 hn c1 c0 f0 i1 nb hB hR;omega),by (clear YF f2 Ei zO ln m9 qR h0 g8 m1 m0 hn c1 c0 f0 i0 nb hB hR;omega),Int.ediv_nonneg f0 (by (clear YF f2 Ei zO ln m9 qR h0 g8 m1 hn c1 c0 f0 i1 i0 nb hB hR;omega)),zO,by (clear YF f2 Ei zO ln m9 qR h0 g8 m1 m0 hn c0 f0 i1 i0 nb hB hR;omega)⟩ (k1.trans Kp.set);rw [aO nb];exact m9
def Ov (K:PySem.W.Frag):Sp:=fun vs H Q _=>∃(a:Addr) (ns:List Int),vs=[.ref a]/\aV K H a (ns.map V.int)/\ns.length<=63 /\ ∀(r b:Addr) (H':Hp),H r=none->H b=none->dY H' r b 0->Same H H'->Q (.ref r) H'
theorem Xr {f:Addr} {fd:FuncData} (F:jW K "_law_bag" "_law_bag" nQ f fd) (Bt:oO mg):cj P w K mg base gZ 1 f fd ["script"] (Ov K):=by
 refine F.ok wH (fun vs H Q E h=> ?_) (fun cdv A outer s H vs Q E hr h=> ?_)
 ·obtain ⟨a,ns,rfl,_⟩:=h
  rfl
 ·obtain ⟨a,ns,rfl,hs,hlen,k⟩:=h
  refine ⟨_,(aD (bw (i:=1) wH.nd rfl (Or.inl rfl) aG)
   (aD (gK PassesOwn.never rfl (cJ (K:=K) rfl (pv 0)) (aX (i:=2) wH.nd rfl (Or.inl rfl))
   (aH (bw (i:=1) wH.nd rfl (Or.inl rfl) (bC lq (bC gb (bC gb (bC pG (pv 1) aG) (bC lq (pv 2) aG)) aG) aG))))
   (aH (bf (bV (ao (bW (cO (K:=K) rfl) (by rfl) Bt.iT gn (ao (pv 0) aA)) (ao aG (ao aG (ao aG (ao (pv 1) aA)))))))))), ?_⟩
  refine ⟨_,rfl,a,rfl,⟨_,hs⟩,jA (K:=K) (a:=a) (xs:=ns.map V.int) (fun i σ H2=>∃(t:Int) (v:Option V),σ=[some (.ref a),some (.int t),v]/\H2=H)
   ⟨1,none,rfl,rfl⟩ (fun i σ H2 _ ⟨_,_,_,e⟩=>by rw [e];exact hs) ?_ ?_⟩
  ·rintro i y σ H2 hi ⟨t,v,rfl,rfl⟩
   obtain ⟨z,rfl⟩:∃z,y=V.int z:=by
    rw [List.getElem?_map] at hi;cases e:ns[i]? with
    | none=>rw [e] at hi;cases hi
    | some z=>rw [e] at hi;exact ⟨z,(Option.some.inj hi).symm⟩
   refine ⟨_,rfl,_,_,rfl,rfl,.inr ⟨by decide,by decide⟩,_,rfl,_,_,rfl,rfl,(by show (0:Int)<2305843009213693951;decide),_,_,rfl,rfl,_,_,rfl,rfl,_,_,rfl,rfl,(by show (0:Int)<2305843009213693951;decide), ?_⟩;exact ⟨_,_,rfl,rfl⟩
  ·rintro σ H2 ⟨t,v,rfl,rfl⟩
   refine ⟨_,rfl,a,_,rfl,.inl hs,fun b hb=> ?_⟩;refine ⟨_,rfl,(by show 5<=sizeLine;decide),fun r hr'=> ?_⟩;have sm:=aF (o:=HO.lst (ns.map V.int)) hb;exact k r b _ (sm.free hr') hb ⟨ns,0,0,0,t,aq,aF hr' _ _ aq,aB aq hr',by decide,by (clear hr' hb hlen;omega),by decide,by decide,by decide⟩ (sm.trans (aF hr'))
section
variable {D r b:Addr} {te:TE} {Q:VK} {rest:St} {H1:Hp} {n bn:Nat}
end
abbrev bM:=Int×Str×Int
def tD (x:bM):PyData:= .tuple [.int x.1,.str x.2.1,.int x.2.2]
theorem ji (x:bM):R7 (tD x)=true:=rfl
theorem CN {H:Hp} {t:Addr} {x:bM} (h:H t=some (.tup [.int x.1,.str x.2.1,.int x.2.2])):Dat H (.ref t) (tD x):=by
 simp only [tD,Dat];exact ⟨t,_,rfl,h,by simp only [aM,Dat,and_self]⟩
theorem yS {H:Hp} {v:V} {d:PyData} (h:Dat H v d):aM H [v] [d]:=by
 simp only [aM,and_true];exact h
def dX (H:Hp) (a:Addr) (ws:List bM):Prop:=∃vs,H a=some (.lst vs)/\aM H vs (ws.map tD)
theorem dX.same {H H':Hp} {a:Addr} {ws:List bM} (h:dX H a ws) (k:Same H H'):dX H' a ws:=by
 obtain ⟨vs,e,d⟩:=h;exact ⟨vs,k _ _ e,aM.keep k.tups _ (bJ _ ji ws) d⟩
theorem dX.kp {H H':Hp} {a r:Addr} {ws:List bM} {ys:List V} (h:dX H a ws) (hr:H r=some (.lst ys)) (k:Kp r H H') (n:a≠r):dX H' a ws:=by
 obtain ⟨vs,e,d⟩:=h;exact ⟨vs,k _ _ e n,aM.keep (k.tups hr) _ (bJ _ ji ws) d⟩
theorem jB {H:Hp} {v:V} {x:bM} (h:Dat H v (tD x)):∃t,v = .ref t/\H t=some (.tup [.int x.1,.str x.2.1,.int x.2.2]):=by
 simp only [tD,Dat] at h;obtain ⟨t,vs,e,q,d⟩:=h
 match vs,d with
 | [a,b,c],d=>
   simp only [aM,Dat,and_true] at d;obtain ⟨rfl,rfl,rfl⟩:=d;exact ⟨t,e,q⟩
 | [],d=>simp only [aM] at d
 | [_],d=>simp only [aM,and_false] at d
 | [_,_],d=>simp only [aM,and_false] at d
 | _::_::_::_::_,d=>simp only [aM,and_false] at d
theorem qg {H:Hp} {a:Addr} {ws:List bM} {i:Nat} {x:bM} (h:dX H a ws) (e:ws[i]? = some x):∃vs t,H a=some (.lst vs)/\vs[i]? = some (.ref t)/\H t=some (.tup [.int x.1,.str x.2.1,.int x.2.2]):=by
 obtain ⟨vs,ha,d⟩:=h;obtain ⟨v,ev,dv⟩:=d.getD (i:=i) (d:=tD x) (by rw [List.getElem?_map,e];rfl);obtain ⟨t,rfl,ht⟩:=jB dv;exact ⟨vs,t,ha,ev,ht⟩
def Bw (K:PySem.W.Frag):Sp:=fun vs H Q _=>∃(r b:Addr) (n:Nat),vs=[.ref r]/\dY H r b n/\n<549755813888 /\ ∀(z:Int) (H':Hp),1<=z->z<=8->dY H' r b (n+2)->Kp r H H'->Q (.int z) H'
theorem aaw (n:Int) (h0:0<=n) (h1:n<6):∃z:Int,ug [V.int 2,V.int 3,V.int 4,V.int 2,V.int 3,V.int 1] n=some (V.int z)/\1<=z/\z<=4:=by
 have:n=0\/n=1\/n=2\/n=3\/n=4\/n=5:=by omega
 rcases this with rfl|rfl|rfl|rfl|rfl|rfl
 ·exact ⟨2,rfl,by decide,by decide⟩
 ·exact ⟨3,rfl,by decide,by decide⟩
 ·exact ⟨4,rfl,by decide,by decide⟩
 ·exact ⟨2,rfl,by decide,by decide⟩
 ·exact ⟨3,rfl,by decide,by decide⟩
 ·exact ⟨1,rfl,by decide,by decide⟩
theorem Qf {f:Addr} {fd:FuncData} (F:jW K "_law_hands" "_law_hands" iG f fd) (dg:FnAt P w K mg base 2 "_law_draw" ["bag","many"] (oY K)):cj P w K mg base gZ 3 f fd ["bag"] (Bw K):=by
 refine F.ok K1 (fun vs H Q E h=> ?_) (fun cdv A outer s H vs Q E hr h=> ?_)
 ·obtain ⟨r,b,n,rfl,_⟩:=h
  rfl
 ·obtain ⟨r,b,n,rfl,B0,hn,k⟩:=h
  refine ⟨_,(aD (cW (bB jV (bD dg (hr.mono (by decide)) (by rfl) (ao (pv 0) (ao aG aA))) aG (bx _)) (aH (bf (bC gb aG (bD dg (hr.mono (by decide)) (by rfl) (ao (pv 0) (ao aG aA)))))) bF)
   (aH (bf (aN (aJ (K:=K) rfl) (bV (ao aG (ao aG (ao aG (ao aG (ao aG (ao aG aA))))))) (bD dg (hr.mono (by decide)) (by rfl) (ao (pv 0) (ao aG aA))) (fun _ _=>rfl))))), ?_⟩
  refine ⟨_,rfl,r,b,8,n,rfl,B0,by omega,by decide,by decide,fun z H1 z0 z1 B1 k1=>⟨rfl,_,rfl, ?_⟩⟩;refine nW (fun _=> ?_) (fun _=> ?_)
  ·refine ⟨_,rfl,r,b,4,_,rfl,B1,by (clear z1 z0;omega),by decide,by decide,fun y H2 y0 y1 B2 k2=>⟨_,_,rfl,rfl, ?_⟩⟩
   exact k _ H2 (by (clear y1 z1 z0 hn;omega)) (by (clear y0 z1 z0 hn;omega)) B2 (k1.trans k2)
  ·refine ⟨(by show 6<=sizeLine;decide),fun p hp=> ?_⟩
   have sp:=aF (o:=HO.lst [V.int 2,V.int 3,V.int 4,V.int 2,V.int 3,V.int 1]) hp;obtain ⟨Cd,_⟩:=B1.ne hp;refine ⟨_,rfl,r,b,6,_,rfl,B1.keep sp,by (clear Cd hp z1 z0;omega),by decide,by decide,fun y H2 y0 y1 B2 k2=> ?_⟩;obtain ⟨v,ev,v0,v1⟩:=aaw y y0 y1;exact ⟨_,_,_,_,rfl,rfl,aV.of (k2 _ _ aq Cd),ev,k v H2 v0 (by (clear v0 ev y1 y0 Cd hp z1 z0 hn;omega)) B2 ((k1.trans (.of_same sp)).trans k2)⟩
theorem Vo {α:Type} {xs:List α} {n:Int} (h0:0<=n) (h1:n<xs.length):∃v,ug xs n=some v/\xs[n.toNat]? = some v:=by
 obtain ⟨m,rfl⟩:=Int.eq_ofNat_of_zero_le h0;have:m<xs.length:=by (clear h0;omega)
 exact ⟨xs[m],aU (by simp [this]),by simp [this]⟩
def ab9 (k:Str):Prop:=k = "load" \/ k = "store" \/ k = "swap"
theorem Ye {H:Hp} {p1 p2 p3:Addr} (h1:H p1=some (.lst [.str "load",.str "store",.str "swap"])) (h2:H p2=some (.lst [.str "load",.str "load",.str "swap",.str "load"])) (h3:H p3=some (.lst [.str "store",.str "swap",.str "load",.str "store"])) (n:Int) (n0:0<=n) (n1:n<3):
 ∃(q:Addr) (ks:List Str),ug [V.ref p1,V.ref p2,V.ref p3] n=some (V.ref q)/\H q=some (.lst (ks.map V.str))/\3<=ks.length/\ks.length<=4/\(∀k∈ks,ab9 k)/\(q=p1\/q=p2\/q=p3):=by
 have:n=0\/n=1\/n=2:=by (clear h3 h2 h1;omega)
 rcases this with rfl|rfl|rfl
 ·refine ⟨p1,["load","store","swap"],rfl,h1,by decide,by decide,fun k hk=> ?_,.inl rfl⟩
  simp only [List.mem_cons,List.not_mem_nil,or_false] at hk;exact hk
 ·refine ⟨p2,["load","load","swap","load"],rfl,h2,by decide,by decide,fun k hk=> ?_,.inr (.inl rfl)⟩
  simp only [List.mem_cons,List.not_mem_nil,or_false] at hk;rcases hk with h|h|h|h
  ·exact .inl h
  ·exact .inl h
  ·exact .inr (.inr h)
  ·exact .inl h
 ·refine ⟨p3,["store","swap","load","store"],rfl,h3,by decide,by decide,fun k hk=> ?_,.inr (.inr rfl)⟩
  simp only [List.mem_cons,List.not_mem_nil,or_false] at hk;rcases hk with h|h|h|h
  ·exact .inr (.inl h)
  ·exact .inr (.inr h)
  ·exact .inl h
  ·exact .inr (.inl h)
def jF (hn:Int) (x:bM):Prop:=(0<=x.1/\x.1<hn)/\ab9 x.2.1/\(0<=x.2.2/\x.2.2<20)
def Bp (K:PySem.W.Frag):Sp:=fun vs H Q _=>∃(r b:Addr) (n:Nat) (hn cl ld ap:Int),vs=[.ref r,.int hn,.int cl,.int ld,.int ap]/\dY H r b n/\n<549755813888/\1<=hn/\hn<=8/\1<=cl/\cl<=20/\0<=ld/\ld<3 /\
 ∀(t:Addr) (x:bM) (H':Hp),H t=none->H' t=some (.tup [.int x.1,.str x.2.1,.int x.2.2])->jF hn x->dY H' r b (n+3)->Kp r H H'->Q (.ref t) H'
theorem PN {f:Addr} {fd:FuncData} (F:jW K "_law_touch" "_law_touch" iB f fd) (dg:FnAt P w K mg base 2 "_law_draw" ["bag","many"] (oY K)) (Bt:oO mg):cj P w K mg base gZ 3 f fd ["bag","hands","cells","loads","apart"] (Bp K):=by
 refine F.ok qt (fun vs H Q E h=> ?_) (fun cdv A outer s H vs Q E hr h=> ?_)
 ·obtain ⟨r,b,n,hn,cl,ld,ap,rfl,_⟩:=h
  rfl
 ·obtain ⟨r,b,n,hn,cl,ld,ap,rfl,B0,nn,hn0,hn1,Vj,cl1,vV,vU,k⟩:=h
  refine ⟨_,(aD (bw (i:=5) qt.nd rfl (Or.inl rfl) (aN (aJ (K:=K) rfl) (bV (ao (bV (ao cN (ao cN (ao cN aA)))) (ao (bV (ao cN (ao cN (ao cN (ao cN aA))))) (ao (bV (ao cN (ao cN (ao cN (ao cN aA))))) aA)))) (pv 3) (fun _ _=>rfl)))
   (aD (bw (i:=6) qt.nd rfl (Or.inl rfl) (bD dg (hr.mono (by decide)) (by rfl) (ao (pv 0) (ao (pv 1) aA))))
   (aD (bw (i:=7) qt.nd rfl (Or.inl rfl) (aN (aJ (K:=K) rfl) (pv 5) (bD dg (hr.mono (by decide)) (by rfl) (ao (pv 0) (ao (aQ (aP (K:=K) rfl) (by rfl) Bt.dW cB (ao (pv 5) aA)) aA))) (fun _ _=>rfl)))
   (aH (bf (jN (ao (pv 6) (ao (pv 7) (ao (bC lq (bC gb (pv 4) (bC pG aG (bD dg (hr.mono (by decide)) (by rfl) (ao (pv 0) (ao (pv 2) aA))))) aG) aA))))))))), ?_⟩
  refine ⟨(by show 3<=sizeLine;decide),fun p1 h1=> ?_⟩;have s1:=aF (o:=HO.lst [V.str "load",V.str "store",V.str "swap"]) h1;refine ⟨(by show 4<=sizeLine;decide),fun p2 h2=> ?_⟩;have s2:=aF (o:=HO.lst [V.str "load",V.str "load",V.str "swap",V.str "load"]) h2;refine ⟨(by show 4<=sizeLine;decide),fun p3 h3=> ?_⟩;have s3:=aF (o:=HO.lst [V.str "store",V.str "swap",V.str "load",V.str "store"]) h3;refine ⟨(by show 3<=sizeLine;decide),fun p h4=> ?_⟩;have s4:=aF (o:=HO.lst [V.ref p1,V.ref p2,V.ref p3]) h4;obtain ⟨q,ks,eq,hq,Uv,Uu,kok,qq⟩:=Ye (s4 _ _ (s3 _ _ (s2 _ _ aq))) (s4 _ _ (s3 _ _ aq)) (s4 _ _ aq) ld vV vU;have Ox:=((s1.trans s2).trans s3).trans s4;have B4:=B0.keep Ox;refine ⟨_,rfl,_,_,_,_,rfl,rfl,aV.of aq,eq, ?_⟩
  have Nq:q≠r:=by
   have a1:=(B0.ne h1).1;have a2:=((B0.keep s1).ne h2).1;have a3:=((B0.keep (s1.trans s2)).ne h3).1;rcases qq with rfl|rfl|rfl<;>assumption
  generalize (upd (upd (upd (upd H p1 (HO.lst [V.str "load",V.str "store",V.str "swap"])) p2 (HO.lst [V.str "load",V.str "load",V.str "swap",V.str "load"])) p3 (HO.lst [V.str "store",V.str "swap",V.str "load",V.str "store"])) p (HO.lst [V.ref p1,V.ref p2,V.ref p3]))=H4 at Ox hq B4 ⊢;refine ⟨_,rfl,_,rfl,r,b,hn,n,rfl,B4,by (clear hq Nq qq Uu Uv eq h4 h3 h2 h1 vU vV cl1 Vj hn1 hn0;omega),by (clear hq Nq qq Uu Uv eq h4 h3 h2 h1 vU vV cl1 Vj hn1 nn;omega),by (clear hq Nq qq Uu Uv eq h4 h3 h2 h1 vU vV cl1 Vj hn0 nn;omega),fun z H5 z0 z1 B5 k5=> ?_⟩;have J9:=k5 _ _ hq Nq;refine ⟨_,rfl,_,rfl,_,rfl,q,_,rfl,.inl (aV.of J9),r,b,_,_,rfl,B5,by (clear J9 z1 z0 hq Nq qq Uu Uv eq h4 h3 h2 h1 vU vV cl1 Vj hn1 hn0;omega),by rw [List.length_map];(clear J9 z1 z0 hq Nq qq Uu eq h4 h3 h2 h1 vU vV cl1 Vj hn1 hn0 nn;omega),by rw [List.length_map];(clear J9 z1 z0 hq Nq qq Uv eq h4 h3 h2 h1 vU vV cl1 Vj hn1 hn0 nn;omega),fun y H6 y0 y1 B6 k6=> ?_⟩;rw [List.length_map] at y1;obtain ⟨v,ev,gv⟩:=Vo (xs:=ks.map V.str) y0 (by rw [List.length_map];(clear y0 J9 z1 z0 hq Nq qq Uu Uv eq h4 h3 h2 h1 vU vV cl1 Vj hn1 hn0 nn;omega));rw [List.getElem?_map] at gv;cases ek:ks[y.toNat]? with
  | none=>rw [ek] at gv;cases gv
  | some kd=>
    rw [ek] at gv;cases gv;refine ⟨_,_,_,_,rfl,rfl,aV.of (k6 _ _ J9 Nq),ev, ?_⟩;refine ⟨_,rfl,_,rfl,_,rfl,_,rfl,_,rfl,r,b,_,_,rfl,B6,by (clear ev ek y1 y0 J9 z1 z0 hq Nq qq Uu Uv eq h4 h3 h2 h1 vU vV cl1 Vj hn1 hn0;omega),by (clear ev ek y1 y0 J9 z1 z0 hq Nq qq Uu Uv eq h4 h3 h2 h1 vU vV cl1 hn1 hn0 nn;omega),by (clear ev ek y1 y0 J9 z1 z0 hq Nq qq Uu Uv eq h4 h3 h2 h1 vU vV Vj hn1 hn0 nn;omega),fun u H7 u0 u1 B7 k7=>⟨_,_,rfl,rfl,.inl ⟨by decide,by decide⟩,_,_,rfl,rfl,_,_,rfl,rfl,(by show (0:Int)<20;decide), ?_⟩⟩;refine ⟨(by show 3<=sizeLine;decide),fun t ht=> ?_⟩;have st:=aF (o:=HO.tup [V.int z,V.str kd,V.int ((ap+7*u) % 20)]) ht;have kk:Kp r H H7:=(((Kp.of_same Ox).trans k5).trans k6).trans k7;exact k t (z,kd,(ap+7*u) % 20) _ (Kp.new kk ht B7.at) aq ⟨⟨z0,z1⟩,kok kd (List.mem_of_getElem? ek),Int.emod_nonneg _ (by decide),Int.emod_lt_of_pos _ (by decide)⟩ (B7.keep st) (kk.trans (.of_same st))
def uJ (K:PySem.W.Frag):Sp:=fun vs H Q _=>∃(r b:Addr) (n:Nat) (hn:Int),vs=[.ref r,.int hn]/\dY H r b n/\n<274877906944/\1<=hn/\hn<=8 /\
 ∀(a:Addr) (ws:List bM) (H':Hp),H a=none->dX H' a ws->(∀x∈ws,jF hn x)->ws.length<=300->dY H' r b (n+1000)->Kp r H H'->Q (.ref a) H'
theorem X8 (n:Int) (h0:0<=n) (h1:n<4):∃z:Int,ug [V.int 1,V.int 2,V.int 3,V.int 20] n=some (V.int z)/\1<=z/\z<=20:=by
 have:n=0\/n=1\/n=2\/n=3:=by omega
 rcases this with rfl|rfl|rfl|rfl
 ·exact ⟨1,rfl,by decide,by decide⟩
 ·exact ⟨2,rfl,by decide,by decide⟩
 ·exact ⟨3,rfl,by decide,by decide⟩
 ·exact ⟨20,rfl,by decide,by decide⟩
theorem X_ (n:Int) (h0:0<=n) (h1:n<32):∃z:Int,ug [V.int 31,V.int 101,V.int 301] (n / 28+n / 31)=some (V.int z)/\1<=z/\z<=301:=by
 have:n / 28+n / 31=0\/n / 28+n / 31=1\/n / 28+n / 31=2:=by omega
 rcases this with e|e|e<;>rw [e]
 ·exact ⟨31,rfl,by decide,by decide⟩
 ·exact ⟨101,rfl,by decide,by decide⟩
 ·exact ⟨301,rfl,by decide,by decide⟩
theorem HF {f:Addr} {fd:FuncData} (F:jW K "_law_touches" "_law_touches" fM f fd) (dg:FnAt P w K mg base 2 "_law_draw" ["bag","many"] (oY K)) (RP:FnAt P w K mg base 3 "_law_touch" ["bag","hands","cells","loads","apart"] (Bp K)) (Bt:oO mg):cj P w K mg base gZ 4 f fd ["bag","hands"] (uJ K):=by
 refine F.ok gY (fun vs H Q E h=> ?_) (fun cdv A outer s H vs Q E hr h=> ?_)
 ·obtain ⟨r,b,n,hn,rfl,_⟩:=h
  rfl
 ·obtain ⟨r,b,n,hn,rfl,B0,nn,hn0,hn1,k⟩:=h
  refine ⟨_,(aD (bw (i:=2) gY.nd rfl (Or.inl rfl) (bD dg (hr.mono (by decide)) (by rfl) (ao (pv 0) (ao aG aA))))
   (aD (bw (i:=3) gY.nd rfl (Or.inr rfl) (aN (aJ (K:=K) rfl) (bV (ao aG (ao aG (ao aG (ao aG aA))))) (bD dg (hr.mono (by decide)) (by rfl) (ao (pv 0) (ao aG aA))) (fun _ _=>rfl)))
   (aD (bw (i:=4) gY.nd rfl (Or.inr rfl) (bD dg (hr.mono (by decide)) (by rfl) (ao (pv 0) (ao aG aA))))
   (aD (bw (i:=5) gY.nd rfl (Or.inr rfl) (bD dg (hr.mono (by decide)) (by rfl) (ao (pv 0) (ao aG aA))))
   (aD (bw (i:=6) gY.nd rfl (Or.inl rfl) (bD dg (hr.mono (by decide)) (by rfl) (ao (pv 0) (ao (aN (aJ (K:=K) rfl) (bV (ao aG (ao aG (ao aG aA)))) (bC gb (bC tR (pv 2) aG) (bC tR (pv 2) aG)) (fun _ _=>rfl)) aA))))
   (aH (bf (eV rfl (N:=["step","bag","hands","cells","loads","apart"]) (own:=["step"]) (caps:=[0,1,3,4,5]) (bh.of (by kernel_rfl)) (d7 (by rfl) Bt.fP (ao (pv 6) aA)) (fun _ _ _ _=>(aX (i:=0) (show List.Nodup (["step","bag","hands","cells","loads","apart"]:List Str) by decide +kernel) rfl (Or.inl rfl))) (fun _ _ _ _=>eE) (fun _ _ _ _=>(bD RP (hr.mono (by decide)) (by rfl) (ao (pv 1) (ao (pv 2) (ao (pv 3) (ao (pv 4) (ao (pv 5) aA))))))))))))))), ?_⟩
  refine ⟨_,rfl,r,b,32,n,rfl,B0,by (clear hn1 hn0;omega),by decide,by decide,fun sz H1 G5 G4 B1 k1=> ?_⟩;refine ⟨(by show 4<=sizeLine;decide),fun p hp=> ?_⟩;have sp:=aF (o:=HO.lst [V.int 1,V.int 2,V.int 3,V.int 20]) hp;obtain ⟨Cd,_⟩:=B1.ne hp;refine ⟨_,rfl,r,b,4,_,rfl,B1.keep sp,by (clear Cd hp G4 G5 hn1 hn0;omega),by decide,by decide,fun y H2 y0 y1 B2 k2=> ?_⟩;obtain ⟨cl,ec,c0,c1⟩:=X8 y y0 y1;refine ⟨_,_,_,_,rfl,rfl,aV.of (k2 _ _ aq Cd),ec, ?_⟩;have kk2:Kp r H H2:=(k1.trans (.of_same sp)).trans k2;refine ⟨_,rfl,r,b,3,_,rfl,B2,by (clear c1 c0 ec y1 y0 Cd hp G4 G5 hn1 hn0;omega),by decide,by decide,fun ld H3 vV vU B3 k3=> ?_⟩;refine ⟨_,rfl,r,b,20,_,rfl,B3,by (clear vU vV c1 c0 ec y1 y0 Cd hp G4 G5 hn1 hn0;omega),by decide,by decide,fun ap H4 RB Rz B4 k4=> ?_⟩;have kk4:=(kk2.trans k3).trans k4;refine ⟨_,rfl,(by show 3<=sizeLine;decide),fun p2 hp2=> ?_⟩;have sp2:=aF (o:=HO.lst [V.int 31,V.int 101,V.int 301]) hp2;obtain ⟨mn,em,m0,m1⟩:=X_ sz G5 G4;refine ⟨_,rfl,_,_,rfl,rfl,(by show Nm _ 28;exact ⟨by decide,by decide⟩),_,rfl,_,_,rfl,rfl,(by show Nm _ 31;exact ⟨by decide,by decide⟩),_,_,rfl,rfl,_,_,_,_,rfl,rfl,aV.of aq,em,r,b,mn,_,rfl,B4.keep sp2,by (clear m1 m0 em hp2 Rz RB vU vV c1 c0 ec y1 y0 Cd hp G4 G5 hn1 hn0;omega),by (clear m1 em hp2 Rz RB vU vV c1 c0 ec y1 y0 Cd hp G4 G5 hn1 hn0 nn;omega),by (clear m0 em hp2 Rz RB vU vV c1 c0 ec y1 y0 Cd hp G4 G5 hn1 hn0 nn;omega),fun many H5 y0 y1 B5 k5=> ?_⟩;have kk5:=(kk4.trans (.of_same sp2)).trans k5;refine ⟨_,rfl,many,rfl,by (clear y1 m1 m0 em hp2 Rz RB vU vV c1 c0 ec Cd hp G4 G5 hn1 hn0 nn;omega),by (clear y0 m0 em hp2 Rz RB vU vV c1 c0 ec Cd hp G4 G5 hn1 hn0 nn;omega),fun D hD=> ?_⟩;obtain ⟨ml,rfl⟩:=Int.eq_ofNat_of_zero_le y0;rw [show ((ml:Int)).toNat=ml by (clear y1 y0 hD m1 m0 em hp2 Rz RB vU vV c1 c0 ec Cd hp G4 G5 hn1 hn0 nn;omega)];obtain ⟨X6,Zo⟩:=B5.ne hD;have mv:∀{H:Hp} {o:HO},Kp r H5 H->Kp r H5 (upd H D o):=fun k c u e m=>by rw [aO (aB e hD)];exact k c u e m
  refine rO (lo:=0) (n:=ml) (fun i σ H6=>(∃v,σ=[v,some (.ref r),some (.int hn),some (.int cl),some (.int ld),some (.int ap)]) /\ ∃ws:List bM,ws.length=i/\(∀x∈ws,jF hn x)/\dX H6 D ws/\Kp r H5 H6/\dY H6 r b (n+1+1+1+1+1+3*i))
   ⟨⟨none,rfl⟩,[],rfl,fun _ z=>absurd z (by simp),⟨[],aq,by simp [aM]⟩,.of_same (aF hD),B5.keep (aF hD)⟩ ?_ ?_
  ·rintro i σ H6 hi ⟨⟨v,rfl⟩,ws,wl,Dy,W,k6,B6⟩
   refine ⟨_,rfl,_,rfl,_,rfl,_,rfl,_,rfl,r,b,_,hn,cl,ld,ap,rfl,B6,by (clear wl Zo X6 y0 hD m0 em hp2 Rz RB vU vV c1 c0 ec Cd hp G4 G5 hn1 hn0;omega),hn0,hn1,c0,c1,vV,vU,fun t x H7 ht0 ht xok B7 k7=> ?_⟩;obtain ⟨vs,hv,dv⟩:=id W;have vl:vs.length=i:=by rw [dv.length,List.length_map,wl]
   have hv7:=k7 _ _ hv X6;have k8:Kp D H7 (upd H7 D (.lst (vs++[V.ref t]))):=Kp.set;have t8:=k8.tups hv7;refine ⟨vs,hv7,by rw [sizeLine_eq];(clear hv7 hv ht ht0 wl Zo X6 y0 hD m0 em hp2 Rz RB vU vV c1 c0 ec Cd hp G4 G5 hn1 hn0 nn;omega),⟨_,rfl⟩,ws++[x],by simp [wl],fun y hy=> ?_,⟨_,aq, ?_⟩,mv (k6.trans k7),(B7.mono (by (clear hv7 vl hv ht ht0 wl hi Zo X6 y1 y0 hD m1 m0 em hp2 Rz RB vU vV c1 c0 ec Cd hp G4 G5 hn1 hn0 nn;omega))).kp k8 X6.symm Zo.symm⟩
   ·rcases List.mem_append.mp hy with hy|hy
    ·exact Dy y hy
    ·have:y=x:=by simpa using hy
     subst this;exact xok
   ·rw [List.map_append]
    refine aM.append (aM.keep (fun a xs h=>t8 _ _ (B6.tups k7 _ _ h)) _ (bJ _ ji _) dv) (yS (CN (t8 _ _ ht)))
  ·rintro σ H6 ⟨⟨v,rfl⟩,ws,wl,Dy,W,k6,B6⟩
   exact k D ws H6 (Kp.new kk5 hD B5.at) W Dy (by (clear Zo X6 y0 hD m0 em hp2 Rz RB vU vV c1 c0 ec Cd hp G4 G5 hn1 hn0 nn;omega)) (B6.mono (by (clear wl Zo X6 y0 hD m0 em hp2 Rz RB vU vV c1 c0 ec Cd hp G4 G5 hn1 hn0 nn;omega))) (kk5.trans k6)
def mt (x y:bM):Bool:=if x.1=y.1 then false else if x.2.2=y.2.2 then (if x.2.1 = "load" then !decide (y.2.1 = "load") else true) else false
def Wy (K:PySem.W.Frag):Sp:=fun vs H Q _=>∃(a b:Addr) (x y:bM),vs=[.ref a,.ref b]/\H a=some (.tup [.int x.1,.str x.2.1,.int x.2.2])/\H b=some (.tup [.int y.1,.str y.2.1,.int y.2.2])/\Q (.bl (mt x y)) H
theorem Uq {K:PySem.W.Frag} {a b:Addr} {x y:bM} {H:Hp} {Q:VK} (ha:H a=some (.tup [.int x.1,.str x.2.1,.int x.2.2])) (hb:H b=some (.tup [.int y.1,.str y.2.1,.int y.2.2])) (k:Q (.bl (mt x y)) H) {D:Ends} (hD:D.rt=Q):
 (Sw (ZP (tOr (Js (Jt rEq (Jt (BW K) (xH 0) (tC (.int 0))) (Jt (BW K) (xH 1) (tC (.int 0))))) (Js (Jt rNe (Jt (BW K) (xH 0) (tC (.int 2))) (Jt (BW K) (xH 1) (tC (.int 2)))))) (Sx (tC (.bl false))) Ju)
   (Sx (ZL (Jt rNe (Jt (BW K) (xH 0) (tC (.int 1))) (tC (.str "load"))) (Jt rNe (Jt (BW K) (xH 1) (tC (.int 1))) (tC (.str "load")))))) D [some (.ref a),some (.ref b)] H:=by
 refine ⟨_,rfl,_,_,_,_,rfl,rfl,fY.of ha,rfl,_,rfl,_,_,_,_,rfl,rfl,fY.of hb,rfl,rfl,_,rfl, ?_⟩;refine nW (fun h1=> ?_) (fun h1=> ?_)
 ·have e:x.1=y.1:=by injection (of_decide_eq_true h1)
  have em:mt x y=false:=by unfold mt;rw [if_pos e]
  refine (show D.rt (.bl false) H from ?_);rw [hD,←em];exact k
 ·have e:¬x.1=y.1:=fun z=>h1 (decide_eq_true (by rw [z]))
  refine ⟨_,rfl,_,_,_,_,rfl,rfl,fY.of ha,rfl,_,rfl,_,_,_,_,rfl,rfl,fY.of hb,rfl,rfl,_,rfl, ?_⟩
  by_cases e2:x.2.2=y.2.2
  ·refine pP (by rw [e2]) ?_
   refine ⟨_,rfl,_,_,_,_,rfl,rfl,fY.of ha,rfl,rfl,_,rfl, ?_⟩
   by_cases e3:x.2.1 = "load"
   ·refine pP (by rw [e3]) ?_
    refine ⟨_,rfl,_,_,_,_,rfl,rfl,fY.of hb,rfl,rfl, ?_⟩
    have em:mt x y = !decide (V.str y.2.1=V.str "load"):=by
     unfold mt;rw [if_neg e,if_pos e2,if_pos e3];congr 1;rw [Bool.eq_iff_iff,decide_eq_true_iff,decide_eq_true_iff];exact ⟨fun z=>by rw [z],fun z=>by injection z⟩
    rw [←em,hD];exact k
   ·have ne:¬V.str x.2.1=V.str "load" :=fun z=>e3 (by injection z)
    rw [decide_eq_false ne];refine iY ?_;have em:mt x y=true:=by unfold mt;rw [if_neg e,if_pos e2,if_neg e3]
    rw [←em,hD];exact k
  ·have ne:¬V.int x.2.2=V.int y.2.2:=fun z=>e2 (by injection z)
   rw [decide_eq_false ne];refine iY ?_;have em:mt x y=false:=by unfold mt;rw [if_neg e,if_neg e2]
   refine (show D.rt (.bl false) H from ?_);rw [hD,←em];exact k
theorem vR {f:Addr} {fd:FuncData} (F:jW K "touches_meet" "touches_meet" cP f fd):cj P w K mg base gZ 1 f fd ["one","other"] (Wy K):=by
 refine F.ok vQ (fun vs H Q E h=> ?_) (fun cdv A outer s H vs Q E hr h=> ?_)
 ·obtain ⟨a,b,x,y,rfl,_⟩:=h
  rfl
 ·obtain ⟨a,b,x,y,rfl,ha,hb,k⟩:=h
  exact ⟨_,(aD (cW (PW.pt (jU (bB jV (aN (bL (K:=K) rfl) (pv 0) aG (fun _ _=>rfl)) (aN (bL (K:=K) rfl) (pv 1) aG (fun _ _=>rfl)) (bx _)) (jg (bB k_ (aN (bL (K:=K) rfl) (pv 0) aG (fun _ _=>rfl)) (aN (bL (K:=K) rfl) (pv 1) aG (fun _ _=>rfl)) (bx _))))) (aH (bf fj)) bF)
   (aH (bf (Pk (eX k_ (aN (bL (K:=K) rfl) (pv 0) aG (fun _ _=>rfl)) cN (bx _)) (pC (eX k_ (aN (bL (K:=K) rfl) (pv 1) aG (fun _ _=>rfl)) cN (bx _))))))),Uq (K:=K) ha hb k rfl⟩
def Wv (ws:List bM) (i j:Nat):Bool:=match ws[i]?,ws[j]? with |some x,some y=>decide (x.1=y.1)||mt x y|_,_=>false
def vG (ws:List bM) (i j:Nat):Bool:=decide (i<j)&&Wv ws i j
theorem uI {ws:List bM} {i j:Nat} (h:vG ws i j=true):i<j/\j<ws.length:=by
 unfold vG Wv at h;simp only [Bool.and_eq_true,decide_eq_true_eq] at h;refine ⟨h.1, ?_⟩
 by_cases l:j<ws.length
 ·exact l
 ·have e:ws[j]? = none:=by simp;(clear h;omega)
  rw [e] at h;cases ws[i]? <;> simp at h
theorem wQ {vs:List V} {i:Nat} {v:V} (h:vs[i]? = some v):ug vs (i:Int)=some v:=aU h
def G7 (K:PySem.W.Frag):Sp:=fun vs H Q _=>∃(a:Addr) (ws:List bM) (i j:Nat),vs=[.ref a,.int i,.int j]/\dX H a ws/\i<ws.length/\j<ws.length/\Q (.bl (vG ws i j)) H
theorem HN {f:Addr} {fd:FuncData} (F:jW K "is_step" "is_step" gF f fd) (zH:FnAt P w K mg base 1 "touches_meet" ["one","other"] (Wy K)):cj P w K mg base gZ 2 f fd ["web","place","later"] (G7 K):=by
 refine F.ok Ho (fun vs H Q E h=> ?_) (fun cdv A outer s H vs Q E hr h=> ?_)
 ·obtain ⟨a,ws,i,j,rfl,_⟩:=h
  rfl
 ·obtain ⟨a,ws,i,j,rfl,W,hi,hj,k⟩:=h
  refine ⟨_,(aD (cW (bB VP (pv 1) (pv 2) (bx _)) (aH (bf fj)) bF)
   (aH (bf (Pk (eX jV (aN (bL (K:=K) rfl) (aN (aJ (K:=K) rfl) (pv 0) (pv 1) (fun _ _=>rfl)) aG (fun _ _=>rfl)) (aN (bL (K:=K) rfl) (aN (aJ (K:=K) rfl) (pv 0) (pv 2) (fun _ _=>rfl)) aG (fun _ _=>rfl)) (bx _)) (pC (bD zH (hr.mono (by decide)) (by rfl) (ao (aN (aJ (K:=K) rfl) (pv 0) (pv 1) (fun _ _=>rfl)) (ao (aN (aJ (K:=K) rfl) (pv 0) (pv 2) (fun _ _=>rfl)) aA)))))))), ?_⟩
  refine ⟨_,rfl,_,rfl,_,_,rfl,rfl,_,rfl, ?_⟩
  by_cases l:i<j
  ·rw [decide_eq_false (show ¬(j:Int)<=(i:Int) by omega)]
   refine dJ ?_;obtain ⟨x,ex⟩:∃x,ws[i]? = some x:=⟨ws[i],by simp [hi]⟩;obtain ⟨y,ey⟩:∃y,ws[j]? = some y:=⟨ws[j],by simp [hj]⟩;obtain ⟨vs,t1,ha,e1,ht1⟩:=qg W ex;obtain ⟨vs',t2,ha',e2,Zr⟩:=qg W ey;have ev:vs=vs':=by rw [ha] at ha';injection ha' with q;injection q
   subst ev;have es:vG ws i j=(decide (x.1=y.1)||mt x y):=by unfold vG Wv;rw [ex,ey,decide_eq_true l,Bool.true_and]
   refine ⟨_,rfl,_,rfl,_,_,_,_,rfl,rfl,aV.of ha,wQ e1,_,_,_,_,rfl,rfl,fY.of ht1,rfl,_,rfl,_,rfl,_,_,_,_,rfl,rfl,aV.of ha,wQ e2,_,_,_,_,rfl,rfl,fY.of Zr,rfl,rfl,_,rfl, ?_⟩
   by_cases q:x.1=y.1
   ·rw [show decide (V.int x.1=V.int y.1)=true by simp [q]]
    refine iY ?_;rw [decide_eq_true q,Bool.true_or] at es;rw [←es];exact k
   ·rw [show decide (V.int x.1=V.int y.1)=false by simp [q]]
    refine dJ ?_;rw [decide_eq_false q,Bool.false_or] at es;exact ⟨_,rfl,_,rfl,_,_,_,_,rfl,rfl,aV.of ha,wQ e1,_,rfl,_,rfl,_,_,_,_,rfl,rfl,aV.of ha,wQ e2,t1,t2,x,y,rfl,ht1,Zr,by rw [←es];exact k⟩
  ·rw [decide_eq_true (show (j:Int)<=(i:Int) by omega)]
   refine iY ?_;have es:vG ws i j=false:=by unfold vG;rw [decide_eq_false l,Bool.false_and]
   rw [←es];exact k
inductive wk (ws:List bM) (j:Nat):Nat->Prop
 | one {i:Nat} (h:vG ws i j=true):wk ws j i
 | more {i k:Nat} (h:vG ws i k=true) (r:wk ws j k):wk ws j i
theorem wk.lt {ws:List bM} {i j:Nat} (r:wk ws j i):i<j/\j<ws.length:=by
 induction r with
 | one h=>exact uI h
 | more h _ ih=>exact ⟨Nat.lt_trans (uI h).1 ih.1,ih.2⟩
abbrev Nt:=Int×Int×Int×Int
def nD (x:Nt):PyData:= .tuple [.int x.1,.int x.2.1,.int x.2.2.1,.int x.2.2.2]
def nV (x:Nt):List V:=[.int x.1,.int x.2.1,.int x.2.2.1,.int x.2.2.2]
theorem lC (x:Nt):R7 (nD x)=true:=rfl
theorem IV {H:Hp} {t:Addr} {x:Nt} (h:H t=some (.tup (nV x))):Dat H (.ref t) (nD x):=by
 simp only [nD,Dat];exact ⟨t,_,rfl,h,by simp only [nV,aM,Dat,and_self]⟩
theorem yU {H:Hp} {v:V} {x:Nt} (h:Dat H v (nD x)):∃t,v = .ref t/\H t=some (.tup (nV x)):=by
 simp only [nD,Dat] at h;obtain ⟨t,vs,e,q,d⟩:=h
 match vs,d with
 | [a,b,c,z],d=>
   simp only [aM,Dat,and_true] at d;obtain ⟨rfl,rfl,rfl,rfl⟩:=d;exact ⟨t,e,q⟩
 | [],d=>simp only [aM] at d
 | [_],d=>simp only [aM,and_false] at d
 | [_,_],d=>simp only [aM,and_false] at d
 | [_,_,_],d=>simp only [aM,and_false] at d
 | _::_::_::_::_::_,d=>simp only [aM,and_false] at d
def gD (H:Hp) (a:Addr) (ns:List Nt):Prop:=∃vs,H a=some (.lst vs)/\aM H vs (ns.map nD)
theorem gD.kp {H H':Hp} {a r:Addr} {ns:List Nt} (h:gD H a ns) (hr:∀a xs,H a=some (HO.tup xs)->H' a=some (HO.tup xs)) (k:Kp r H H') (n:a≠r):gD H' a ns:=by
 obtain ⟨vs,e,d⟩:=h;exact ⟨vs,k _ _ e n,aM.keep hr _ (bJ _ lC ns) d⟩
theorem gD.same {H H':Hp} {a:Addr} {ns:List Nt} (h:gD H a ns) (k:Same H H'):gD H' a ns:=by
 obtain ⟨vs,e,d⟩:=h;exact ⟨vs,k _ _ e,aM.keep k.tups _ (bJ _ lC ns) d⟩
theorem Ca {H:Hp} {vs:List V} {ns:List Nt} {i:Nat} {v:V} (d:aM H vs (ns.map nD)) (e:vs[i]? = some v):∃x t,ns[i]? = some x/\v = .ref t/\H t=some (.tup (nV x)):=by
 obtain ⟨q,eq,dq⟩:=d.get e;rw [List.getElem?_map] at eq;cases ex:ns[i]? with
 | none=>rw [ex] at eq;cases eq
 | some x=>
   rw [ex] at eq;cases eq;obtain ⟨t,rfl,ht⟩:=yU dq;exact ⟨x,t,rfl,rfl,ht⟩
def gI (cs:List Int) (h:Int):Int:=(cs[h.toNat]?).getD 0
theorem zB {cs:List Int} {h:Int} (h0:0<=h) (h1:h<cs.length):ug (cs.map V.int) h=some (.int (gI cs h)):=by
 obtain ⟨m,rfl⟩:=Int.eq_ofNat_of_zero_le h0;have:m<cs.length:=by (clear h0;omega)
 refine aU ?_;simp [gI,this]
theorem yN {cs:List Int} {i:Nat} {c:Int} (h:cs[i]? = some c):gI cs i=c:=by simp [gI,h]
theorem J3 {n:Nat} {i:Int} (h0:0<=i) (h1:i<n):Nr n i=some i.toNat:=by unfold Nr;rw [if_pos h0,if_pos h1]
theorem Cy {cs:List Int} {h k v:Int} (h0:0<=h) (h1:h<cs.length) (k0:0<=k):gI (cs.set h.toNat v) k=if k=h then v else gI cs k:=by
 unfold gI;rw [List.getElem?_set]
 by_cases e:k=h
 ·subst e
  have:k.toNat<cs.length:=by (clear h0;omega)
  simp [this]
 ·have:¬h.toNat=k.toNat:=by (clear h1;omega)
  simp [e,this]
def RJ (cs:List Int) (x:Nt):Prop:=(0<=x.1/\x.1<cs.length)/\(0<=x.2.1/\x.2.1<gI cs x.1)/\(0<=x.2.2.1/\x.2.2.1<cs.length)/\(0<=x.2.2.2/\x.2.2.2<gI cs x.2.2.1)/\x.1≠x.2.2.1
def RW (cs:List Int):Prop:=cs.length<=8 /\ ∀c∈cs,0<=c/\c<=300
theorem RW.gI {cs:List Int} (h:RW cs) (i:Int):0<=gI cs i/\gI cs i<=300:=by
 unfold Prf.gI;cases e:cs[i.toNat]? with
 | none=>simp
 | some c=>exact h.2 c (List.mem_of_getElem? e)
abbrev Sg:=Int×Int
def pD (x:Sg):PyData:= .tuple [.int x.1,.int x.2]
theorem Cr (x:Sg):R7 (pD x)=true:=rfl
theorem Vg {H:Hp} {t:Addr} {x:Sg} (h:H t=some (.tup [.int x.1,.int x.2])):Dat H (.ref t) (pD x):=by
 simp only [pD,Dat];exact ⟨t,_,rfl,h,by simp only [aM,Dat,and_self]⟩
theorem FZ {H:Hp} {v:V} {x:Sg} (h:Dat H v (pD x)):∃t,v = .ref t/\H t=some (.tup [.int x.1,.int x.2]):=by
 simp only [pD,Dat] at h;obtain ⟨t,vs,e,q,d⟩:=h
 match vs,d with
 | [a,b],d=>
   simp only [aM,Dat,and_true] at d;obtain ⟨rfl,rfl⟩:=d;exact ⟨t,e,q⟩
 | [],d=>simp only [aM] at d
 | [_],d=>simp only [aM,and_false] at d
 | _::_::_::_,d=>simp only [aM,and_false] at d
def m7 (H:Hp) (a:Addr) (ps:List Sg):Prop:=∃vs,H a=some (.lst vs)/\aM H vs (ps.map pD)
theorem m7.same {H H':Hp} {a:Addr} {ws:List Sg} (h:m7 H a ws) (k:Same H H'):m7 H' a ws:=by
 obtain ⟨vs,e,d⟩:=h;exact ⟨vs,k _ _ e,aM.keep k.tups _ (bJ _ Cr ws) d⟩
theorem m7.kp {H H':Hp} {a r:Addr} {ws:List Sg} {ys:List V} (h:m7 H a ws) (hr:H r=some (.lst ys)) (k:Kp r H H') (n:a≠r):m7 H' a ws:=by
 obtain ⟨vs,e,d⟩:=h;exact ⟨vs,k _ _ e n,aM.keep (k.tups hr) _ (bJ _ Cr ws) d⟩
def cnt (ws:List bM) (h:Int):Int:=((ws.filter fun x=>decide (x.1=h)).length:Int)
theorem iR (ws:List bM) (x:bM) (h:Int):cnt (ws++[x]) h=if h=x.1 then cnt ws h+1 else cnt ws h:=by
 unfold cnt;rw [List.filter_append,List.length_append]
 by_cases e:h=x.1
 ·subst e;simp
 ·rw [if_neg e]
  have:¬x.1=h:=fun z=>e z.symm;simp [this]
def hnd (ws:List bM) (i:Nat):Int:=match ws[i]? with |some x=>x.1|none=>0
theorem rM {ws:List bM} {i:Nat} {x:bM} (h:ws[i]? = some x):hnd ws i=x.1:=by unfold hnd;rw [h]
def nm (ws:List bM):List Sg:=(List.range ws.length).map fun i=>(hnd ws i,cnt (ws.take i) (hnd ws i))
theorem Uk (ws:List bM) (x:bM):nm (ws++[x])=nm ws++[(x.1,cnt ws x.1)]:=by
 unfold nm;rw [List.length_append,List.length_singleton,List.range_succ,List.map_append];congr 1
 ·refine List.map_congr_left fun i hi=> ?_
  have hi':i<ws.length:=by simpa using hi
  unfold hnd;rw [List.getElem?_append_left hi',List.take_append_of_le_length (by omega)]
 ·simp [hnd]
theorem Lx (ws:List bM):(nm ws).length=ws.length:=by unfold nm;simp
theorem O6 {ws:List bM} {j m:Nat} (r:wk ws j m):∃i,vG ws i j=true/\(m=i\/wk ws i m):=by
 induction r with
 | one h=>exact ⟨_,h,.inl rfl⟩
 | more h _ ih=>
   obtain ⟨i,st,q⟩:=ih;refine ⟨i,st,.inr ?_⟩;rcases q with rfl|q
   ·exact .one h
   ·exact .more h q
theorem O5 {ws:List bM} {i j m:Nat} (st:vG ws i j=true) (r:wk ws i m):wk ws j m:=by
 induction r with
 | one h=>exact .more h (.one st)
 | more h _ ih=>exact .more h ih
theorem jE (ws:List bM) (h:Int) (i:Nat):∀d:Nat,cnt (ws.take i) h<=cnt (ws.take (i+d)) h
 | 0=>Int.le_refl _
 | d+1=>by
   have ih:=jE ws h i d;have e:ws.take (i+(d+1))=ws.take (i+d)++(ws[i+d]?).toList:=by rw [←Nat.add_assoc,List.take_add_one]
   rw [e];cases ws[i+d]? with
   | none=>simpa using ih
   | some x=>
     show _<=cnt (ws.take (i+d)++[x]) h;rw [iR];split<;>(clear e;omega)
theorem jQ (ws:List bM) (h:Int):0<=cnt ws h:=by unfold cnt;omega
theorem H_ {ws:List bM} {i:Nat} {x:bM} (e:ws[i]? = some x):(nm ws)[i]? = some (x.1,cnt (ws.take i) x.1):=by
 have:i<ws.length:=(List.getElem?_eq_some_iff.mp e).1;unfold nm;rw [List.getElem?_map,List.getElem?_range this];simp only [Option.map_some,rM e]
theorem Hu {H:Hp} {a:Addr} {ps:List Sg} {i:Nat} {x:Sg} (h:m7 H a ps) (e:ps[i]? = some x):∃vs t,H a=some (.lst vs)/\vs[i]? = some (.ref t)/\H t=some (.tup [.int x.1,.int x.2]):=by
 obtain ⟨vs,ha,d⟩:=h;obtain ⟨v,ev,dv⟩:=d.getD (i:=i) (d:=pD x) (by rw [List.getElem?_map,e];rfl);obtain ⟨t,rfl,ht⟩:=FZ dv;exact ⟨vs,t,ha,ev,ht⟩
def mx (a b:Int):Int:=if b>a then b else a
theorem Qp {c a b:Int}:c<mx a b↔c<a\/c<b:=by unfold mx;split<;>omega
theorem aav {a b:Int} (h:0<=a):0<=mx a b:=by unfold mx;split<;>omega
def Bv (K:PySem.W.Frag):Sp:=fun vs H Q _=>∃(t d:Addr) (h k:Int) (g:Int->Int),vs=[.ref t,.ref d]/\H t=some (.tup [.int h,.int k])/\jT H d g/\Q (.bl (decide (k<g h))) H
theorem Qd {f:Addr} {fd:FuncData} (F:jW K "is_known" "is_known" fK f fd):cj P w K mg base gZ 1 f fd ["name","known"] (Bv K):=by
 refine F.ok DQ (fun vs H Q E h=> ?_) (fun cdv A outer s H vs Q E hr h=> ?_)
 ·obtain ⟨t,d,h,k,g,rfl,_⟩:=h
  rfl
 ·obtain ⟨t,d,h,k,g,rfl,ht,kd,q⟩:=h
  have hu:=J7 hr;refine ⟨_,(aH (bf (eX vI (aN (bL (K:=K) rfl) (pv 0) aG (fun _ _=>rfl)) (yp hu (pv 1) (aN (bL (K:=K) rfl) (pv 0) aG (fun _ _=>rfl)) aG ⟨rfl,rfl,rfl,rfl⟩) (bx _)))), ?_⟩;obtain ⟨kvs,hd,_,val⟩:=kd.get;refine ⟨_,rfl,_,_,_,_,rfl,rfl,fY.of ht,rfl,_,rfl,d,rfl,.inl ⟨_,.inl hd⟩,_,rfl,_,_,_,_,rfl,rfl,fY.of ht,rfl,_,zK.k (k:=Sum.inl h) hd, ?_⟩;rw [val h];exact ⟨_,_,rfl,rfl,q⟩
def Bu (K:PySem.W.Frag):Sp:=fun vs H Q _=>∃(d m:Addr) (g1 g2:Int->Int),vs=[.ref d,.ref m]/\jT H d g1/\jT H m g2/\d≠m /\ ∀H',jT H' d (fun h=>mx (g1 h) (g2 h))->Kp d H H'->Q .non H'
def Zv (hs:List Int) (g1 g2:Int->Int):Int->Int:=fun h=>if h∈hs then mx (g1 h) (g2 h) else g1 h
theorem Qc {f:Addr} {fd:FuncData} (F:jW K "learn" "learn" jY f fd) (Bt:oO mg):cj P w K mg base gZ 1 f fd ["known","more"] (Bu K):=by
 refine F.ok DN (fun vs H Q E h=> ?_) (fun cdv A outer s H vs Q E hr h=> ?_)
 ·obtain ⟨d,m,g1,g2,rfl,_⟩:=h
  rfl
 ·obtain ⟨d,m,g1,g2,rfl,k1,k2,ne,q⟩:=h
  have hu:=J7 hr
  refine ⟨_,(aH (Ti (gK PassesOwn.never rfl (Tv (pv 1)) (aX (i:=2) DN.nd rfl (Or.inl rfl))
   (aH (Tn hu (pv 0) (pv 2) (aQ (Ay rfl) (by rfl) Bt.Wd Rh (ao (yp hu (pv 0) (pv 2) aG ⟨rfl,rfl,rfl,rfl⟩) (ao (TJ hu (pv 1) (pv 2) (fun _ _=>rfl)) aA))) rfl))))), ?_⟩
  obtain ⟨hs,hm,nd,rg,zz⟩:=k2.ex;refine ⟨_,rfl,m,_,rfl,hm,fun o=> ?_⟩;have kf:Kp m H (upd H m (.oF o (.dK (zV hs g2)))):=Kp.set
  refine QX (fun i σ H2=>∃v:Option V,σ=[some (.ref d),some (.ref m),v]/\jT H2 d (Zv (hs.take i) g1 g2)/\H2 m=some (.oF o (.dK (zV hs g2)))/\Kp d (upd H m (.oF o (.dK (zV hs g2)))) H2)
   ⟨none,rfl,(k1.kp kf ne).ext (fun h=>by simp [Zv]),aq,Kp.refl _ _⟩ (fun i σ H2 _ ⟨_,_,_,e,_⟩=>e) ?_ ?_
  ·rintro i kk v σ H2 hi ⟨x,rfl,kd,fz,kp⟩
   have hi':(zV hs g2)[i]? = some (kk,v):=hi;unfold zV at hi';rw [List.getElem?_map] at hi';cases eh:hs[i]? with
   | none=>rw [eh] at hi';cases hi'
   | some h=>
     rw [eh] at hi';cases hi';have hm':h∈hs:=List.mem_of_getElem? eh;obtain ⟨h0,h1⟩:=rg h hm';have tk:hs.take (i+1)=hs.take i++[h]:=by rw [List.take_add_one,eh];rfl
     have nin:h∉hs.take i:=by
      intro z;have:(hs.take i++[h]).Nodup:=by rw [←tk];exact nd.sublist (List.take_sublist _ _)
      rw [List.nodup_append] at this;exact this.2.2 h z h (by simp) rfl
     obtain ⟨kvs,hd2,_,val⟩:=kd.get;have gi:Zv (hs.take i) g1 g2 h=g1 h:=by unfold Zv;rw [if_neg nin]
     refine ⟨_,rfl,d,rfl,.inl ⟨_,.inl hd2⟩,_,rfl,_,zK.k (k:=Sum.inl h) hd2, ?_⟩;rw [val h,gi];have gm:zK H2 m (kV (Sum.inl h)) (some (V.int (g2 h))):= .inl ⟨_,Sum.inl h,.inr ⟨o,fz⟩,rfl,by rw [Cm,if_pos hm']⟩;refine ⟨_,rfl,_,rfl,m,_,rfl,gm,_,_,rfl, ?_⟩;obtain ⟨kvs',hd3,hz,put⟩:=kd.put (v:=mx (g1 h) (g2 h)) h0 h1 (aav (k1.nn h));refine ⟨_,rfl,_,rfl,d,_,rfl,RV.k (k:=Sum.inl h) hd3 hz, ?_⟩;refine ⟨_,rfl,(put _ aq).ext fun x=> ?_,by rw [aO ne.symm];exact fz,kp.trans Kp.set⟩;unfold FJ Zv;rw [tk]
     by_cases e:x=h
     ·subst e;simp
     ·simp [e]
  ·rintro σ H2 ⟨x,rfl,kd,fz,kp⟩
   refine ⟨_,⟨m,_,o,_,hm,fz,rfl⟩, ?_⟩;have kt:Kp m H2 (upd H2 m (.dK (zV hs g2))):=Kp.set;refine q _ ((kd.kp kt ne).ext fun h=> ?_) fun b u e nb=> ?_
   ·have el:hs.take (zV hs g2).length=hs:=by rw [zV,List.length_map,List.take_length]
    rw [el];unfold Zv
    by_cases hh:h∈hs
    ·rw [if_pos hh]
    ·rw [if_neg hh,zz h hh]
     have:=k1.nn h;unfold mx;rw [if_neg (by (clear hh el fz hm hu ne;omega))]
   ·by_cases eb:b=m
    ·subst eb
     rw [hm] at e;rw [aq];exact e
    ·rw [aO eb]
     exact kp _ _ (by rw [aO eb];exact e) nb
def Vs (ws:List bM) (g:Int->Int) (R:Nat->Prop):Prop:=∀m x,ws[m]? = some x->(cnt (ws.take m) x.1<g x.1↔R m)
def qN (ws:List bM) (j:Nat) (g:Int->Int):Prop:=Vs ws g (fun m=>m=j\/wk ws j m) /\ ∀h,g h<=cnt (ws.take (j+1)) h
def Kz (ws:List bM) (j lo m:Nat):Prop:=∃x,lo<=x/\vG ws x j=true/\(m=x\/wk ws x m)
def Bare (ws:List bM) (j e:Nat):Prop:=vG ws e j=true /\ ¬Kz ws j (e+1) e
noncomputable instance (ws:List bM) (j e:Nat):Decidable (Bare ws j e):=Classical.propDecidable _
theorem K3 {ws:List bM} {a b c:Nat} (h:wk ws b a) (g:wk ws c b):wk ws c a:=by
 induction h with
 | one h=>exact .more h g
 | more h _ ih=>exact .more h ih
theorem Vs.iff {ws:List bM} {g:Int->Int} {R S:Nat->Prop} (h:Vs ws g R) (e:∀m,R m↔S m):Vs ws g S:=fun m x ex=>(h m x ex).trans (e m)
theorem Gb {ws:List bM} {j e m:Nat} (h:¬vG ws e j=true):Kz ws j (e+1) m↔Kz ws j e m:=by
 constructor
 ·rintro ⟨x,a,b,c⟩
  exact ⟨x,by omega,b,c⟩
 ·rintro ⟨x,a,b,c⟩
  have:x≠e:=fun z=>h (z▸b);exact ⟨x,by omega,b,c⟩
theorem Mx {ws:List bM} {j e m:Nat} (k:Kz ws j (e+1) e):Kz ws j (e+1) m↔Kz ws j e m:=by
 constructor
 ·rintro ⟨x,a,b,c⟩
  exact ⟨x,by omega,b,c⟩
 ·rintro ⟨x,a,b,c⟩
  by_cases z:x=e
  ·subst z
   obtain ⟨y,y1,y2,y3⟩:=k;have r:wk ws y x:=y3.resolve_left (by (clear y3 y2 a c b;omega));rcases c with c|c
   ·subst c;exact ⟨y,y1,y2,.inr r⟩
   ·exact ⟨y,y1,y2,.inr (K3 c r)⟩
  ·exact ⟨x,by omega,b,c⟩
theorem Kg {ws:List bM} {j e m:Nat} (h:vG ws e j=true):(Kz ws j (e+1) m\/(m=e\/wk ws e m))↔Kz ws j e m:=by
 constructor
 ·rintro (⟨x,a,b,c⟩|c)
  ·exact ⟨x,by omega,b,c⟩
  ·exact ⟨e,Nat.le_refl _,h,c⟩
 ·rintro ⟨x,a,b,c⟩
  by_cases z:x=e
  ·subst z;exact .inr c
  ·exact .inl ⟨x,by (clear c b h;omega),b,c⟩
theorem Ut {ws:List bM} {g g':Int->Int} {R S:Nat->Prop} (h:Vs ws g R) (h':Vs ws g' S):Vs ws (fun x=>mx (g x) (g' x)) fun m=>R m\/S m:=fun m x ex=>by
 show cnt _ _<mx _ _↔_;rw [Qp,h m x ex,h' m x ex]
theorem Kf {ws:List bM} {j m:Nat}:Kz ws j 0 m↔wk ws j m:=by
 constructor
 ·rintro ⟨x,_,b,c|c⟩
  ·subst c;exact .one b
  ·exact O5 b c
 ·intro r
  obtain ⟨i,s,q⟩:=O6 r;exact ⟨i,Nat.zero_le _,s,q⟩
theorem Us {ws:List bM} {j:Nat} {y:bM} {g:Int->Int} (h:Vs ws g (wk ws j)) (bd:∀h,g h<=cnt (ws.take j) h) (ey:ws[j]? = some y):qN ws j (fun x=>mx (g x) (if x=y.1 then cnt (ws.take j) y.1+1 else 0)):=by
 have tk:ws.take (j+1)=ws.take j++[y]:=by rw [List.take_add_one,ey];rfl
 refine ⟨?_,fun h=> ?_⟩
 rotate_left
 ·have b1:=bd h
  have b2:=jQ (ws.take j) h;rw [tk,iR];show mx _ _<=_;unfold mx
  by_cases e:h=y.1
  ·rw [if_pos e,if_pos e];subst e;split<;>(clear b2 tk ey;omega)
  ·rw [if_neg e,if_neg e];split<;>(clear e tk ey;omega)
 intro m x ex;show cnt _ _<mx _ _↔_;rw [Qp,h m x ex]
 by_cases e:x.1=y.1
 ·rw [if_pos e]
  constructor
  ·rintro (z|z)
   ·exact .inr z
   ·rw [e] at z
    by_cases l:m<=j
    ·by_cases em:m=j
     ·exact .inl em
     ·refine .inr (.one ?_)
      unfold vG Wv;rw [ex,ey,decide_eq_true (show m<j by (clear z e ex tk ey;omega))];simp [e]
    ·have:=jE ws y.1 (j+1) (m - (j+1))
     rw [show j+1+(m - (j+1))=m by (clear this z e ex tk ey;omega)] at this;have t:ws.take (j+1)=ws.take j++[y]:=by rw [List.take_add_one,ey];rfl
     rw [t,iR,if_pos rfl] at this;omega
  ·rintro (z|z)
   ·subst z
    rw [e];exact .inr (by (clear tk ey e ex;omega))
   ·exact .inl z
 ·rw [if_neg e]
  constructor
  ·rintro (z|z)
   ·exact .inr z
   ·have:=jQ (ws.take m) x.1;(clear e ex tk ey;omega)
  ·rintro (z|z)
   ·subst z
    rw [ex] at ey;cases ey;exact absurd rfl e
   ·exact .inl z
def lX (H:Hp) (kn:Addr) (ws:List bM) (n:Nat):Prop:=∃rs:List Addr,H kn=some (.lst (rs.map V.ref))/\rs.length=n /\ ∀j r,rs[j]? = some r -> ∃g,jT H r g/\qN ws j g
theorem lX.same {H H':Hp} {kn:Addr} {ws:List bM} {n:Nat} (h:lX H kn ws n) (k:Same H H'):lX H' kn ws n:=by
 obtain ⟨rs,e,l,q⟩:=h;refine ⟨rs,k _ _ e,l,fun j r hj=> ?_⟩;obtain ⟨g,a,b⟩:=q j r hj;exact ⟨g,a.same k,b⟩
theorem lX.kp {H H':Hp} {kn r:Addr} {ys:List V} {ws:List bM} {n:Nat} (h:lX H kn ws n) (k:Kp r H H') (hr:H r=some (.lst ys)) (ne:kn≠r):lX H' kn ws n:=by
 obtain ⟨rs,e,l,q⟩:=h;refine ⟨rs,k _ _ e ne,l,fun j r' hj=> ?_⟩;obtain ⟨g,a,b⟩:=q j r' hj;obtain ⟨hs,e',_⟩:=a.ex;exact ⟨g,a.kp k (jx e' hr (by intro z;cases z)),b⟩
noncomputable def eN (ws:List bM) (j i:Nat):List Nat:=((List.range i).map fun t=>j - 1 - t).filter fun e=>decide (Bare ws j e)
theorem zy (ws:List bM) (j i:Nat):eN ws j (i+1)=eN ws j i++(if Bare ws j (j - 1 - i) then [j - 1 - i] else []):=by
 unfold eN;rw [List.range_succ,List.map_append,List.filter_append];congr 1
 by_cases h:Bare ws j (j - 1 - i)<;>simp [h]
theorem m6 (ws:List bM) (j i:Nat):(eN ws j i).length<=i:=by
 unfold eN;exact Nat.le_trans (List.length_filter_le _ _) (by simp)
def d_ (l:List Nat):List V:=l.map fun n:Nat=>V.int (n:Int)
def G_ (K:PySem.W.Frag):Sp:=fun vs H Q _=>∃(a nd kn:Addr) (ws:List bM) (j:Nat),vs=[.ref a,.ref nd,.ref kn,.int j]/\dX H a ws/\m7 H nd (nm ws)/\lX H kn ws j/\j<ws.length/\ws.length<=300/\(∀x∈ws,0<=x.1/\x.1<8) /\
 ∀(p b d:Addr) (g:Int->Int) (H':Hp),H' p=some (.tup [.ref b,.ref d])->H' b=some (.lst (d_ (eN ws j j)))->jT H' d g->qN ws j g->H b=none->H d=none->H p=none->Same H H'->Q (.ref p) H'
theorem Qx {H:Hp} {d:Addr} (h:H d=some (.dK [])):jT H d fun _=>0:=⟨⟨[],h,List.nodup_nil,fun _ z=>absurd z (by simp),fun _ _=>rfl⟩,fun _=>Int.le_refl _⟩
theorem Ug {f:Addr} {fd:FuncData} (F:jW K "bare_steps" "bare_steps" dR f fd) (Nj:FnAt P w K mg base 2 "is_step" ["web","place","later"] (G7 K)) (Jm:FnAt P w K mg base 1 "is_known" ["name","known"] (Bv K)) (Kw:FnAt P w K mg base 1 "learn" ["known","more"] (Bu K)) (Bt:oO mg):cj P w K mg base gZ 3 f fd ["web","named","knowns","place"] (G_ K):=by
 refine F.ok jt (fun vs H Q E h=> ?_) (fun cdv A outer s H vs Q E hr h=> ?_)
 ·obtain ⟨a,nd,kn,ws,j,rfl,_⟩:=h
  rfl
 ·obtain ⟨a,nd,kn,ws,j,rfl,W,N,Kn,jl,wl,VR,k⟩:=h
  have hu:=J7 hr
  refine ⟨_,(aD (bw (i:=4) jt.nd rfl (Or.inl rfl) (bV aA))
   (aD (bw (i:=5) jt.nd rfl (Or.inl rfl) Ef)
   (aD (gK PassesOwn.never rfl (Ah (by rfl) Bt.fP (ao (bC Hx (pv 3) aG) (ao (yj qY aG) (ao (yj qY aG) aA)))) (aX (i:=6) jt.nd rfl (Or.inl rfl))
   (aH (cW (PW.pt (BX (fB (bD Nj (hr.mono (by decide)) (by rfl) (ao (pv 0) (ao (pv 6) (ao (pv 3) aA))))) (wJ (fZ (fB (bD Jm (hr.mono (by decide)) (by rfl) (ao (aN (aJ (K:=K) rfl) (pv 1) (pv 6) (fun _ _=>rfl)) (ao (pv 5) aA)))))))) (aD (cg (dz (K:=K) rfl (pv 4) (ao (pv 6) aA)))
   (aH (cg (bD Kw (hr.mono (by decide)) (by rfl) (ao (pv 5) (ao (aN (aJ (K:=K) rfl) (pv 2) (pv 6) (fun _ _=>rfl)) aA)))))) bF)))
   (aD (cg (bD Kw (hr.mono (by decide)) (by rfl) (ao (pv 5) (ao (TF (Pg (aN (bL (K:=K) rfl) (aN (aJ (K:=K) rfl) (pv 1) (pv 3) (fun _ _=>rfl)) aG (fun _ _=>rfl)) (bC gb (aN (bL (K:=K) rfl) (aN (aJ (K:=K) rfl) (pv 1) (pv 3) (fun _ _=>rfl)) aG (fun _ _=>rfl)) aG) Tp) rfl rfl (by simp) (by decide)) aA))))
   (aH (bf (jN (ao (pv 4) (ao (pv 5) aA))))))))), ?_⟩
  refine ⟨(by show 0<=sizeLine;decide),fun b hb=> ?_⟩;have s1:=aF (o:=HO.lst []) hb;intro d hd;have s2:=aF (o:=HO.dK []) hd;have s12:=s1.trans s2;have hd0:H d=none:=s1.free hd;have Ez:b≠d:=aB aq hd;refine ⟨_,rfl,_,_,rfl,rfl,_,rfl,_,rfl,(j:Int) - 1, -1,rfl,⟨by (clear Ez hd0 hd hb hu wl jl;omega),by (clear Ez hd0 hd hb hu;omega),by (clear Ez hd0 hd hb hu wl jl;omega),by (clear Ez hd0 hd hb hu wl jl;omega)⟩, ?_⟩;have en:((j:Int) - 1 - (-1)).toNat=j:=by (clear Ez hd0 hd hb hu wl jl;omega)
  rw [en]
  refine yO (hi:=(j:Int) - 1) (n:=j) (fun i σ H2=>∃(x1:Option V) (g:Int->Int),σ=[some (.ref a),some (.ref nd),some (.ref kn),some (.int j),some (.ref b),some (.ref d),x1]/\Same H H2/\H2 b=some (.lst (d_ (eN ws j i)))/\jT H2 d g/\Vs ws g (Kz ws j (j - i)) /\ ∀h,g h<=cnt (ws.take j) h)
   ⟨none,fun _=>0,rfl,s12,s2 _ _ (by rw [aq];rfl),Qx aq,⟨fun m x ex=>⟨fun z=> ?_,fun ⟨x,x1,x2,_⟩=> ?_⟩,fun h=>jQ _ _⟩⟩ ?_ ?_
  ·have:=jQ (ws.take m) x.1
   have z:cnt (ws.take m) x.1<0:=z;omega
  ·have:=(uI x2).1
   omega
  ·rintro i σ H2 hi ⟨x1,g,rfl,sm,hb2,kd,kp,bd⟩
   have ee:(j:Int) - 1 - (i:Int)=((j - 1 - i:Nat):Int):=by (clear hb2 en Ez hd0 hd hb hu wl jl;omega)
   rw [ee];have bs:=zy ws j i;have bl:=m6 ws j i;generalize he:j - 1 - i=e at bs;have el:e<ws.length:=by (clear bs bl ee hb2 hi en Ez hd0 hd hb hu wl;omega)
   have e1:j - i=e+1:=by (clear el bs bl ee hb2 en Ez hd0 hd hb hu wl jl;omega)
   have e2:j - (i+1)=e:=by (clear e1 el bs bl ee hb2 hi en Ez hd0 hd hb hu wl jl;omega)
   rw [e1] at kp;rw [e2];obtain ⟨x,ex⟩:∃x,ws[e]? = some x:=⟨ws[e],by simp [el]⟩;refine ⟨_,rfl,_,rfl,_,rfl,a,ws,e,j,rfl,W.same sm,el,jl,_,rfl, ?_⟩
   by_cases st:vG ws e j=true
   ·rw [st]
    refine iY ?_;obtain ⟨ns,t,hn,en,ht⟩:=Hu (N.same sm) (H_ ex);refine ⟨_,rfl,_,rfl,_,_,_,_,rfl,rfl,aV.of hn,aU en,_,rfl,t,d,_,_,g,rfl,ht,kd,_,rfl, ?_⟩;have kx:=kp e x ex
    by_cases kk:Kz ws j (e+1) e
    ·rw [decide_eq_true (kx.mpr kk)]
     refine dJ ?_;have nb:¬Bare ws j e:=fun z=>z.2 kk;rw [if_neg nb,List.append_nil] at bs;exact ⟨_,g,rfl,sm,by rw [bs];exact hb2,kd,kp.iff fun m=>Mx kk,bd⟩
    ·rw [decide_eq_false (fun z=>kk (kx.mp z))]
     refine iY ?_;have nb:Bare ws j e:=⟨st,kk⟩;rw [if_pos nb] at bs;refine ⟨_,rfl,.inl ⟨rfl,_,aV.of hb2⟩,_,rfl,b,_,_,rfl,rfl,hb2,by rw [d_,List.length_map,sizeLine_eq];(clear kk kx ht en hn st ex e2 e1 el bs he ee hb2 Ez hd0 hd hb hu;omega), ?_⟩;have k3:Kp b H2 (upd H2 b (.lst (d_ (eN ws j i)++[V.int (e:Int)]))):=Kp.set;obtain ⟨rs,hk,rl,rq⟩:=id (Kn.same sm);have er:e<rs.length:=by (clear hk kk kx ht en hn st ex e2 e1 el bs bl ee hb2 Ez hd0 hd hb hu wl jl;omega)
     obtain ⟨r,err⟩:∃r,rs[e]? = some r:=⟨rs[e],by simp [er]⟩;obtain ⟨ge,kde,kne⟩:=rq e r err
     have nkb:kn≠b:=by
      obtain ⟨_,hk0,_⟩:=Kn;exact aB hk0 hb
     obtain ⟨_,Ys,_⟩:=kde.ex;have nrb:r≠b:=jx Ys hb2 (by intro z;cases z)
     have nrd:d≠r:=by
      obtain ⟨rs0,hk0,_,rq0⟩:=Kn
      have er0:rs=rs0:=by
       have:=(sm _ _ hk0).symm.trans hk;injection this with this
       injection this with this
       exact (List.map_inj_right (fun x y e=>by injection e)).mp this.symm
      subst er0;obtain ⟨g0,kd0,_⟩:=rq0 e r err;obtain ⟨_,h0,_⟩:=kd0.ex;exact (aB h0 hd0).symm
     have hk3:=k3 _ _ hk nkb;have kd3:=kd.kp k3 Ez.symm;have ahv:=kde.kp k3 nrb;refine ⟨_,rfl,_,rfl,_,rfl,_,_,_,_,rfl,rfl,aV.of hk3,aU (by rw [List.getElem?_map,err];rfl),d,r,g,ge,rfl,kd3,ahv,nrd,fun H4 kd4 k4=> ?_⟩;refine ⟨_,_,rfl,fun y u hy=>k4 _ _ (k3 _ _ (sm _ _ hy) (aB hy hb)) (aB hy hd0), ?_,kd4, ?_,fun h=> ?_⟩
     ·have:=k4 _ _ (aq (H:=H2) (a:=b) (o:= .lst (d_ (eN ws j i)++[V.int (e:Int)]))) Ez
      rw [this,bs];unfold d_;rw [List.map_append];rfl
     ·exact (Ut kp kne.1).iff fun m=>Kg st
     ·have b1:=bd h
      have b2:=kne.2 h;have b3:=jE ws h (e+1) (j - (e+1));rw [show e+1+(j - (e+1))=j by (clear b3 b2 b1 hk3 nrd nrb Ys nkb err er rl hk kk kx ht en hn st ex e2 e1 el bs bl ee hb2 Ez hd0 hd hb hu wl jl;omega)] at b3;show mx _ _<=_;unfold mx;split<;>(clear hk3 nrd nrb Ys nkb err er rl hk kk kx ht en hn st ex e2 e1 el bs he bl ee hb2 hi Ez hd0 hd hb hu wl jl;omega)
   ·have st':vG ws e j=false:=by simpa using st
    rw [st'];refine dJ ?_;have nb:¬Bare ws j e:=fun z=>st z.1;rw [if_neg nb,List.append_nil] at bs;exact ⟨_,g,rfl,sm,by rw [bs];exact hb2,kd,kp.iff fun m=>Gb st,bd⟩
  ·rintro σ H2 ⟨x1,g,rfl,sm,hb2,kd,kp,bd⟩
   rw [Nat.sub_self] at kp;obtain ⟨y,ey⟩:∃y,ws[j]? = some y:=⟨ws[j],by simp [jl]⟩;obtain ⟨y0,y1⟩:=VR y (List.mem_of_getElem? ey);obtain ⟨ns,t,hn,en,ht⟩:=Hu (N.same sm) (H_ ey);refine ⟨_,rfl,fun m hm=> ?_⟩;have s3:=aF (o:=HO.dK []) hm;refine ⟨_,rfl,_,rfl,_,_,_,_,rfl,rfl,aV.of (s3 _ _ hn),aU en,_,_,_,_,rfl,rfl,fY.of (s3 _ _ ht),rfl,_,rfl,_,rfl,_,_,_,_,rfl,rfl,aV.of (s3 _ _ hn),aU en,_,_,_,_,rfl,rfl,fY.of (s3 _ _ ht),rfl,_,_,rfl,rfl,aq,[(Sum.inl y.1,V.int (cnt (ws.take j) y.1+1))],rfl,by show 1<=15;decide, ?_⟩
   have e1:upd (upd H2 m (.dK [])) m (.dK (uW [] [(Sum.inl y.1,V.int (cnt (ws.take j) y.1+1))]))=upd H2 m (.dK (zV [y.1] fun x=>if x=y.1 then cnt (ws.take j) y.1+1 else 0)):=by
    rw [Ss];congr 2;show [(Sum.inl y.1,V.int (cnt (ws.take j) y.1+1))]=_;simp [zV]
   rw [e1];have s4:Same H2 (upd H2 m (.dK (zV [y.1] fun x=>if x=y.1 then cnt (ws.take j) y.1+1 else 0))):=aF hm
   have hmd:d≠m:=by
    obtain ⟨_,h,_⟩:=kd.ex;exact aB h hm
   have kdm:jT (upd H2 m (.dK (zV [y.1] fun x=>if x=y.1 then cnt (ws.take j) y.1+1 else 0))) m (fun x=>if x=y.1 then cnt (ws.take j) y.1+1 else 0):=by
    refine ⟨⟨[y.1],aq,by simp,fun h hh=> ?_,fun h hh=> ?_⟩,fun h=> ?_⟩
    ·have:h=y.1:=by simpa using hh
     subst this;exact ⟨y0,y1⟩
    ·have:h≠y.1:=by simpa using hh
     rw [if_neg this]
    ·have:=jQ (ws.take j) y.1
     show (0:Int)<=if h=y.1 then _ else 0;split<;>(clear hmd e1 hm ht en hn y1 y0 ey hb2 Ez hd0 hd hb hu wl jl;omega)
   refine ⟨d,m,g,_,rfl,kd.same s4,kdm,hmd,fun H5 kd5 k5=> ?_⟩;have hb5:H5 b=some (.lst (d_ (eN ws j j))):=k5 _ _ (s4 _ _ hb2) Ez;refine ⟨_,rfl,_,rfl,(by show 2<=sizeLine;decide),fun p hp=> ?_⟩;have s6:=aF (o:=HO.tup [V.ref b,V.ref d]) hp;have s05:Same H H5:=fun y u hy=>k5 _ _ (s4 _ _ (sm _ _ hy)) (aB hy hd0);exact k p b d _ _ aq (s6 _ _ hb5) (kd5.same s6) (Us (kp.iff fun m=>Kf) bd ey) hb hd0 (s05.free hp) (s05.trans s6)
def nK (x:Nt):List Int:=[x.1,x.2.1,x.2.2.1,x.2.2.2]
theorem XS (x:Nt):(nK x).map V.int=nV x:=rfl
theorem X5 {x y:Nt} (h:nK x=nK y):x=y:=by
 obtain ⟨a,b,c,d⟩:=x;obtain ⟨a',b',c',d'⟩:=y;simp only [nK,List.cons.injEq,and_true] at h;obtain ⟨rfl,rfl,rfl,rfl⟩:=h;rfl
def wu (ns:List Nt):Prop:=ns.Pairwise fun x y=>Tim.jy (nK y) (nK x)=false
theorem kI:∀{a b:List Nt},a.Perm b->wu a->wu b->a=b
 | [],_,p,_,_=>p.nil_eq
 | x::r,b,p,ha,hb=>by
   cases b with
   | nil=>exact absurd p.length_eq (by simp)
   | cons y t=>
     have hx:x∈y::t:=p.mem_iff.mp (.head _);have hy:y∈x::r:=p.mem_iff.mpr (.head _)
     have e:x=y:=by
      rcases List.mem_cons.mp hx with h|h
      ·exact h
      ·rcases List.mem_cons.mp hy with h'|h'
       ·exact h'.symm
       ·exact X5 (Tim.Fg _ _ ((List.pairwise_cons.mp hb).1 x h) ((List.pairwise_cons.mp ha).1 y h'))
     subst e;rw [kI (List.perm_cons _ |>.mp p) (List.pairwise_cons.mp ha).2 (List.pairwise_cons.mp hb).2]
def vInt:V->Int
 | .int n=>n
 | _=>0
def tupK (H:Hp) (v:V):List Int:=match v with
 | .ref t=>match H t with
   | some (.tup xs)=>xs.map vInt
   | _=>[]
 | _=>[]
def toN:List Int->Nt
 | [a,b,c,d]=>(a,b,c,d)
 | _=>(0,0,0,0)
theorem qj {H:Hp} {t:Addr} {x:Nt} (h:H t=some (.tup (nV x))):tupK H (.ref t)=nK x:=by
 unfold tupK;dsimp only;rw [h];rfl
theorem Ol (x:Nt):toN (nK x)=x:=rfl
theorem JN {H:Hp} {vs:List V} {ns:List Nt} (d:aM H vs (ns.map nD)) {v:V} (hv:v∈vs):∃t x,v = .ref t/\x∈ns/\H t=some (.tup (nV x)):=by
 obtain ⟨i,hi,e⟩:=List.getElem_of_mem hv;obtain ⟨x,t,ex,ev,ht⟩:=Ca d (i:=i) (v:=v) (by rw [List.getElem?_eq_getElem hi,e]);exact ⟨t,x,ev,List.mem_of_getElem? ex,ht⟩
theorem JQ {H:Hp}:∀{vs:List V} {ns:List Nt},aM H vs (ns.map nD)->vs.map (fun v=>toN (tupK H v))=ns
 | [],[],_=>rfl
 | [],_::_,h=>by simp only [List.map_cons,aM] at h
 | _::_,[],h=>by simp only [List.map_nil,aM] at h
 | v::vs,n::ns,h=>by
   simp only [List.map_cons,aM] at h;obtain ⟨t,rfl,ht⟩:=yU h.1;rw [List.map_cons,JQ h.2,qj ht,Ol]
theorem Qi {H:Hp}:∀{vs:List V},(∀v∈vs,∃t x,v=V.ref t/\H t=some (.tup (nV x)))->aM H vs ((vs.map fun v=>toN (tupK H v)).map nD)
 | [],_=>by simp [aM]
 | v::vs,h=>by
   obtain ⟨t,x,rfl,ht⟩:=h v (.head _);simp only [List.map_cons,aM];exact ⟨by rw [qj ht,Ol];exact IV ht,Qi fun v hv=>h v (.tail _ hv)⟩
theorem sV {K:PySem.W.Frag} {H:Hp} {p:Addr} {ns:List Nt} {Q:VK} (N:gD H p ns) (k:∀l ns' H',H l=none->gD H' l ns'->ns'.Perm ns->wu ns'->Same H H'->Q (.ref l) H'):Ht K [.ref p] H Q:=by
 obtain ⟨ys,hp,d⟩:=N;refine ⟨p,ys,4,tupK H,rfl,aV.of hp,by decide,fun y hy=> ?_,fun l zs hl pz sz=> ?_⟩
 ·obtain ⟨t,x,rfl,_,ht⟩:=JN d hy
  exact ⟨t,rfl,by rw [qj ht,XS];exact fY.of ht,by rw [qj ht];rfl⟩
 ·have sm:=aF (o:=HO.lst zs) hl
  have all:∀v∈zs,∃t x,v=V.ref t/\H t=some (.tup (nV x)):=fun v hv=>by
   obtain ⟨t,x,e,_,ht⟩:=JN d (pz.mem_iff.mp hv);exact ⟨t,x,e,ht⟩
  refine k l (zs.map fun v=>toN (tupK H v)) _ hl ⟨zs,aq,aM.keep sm.tups _ (bJ _ lC _) (Qi all)⟩ ?_ ?_ sm
  ·rw [←JQ d]
   exact pz.map _
  ·unfold wu
   rw [List.pairwise_map];refine List.Pairwise.imp_of_mem (fun {x y} hx hy h=> ?_) sz;obtain ⟨t,a,rfl,ht⟩:=all x hx;obtain ⟨u,b,rfl,hu⟩:=all y hy;rw [qj ht,qj hu] at h ⊢;exact h
def lu (ws:List bM) (i j:Nat):Nt:=(hnd ws i,cnt (ws.take i) (hnd ws i),hnd ws j,cnt (ws.take j) (hnd ws j))
def cI (ws:List bM) (j:Nat) (l:List Nat):List Nt:=(l.filter fun e=>decide (¬hnd ws e=hnd ws j)).map fun e=>lu ws e j
def uL (K:PySem.W.Frag):Sp:=fun vs H Q _=>∃(nd b t:Addr) (ws:List bM) (j:Nat) (l:List Nat),vs=[.ref nd,.ref b,.ref t]/\m7 H nd (nm ws)/\H b=some (.lst (d_ l))/\H t=some (.tup [.int (hnd ws j),.int (cnt (ws.take j) (hnd ws j))])/\(∀e∈l,e<ws.length)/\l.length<=300 /\
 ∀(r:Addr) (H':Hp),H r=none->gD H' r (cI ws j l)->Same H H'->Q (.ref r) H'
theorem YB {α β:Type} (l:List α) (f:α->Option β):(List.range l.length).filterMap (fun i=>(l[i]?).bind f)=l.filterMap f:=by
 induction l with
 | nil=>rfl
 | cons x l ih=>
   rw [List.length_cons,List.range_succ_eq_map,List.filterMap_cons,List.filterMap_map,List.filterMap_cons];have e:List.filterMap ((fun i=>((x::l)[i]?).bind f)∘Nat.succ) (List.range l.length)=l.filterMap f:=by rw [←ih];rfl
   rw [e];rfl
theorem HX (ws:List bM) (j:Nat) (l:List Nat):(l.filterMap fun e=>if hnd ws e=hnd ws j then none else some (nD (lu ws e j)))=(cI ws j l).map nD:=by
 unfold cI
 induction l with
 | nil=>rfl
 | cons e l ih=>
   rw [List.filterMap_cons,List.filter_cons]
   by_cases h:hnd ws e=hnd ws j
   ·rw [if_pos h]
    simp only [h,not_true_eq_false,decide_false,Bool.false_eq_true,if_false];exact ih
   ·rw [if_neg h]
    simp only [h,not_false_eq_true,decide_true,if_true,List.map_cons];rw [ih]
theorem HJ {f:Addr} {fd:FuncData} (F:jW K "notes_to" "notes_to" fH f fd):cj P w K mg base gZ 1 f fd ["named","bare","name"] (uL K):=by
 refine F.ok DK (fun vs H Q E h=> ?_) (fun cdv A outer s H vs Q E hr h=> ?_)
 ·obtain ⟨nd,b,t,ws,j,l,rfl,_⟩:=h
  rfl
 ·obtain ⟨nd,b,t,ws,j,l,rfl,N,hb,ht,el,ll,k⟩:=h
  refine ⟨_,(aH (bf (eV rfl (N:=["earlier","name","named"]) (own:=["earlier"]) (caps:=[2,0]) (bh.of (by kernel_rfl)) (cJ (K:=K) rfl (pv 1)) (fun _ _ _ _=>(aX (i:=0) (show List.Nodup (["earlier","name","named"]:List Str) by decide +kernel) rfl (Or.inl rfl))) (fun _ _ _ _=>(tE (bB k_ (aN (bL (K:=K) rfl) (aN (aJ (K:=K) rfl) (pv 2) (pv 0) (fun _ _=>rfl)) aG (fun _ _=>rfl)) (aN (bL (K:=K) rfl) (pv 1) aG (fun _ _=>rfl)) (bx _)))) (fun _ _ _ _=>(bC (PJ (K:=K) rfl) (aN (aJ (K:=K) rfl) (pv 2) (pv 0) (fun _ _=>rfl)) (pv 1)))))), ?_⟩;have il:(d_ l).length=l.length:=by rw [d_,List.length_map]
  refine ⟨_,rfl,b,rfl,⟨_,aV.of hb⟩,fun D hD=> ?_⟩;refine MP (K:=K) (xs:=d_ l) (fun i=>(l[i]?).bind fun e=>if hnd ws e=hnd ws j then none else some (nD (lu ws e j))) (fun i d h=> ?_) hD (aV.of hb) (by (clear hD ht hb;omega)) (fun i x H2 G F hi s2 kG kF=> ?_) (fun H2 vs s2 e2 d2=> ?_)
  ·cases e:l[i]? with
   | none=>rw [e] at h;cases h
   | some z=>
     rw [e] at h;simp only [Option.bind_some] at h;split at h
     ·cases h
     ·cases h;rfl
  ·unfold d_ at hi
   rw [List.getElem?_map] at hi;cases e:l[i]? with
   | none=>rw [e] at hi;cases hi
   | some z=>
     rw [e] at hi;cases hi;have zl:=el z (List.mem_of_getElem? e);obtain ⟨x,ex⟩:∃x,ws[z]? = some x:=⟨ws[z],by simp [zl]⟩;have hx:=rM ex;obtain ⟨ns,tz,hn,en,htz⟩:=Hu (N.same s2) (H_ ex);rw [←hx] at htz;refine ⟨_,rfl,_,rfl,_,_,_,_,rfl,rfl,aV.of hn,aU en,_,_,_,_,rfl,rfl,fY.of htz,rfl,_,rfl,_,_,_,_,rfl,rfl,fY.of (s2 _ _ ht),rfl,rfl,_,rfl, ?_⟩
     by_cases eh:hnd ws z=hnd ws j
     ·rw [show (!decide (V.int (hnd ws z)=V.int (hnd ws j)))=false by simp [eh]]
      refine dJ ?_;exact kG _ (Same.refl _) (by rw [e];simp [eh])
     ·rw [show (!decide (V.int (hnd ws z)=V.int (hnd ws j)))=true by simp [eh]]
      refine iY ?_;refine ⟨_,rfl,_,rfl,_,_,_,_,rfl,rfl,aV.of hn,aU en,_,rfl,tz,t,_,_,rfl,rfl,fY.of htz,fY.of (s2 _ _ ht),by simp,by show 4<=sizeLine;decide,fun z=>absurd z (by simp),fun _ p hp=> ?_⟩;exact kF _ (nD (lu ws z j)) _ (aF hp) (by rw [e];simp [eh]) (IV (x:=lu ws z j) (by rw [aq];rfl))
  ·rw [il,YB,HX] at d2
   exact k D H2 hD ⟨vs,e2,d2⟩ s2
noncomputable def iU (ws:List bM) (n:Nat):List Nt:=(List.range n).flatMap fun j=>cI ws j (eN ws j j)
theorem qG (ws:List bM) (n:Nat):iU ws (n+1)=iU ws n++cI ws n (eN ws n n):=by
 unfold iU;rw [List.range_succ,List.flatMap_append];simp
theorem lO (ws:List bM) (j:Nat) (l:List Nat):(cI ws j l).length<=l.length:=by
 unfold cI;rw [List.length_map];exact List.length_filter_le _ _
theorem uh (ws:List bM):∀n,(iU ws n).length<=n*n
 | 0=>Nat.le_refl _
 | n+1=>by
   rw [qG,List.length_append];have h1:=uh ws n;have h2:=Nat.le_trans (lO ws n (eN ws n n)) (m6 ws n n);have:(n+1)*(n+1)=n*n+n+n+1:=by rw [Nat.add_mul,Nat.mul_add];(clear h2 h1;omega)
   omega
theorem Rv {ws:List bM} {j i e:Nat} (h:e∈eN ws j i):e<j\/j=0:=by
 unfold eN at h;obtain ⟨h1,_⟩:=List.mem_filter.mp h;obtain ⟨t,_,rfl⟩:=List.mem_map.mp h1;omega
def rR (ws:List bM) (hn:Nat) (row:List Int) (R:Nat->Prop) (B:Nat):Prop:=row.length=hn/\(∀m x,ws[m]? = some x->(cnt (ws.take m) x.1<gI row x.1↔R m)) /\ ∀h:Nat,0<=gI row (h:Int)/\gI row (h:Int)<=cnt (ws.take B) (h:Int)
theorem rR.mono {ws:List bM} {hn:Nat} {row:List Int} {R:Nat->Prop} {B B':Nat} (h:rR ws hn row R B) (l:B<=B'):rR ws hn row R B':=⟨h.1,h.2.1,fun x=>⟨(h.2.2 x).1,by
 have:=jE ws (x:Int) B (B' - B);rw [show B+(B' - B)=B' by omega] at this;exact Int.le_trans (h.2.2 x).2 this⟩⟩
def cZ (H:Hp) (t:Addr) (ex:List Addr) (n:Nat) (C:Hp->Nat->Addr->Prop):Prop:=∃rs:List Addr,H t=some (.lst (rs.map V.ref))/\rs.length=n /\ ∀j r,rs[j]? = some r->(∀e∈ex,r≠e)/\C H j r
def RowC (ws:List bM) (hn:Nat):Hp->Nat->Addr->Prop:=fun H j r=>∃a:List Int,H r=some (.lst (a.map V.int))/\rR ws hn a (fun m=>m=j\/wk ws j m) (j+1)
def BrC (ws:List bM):Hp->Nat->Addr->Prop:=fun H j r=>∃ns:List Nt,gD H r ns/\ns.Perm (cI ws j (eN ws j j))/\wu ns
def Keeps (C:Hp->Nat->Addr->Prop):Prop:=∀(H H':Hp) (j:Nat) (r:Addr),C H j r->(∃o,H r=some o)/\((∀a xs,H a=some (HO.tup xs)->H' a=some (HO.tup xs))->(∀o,H r=some o->H' r=some o)->C H' j r)
theorem fW (ws:List bM) (hn:Nat):Keeps (RowC ws hn):=fun H H' j r ⟨a,h,q⟩=>⟨⟨_,h⟩,fun _ k=>⟨a,k _ h,q⟩⟩
theorem pO (ws:List bM):Keeps (BrC ws):=fun H H' j r ⟨ns,⟨vs,h,d⟩,q⟩=>⟨⟨_,h⟩,fun t k=>⟨ns,⟨vs,k _ h,aM.keep t _ (bJ _ lC ns) d⟩,q⟩⟩
theorem cZ.same {H H':Hp} {t:Addr} {ex:List Addr} {n:Nat} {C:Hp->Nat->Addr->Prop} (kc:Keeps C) (h:cZ H t ex n C) (k:Same H H'):cZ H' t ex n C:=by
 obtain ⟨rs,e,l,q⟩:=h;exact ⟨rs,k _ _ e,l,fun j r hj=>⟨(q j r hj).1,((kc H H' j r (q j r hj).2).2 k.tups fun o ho=>k _ _ ho)⟩⟩
theorem cZ.kp {H H':Hp} {t x:Addr} {ys:List V} {ex:List Addr} {n:Nat} {C:Hp->Nat->Addr->Prop} (kc:Keeps C) (h:cZ H t ex n C) (k:Kp x H H') (hx:H x=some (.lst ys)) (ne:t≠x) (m:x∈ex):cZ H' t ex n C:=by
 obtain ⟨rs,e,l,q⟩:=h;exact ⟨rs,k _ _ e ne,l,fun j r hj=>⟨(q j r hj).1,((kc H H' j r (q j r hj).2).2 (k.tups hx) fun o ho=>k _ _ ho ((q j r hj).1 x m))⟩⟩
theorem cZ.move {H2 H':Hp} {t:Addr} {ex:List Addr} {n:Nat} {C:Hp->Nat->Addr->Prop} (kc:Keeps C) (h:cZ H2 t ex n C) (W:List Addr) (k:∀b o,H2 b=some o->b∉W->H' b=some o) (tw:t∉W) (hw:∀x∈W,x∈ex\/H2 x=none) (tp:∀a xs,H2 a=some (HO.tup xs)->H' a=some (HO.tup xs)):cZ H' t ex n C:=by
 obtain ⟨rs,e,l,q⟩:=h;refine ⟨rs,k _ _ e tw,l,fun j r hj=>⟨(q j r hj).1, ?_⟩⟩;have c:=(q j r hj).2;refine (kc H2 H' j r c).2 tp fun o ho=>k _ _ ho fun m=> ?_;rcases hw r m with z|z
 ·exact (q j r hj).1 r z rfl
 ·rw [ho] at z;cases z
theorem cZ.push {H:Hp} {t r:Addr} {ex:List Addr} {n:Nat} {C:Hp->Nat->Addr->Prop} (kc:Keeps C) (h:cZ H t ex n C) (te:t∈ex) (re:∀e∈ex,r≠e) (c:C H n r):∃rs:List Addr,H t=some (.lst (rs.map V.ref))/\rs.length=n/\cZ (upd H t (.lst (rs.map V.ref++[V.ref r]))) t ex (n+1) C:=by
 obtain ⟨rs,e,l,q⟩:=h;have k:Kp t H (upd H t (.lst (rs.map V.ref++[V.ref r]))):=Kp.set;have mv:∀j r',(∀e∈ex,r'≠e)->C H j r'->C (upd H t (.lst (rs.map V.ref++[V.ref r]))) j r':=fun j r' x c=>(kc _ _ j r' c).2 (k.tups e) fun o ho=>k _ _ ho (x t te);refine ⟨rs,e,l,rs++[r],by rw [aq,List.map_append];rfl,by simp [l],fun j r' hj=> ?_⟩
 by_cases hl:j<rs.length
 ·rw [List.getElem?_append_left hl] at hj
  exact ⟨(q j r' hj).1,mv _ _ (q j r' hj).1 (q j r' hj).2⟩
 ·have h2:=(List.getElem?_eq_some_iff.mp hj).1
  rw [List.length_append,List.length_singleton] at h2;have em:j=rs.length:=by (clear hj l e;omega)
  subst em;rw [List.getElem?_append_right (Nat.le_refl _)] at hj;simp at hj;subst hj;rw [l];exact ⟨re,mv _ _ re c⟩
def Uo (hn:Nat) (a b:List Int):List Int:=(List.range hn).map fun h:Nat=>mx (gI a (h:Int)) (gI b (h:Int))
theorem QV {hn:Nat} {a b:List Int} {h:Int} (h0:0<=h) (h1:h<hn):gI (Uo hn a b) h=mx (gI a h) (gI b h):=by
 obtain ⟨m,rfl⟩:=Int.eq_ofNat_of_zero_le h0;have hm:m<hn:=by (clear h0;omega)
 refine yN ?_;unfold Uo;rw [List.getElem?_map,List.getElem?_range hm];rfl
theorem OJ {ws:List bM} {hn B:Nat} {a b:List Int} {R S:Nat->Prop} (ok:∀x∈ws,0<=x.1/\x.1<(hn:Int)) (p:rR ws hn a R B) (q:rR ws hn b S B):rR ws hn (Uo hn a b) (fun m=>R m\/S m) B:=by
 refine ⟨by unfold Uo;simp,fun m x ex=> ?_,fun h=> ?_⟩
 ·obtain ⟨x0,x1⟩:=ok x (List.mem_of_getElem? ex)
  rw [QV x0 x1,Qp,p.2.1 m x ex,q.2.1 m x ex]
 ·by_cases hl:h<hn
  ·rw [QV (by omega) (by omega)]
   have p':=p.2.2 h;have q':=q.2.2 h;unfold mx;split<;>exact ⟨by omega,by omega⟩
  ·have e:gI (Uo hn a b) (h:Int)=0:=by
    unfold gI Uo;rw [Int.toNat_natCast,List.getElem?_eq_none (by simp;omega)];rfl
   rw [e];exact ⟨Int.le_refl _,jQ _ _⟩
theorem rR.iff {ws:List bM} {hn B:Nat} {a:List Int} {R S:Nat->Prop} (h:rR ws hn a R B) (e:∀m,R m↔S m):rR ws hn a S B:=⟨h.1,fun m x ex=>(h.2.1 m x ex).trans (e m),h.2.2⟩
theorem O1 {ws:List bM} {hn j:Nat} {a:List Int} {y:bM} (ok:∀x∈ws,0<=x.1/\x.1<(hn:Int)) (p:rR ws hn a (wk ws j) j) (ey:ws[j]? = some y):rR ws hn (a.set y.1.toNat (cnt (ws.take j) y.1+1)) (fun m=>m=j\/wk ws j m) (j+1):=by
 obtain ⟨y0,y1⟩:=ok y (List.mem_of_getElem? ey);have al:=p.1;refine ⟨by simp [al],fun m x ex=> ?_,fun h=> ?_⟩
 rotate_left
 ·have t:ws.take (j+1)=ws.take j++[y]:=by rw [List.take_add_one,ey];rfl
  have ph:=p.2.2 h;have c0:=jQ (ws.take j) y.1;rw [Cy y0 (by omega) (by omega),t,iR]
  by_cases e:(h:Int)=y.1
  ·rw [if_pos e,if_pos e,e]
   exact ⟨by omega,by omega⟩
  ·rw [if_neg e,if_neg e]
   exact ph
 obtain ⟨x0,x1⟩:=ok x (List.mem_of_getElem? ex);rw [Cy y0 (by (clear x1 x0 ex y0 ey;omega)) x0]
 by_cases e:x.1=y.1
 ·rw [if_pos e,e]
  by_cases l:m<=j
  ·have:=jE ws y.1 m (j - m)
   rw [show m+(j - m)=j by (clear this e x1 x0 ex al y1 y0 ey;omega)] at this;refine ⟨fun _=> ?_,fun _=>by (clear l e x1 x0 ex al y1 y0 ey;omega)⟩
   by_cases em:m=j
   ·exact .inl em
   ·refine .inr (.one ?_)
    unfold vG Wv;rw [ex,ey,decide_eq_true (show m<j by (clear this e x1 x0 ex al y1 y0 ey;omega))];simp [e]
  ·have:=jE ws y.1 (j+1) (m - (j+1))
   rw [show j+1+(m - (j+1))=m by (clear this e x1 x0 ex al y1 y0 ey;omega)] at this;have t:ws.take (j+1)=ws.take j++[y]:=by rw [List.take_add_one,ey];rfl
   rw [t,iR,if_pos rfl] at this;refine ⟨fun h=>by (clear t l e x1 x0 ex al y1 y0 ey;omega),fun h=> ?_⟩;rcases h with h|h
   · (clear t this e x1 x0 ex al y1 y0 ey;omega)
   ·have:=h.lt;(clear t e x1 x0 ex al y1 y0 ey;omega)
 ·rw [if_neg e,p.2.1 m x ex]
  constructor
  ·intro z;exact .inr z
  ·rintro (z|z)
   ·subst z
    rw [ex] at ey;cases ey;exact absurd rfl e
   ·exact z
theorem WW (hn:Int):(List.replicate hn.toNat [V.int 0]).flatten=(List.replicate hn.toNat (0:Int)).map V.int:=by
 generalize hn.toNat=n
 induction n with
 | zero=>rfl
 | succ n ih=>rw [List.replicate_succ,List.flatten_cons,ih,List.replicate_succ,List.map_cons];rfl
theorem Cz (n:Nat) (h:Int):gI (List.replicate n 0) h=0:=by unfold gI;rw [List.getElem?_replicate];split<;>rfl
def Ds (ws:List bM) (n:Nat):List Int:=(List.range n).map fun i=>cnt (ws.take i) (hnd ws i)
theorem Vi {ws:List bM} {n i:Nat} (h:i<n):(Ds ws n)[i]? = some (cnt (ws.take i) (hnd ws i)):=by
 unfold Ds;rw [List.getElem?_map,List.getElem?_range h];rfl
theorem Rf (ws:List bM) (n:Nat):Ds ws (n+1)=Ds ws n++[cnt (ws.take n) (hnd ws n)]:=by
 unfold Ds;rw [List.range_succ,List.map_append];rfl
theorem vJ (ws:List bM) (j:Nat) (l l':List Nat):cI ws j (l++l')=cI ws j l++cI ws j l':=by
 unfold cI;rw [List.filter_append,List.map_append]
def oZ (K:PySem.W.Frag):Sp:=fun vs H Q _=>∃(a:Addr) (hn:Int) (ws:List bM),vs=[.ref a,.int hn]/\dX H a ws/\(∀x∈ws,jF hn x)/\1<=hn/\hn<=8/\ws.length<=300 /\
 ∀(p t1 t2:Addr) (H':Hp),H' p=some (.tup [.ref t1,.ref t2])->cZ H' t1 [] ws.length (RowC ws hn.toNat)->cZ H' t2 [] ws.length (BrC ws)->H t1=none->H t2=none->Same H H'->Q (.ref p) H'
theorem cZ.any {H:Hp} {t:Addr} {ex:List Addr} {n:Nat} {C:Hp->Nat->Addr->Prop} (h:cZ H t ex n C):cZ H t [] n C:=by
 obtain ⟨rs,e,l,q⟩:=h;exact ⟨rs,e,l,fun j r hj=>⟨fun _ z=>absurd z (by simp),(q j r hj).2⟩⟩
def Zw (a:Addr) (hn:Int) (rw' cl br mn:Addr) (x1 x2 x3 x4 x5 x6 x7 x8 x9 x10:Option V):St:=[some (.ref a),some (.int hn),some (.ref rw'),some (.ref cl),some (.ref br),some (.ref mn),x1,x2,x3,x4,x5,x6,x7,x8,x9,x10]
structure acg (ws:List bM) (hn:Int) (H H2:Hp) (a rw' cl br mn:Addr) (j:Nat):Prop where
 sm:Same H H2
 rows:cZ H2 rw' [rw',cl,br,mn] j (RowC ws hn.toNat)
 brt:cZ H2 br [rw',cl,br,mn] j (BrC ws)
 called:H2 cl=some (.lst ((Ds ws j).map V.int))
 many:∃ms:List Int,H2 mn=some (.lst (ms.map V.int))/\ms.length=hn.toNat /\ ∀h:Int,0<=h->h<hn->gI ms h=cnt (ws.take j) h
theorem Ux {c:Bool} {A B:Prop} (a:A) (b:¬c=true->A->B):if c=true then A else B:=by
 split
 ·exact a
 ·rename_i h
  exact b h a
theorem Ln {f:Addr} {fd:FuncData} (F:jW K "_law_table" "_law_table" iC f fd) (Bt:oO mg):cj P w K mg base gZ 1 f fd ["touches","hands"] (oZ K):=by
 refine F.ok cV (fun vs H Q E h=> ?_) (fun cdv A outer s H vs Q E hr h=> ?_)
 ·obtain ⟨a,hn,ws,rfl,_⟩:=h
  rfl
 ·obtain ⟨a,hn,ws,rfl,W,ok,hn0,hn1,wl,k⟩:=h
  obtain ⟨vs,ha,dv⟩:=id W;have gA:vs.length=ws.length:=by rw [dv.length,List.length_map]
  have VR:∀x∈ws,0<=x.1/\x.1<((hn.toNat:Nat):Int):=fun x hx=>⟨(ok x hx).1.1,by have:=(ok x hx).1.2;(clear gA ha wl hn1 hn0;omega)⟩
  refine ⟨_,(aD (bw (i:=2) cV.nd rfl (Or.inl rfl) (bV aA))
   (aD (bw (i:=3) cV.nd rfl (Or.inl rfl) (bV aA))
   (aD (bw (i:=4) cV.nd rfl (Or.inl rfl) (bV aA))
   (aD (bw (i:=5) cV.nd rfl (Or.inl rfl) (bC Hy (bV (ao aG aA)) (pv 1)))
   (aD (gK PassesOwn.never rfl (cJ (K:=K) rfl (pv 0)) (tM (K:=K) (n:=3) rfl rfl (d9 (aX (i:=6) cV.nd rfl (Or.inl rfl)) (d9 (aX (i:=7) cV.nd rfl (Or.inl rfl)) (d9 (aX (i:=8) cV.nd rfl (Or.inl rfl)) tK))))
   (aD (bw (i:=9) cV.nd rfl (Or.inl rfl) (bC Hy (bV (ao aG aA)) (pv 1)))
   (aD (bw (i:=10) cV.nd rfl (Or.inl rfl) (bV aA))
   (aD (gK PassesOwn.never rfl (Ah (by rfl) Bt.fP (ao (bC Hx (aQ (aP (K:=K) rfl) (by rfl) Bt.dW cB (ao (pv 2) aA)) aG) (ao (yj qY aG) (ao (yj qY aG) aA)))) (aX (i:=11) cV.nd rfl (Or.inl rfl))
   (aD (rB (aN (aJ (K:=K) rfl) (pv 0) (pv 11) (fun _ _=>rfl)) (tM (K:=K) (n:=3) rfl rfl (d9 (aX (i:=12) cV.nd rfl (Or.inl rfl)) (d9 (aX (i:=13) cV.nd rfl (Or.inl rfl)) (d9 (aX (i:=14) cV.nd rfl (Or.inl rfl)) tK)))))
   (aD (bw (i:=15) cV.nd rfl (Or.inl rfl) (rC (eX k_ (pv 12) (pv 6) (bx _)) (rC (eX jV (pv 14) (pv 8) (bx _)) (pC (Pk (eX k_ (pv 7) cN (bx _)) (pC (eX k_ (pv 13) cN (bx _))))))))
   (aD (cW (PW.pt (BX (fB (pv 15)) (wJ (bB VP (aN (aJ (K:=K) rfl) (pv 3) (pv 11) (fun _ _=>rfl)) (aN (aJ (K:=K) rfl) (pv 9) (pv 12) (fun _ _=>rfl)) (bx _))))) (aH (cg (dz (K:=K) rfl (pv 10) (ao (jN (ao (pv 12) (ao (aN (aJ (K:=K) rfl) (pv 3) (pv 11) (fun _ _=>rfl)) (ao (pv 6) (ao (aN (aJ (K:=K) rfl) (pv 5) (pv 6) (fun _ _=>rfl)) aA))))) aA)))) bF)
   (aH (cW (PW.pt (jU (fB (pv 15)) (jg (bB jV (pv 12) (pv 6) (bx _))))) (aH (wK (i:=9) rfl cV.nd rfl (Or.inl rfl) (N:=["a","b"]) (own:=["a","b"]) (caps:=[]) (bh.of (by kernel_rfl)) (Tq (K:=K) rfl (by rfl) Bt.abT (ao (pv 9) (ao (aN (aJ (K:=K) rfl) (pv 2) (pv 11) (fun _ _=>rfl)) aA))) (fun _ _ _ _=>(tM (K:=K) (n:=2) rfl rfl (d9 (aX (i:=0) (show List.Nodup (["a","b"]:List Str) by decide +kernel) rfl (Or.inl rfl)) (d9 (aX (i:=1) (show List.Nodup (["a","b"]:List Str) by decide +kernel) rfl (Or.inl rfl)) tK)))) (fun _ _ _ _=>eE) (fun _ _ _ _=>(aQ (Ay rfl) (by rfl) Bt.Wd Rh (ao (pv 0) (ao (pv 1) aA)))))) bF))))))
   (aD (cg (dz (K:=K) rfl (pv 3) (ao (aN (aJ (K:=K) rfl) (pv 5) (pv 6) (fun _ _=>rfl)) aA)))
   (aD (rB (bC gb (aN (aJ (K:=K) rfl) (pv 5) (pv 6) (fun _ _=>rfl)) aG) (uR (pv 5) (pv 6) set_list))
   (aD (rB (aN (aJ (K:=K) rfl) (pv 5) (pv 6) (fun _ _=>rfl)) (uR (pv 9) (pv 6) set_list))
   (aD (cg (dz (K:=K) rfl (pv 2) (ao (pv 9) aA)))
   (aH (cg (dz (K:=K) rfl (pv 4) (ao (aQ (lW (K:=K) rfl) (by rfl) Bt.uf qF (ao (pv 10) aA)) aA))))))))))))
   (aH (bf (jN (ao (pv 2) (ao (pv 4) aA)))))))))), ?_⟩
  refine ⟨(by show 0<=sizeLine;decide),fun rw' h1=> ?_⟩;have s1:=aF (o:=HO.lst []) h1;refine ⟨(by show 0<=sizeLine;decide),fun cl h2=> ?_⟩;have s2:=aF (o:=HO.lst []) h2;refine ⟨(by show 0<=sizeLine;decide),fun br h3=> ?_⟩;have s3:=aF (o:=HO.lst []) h3;refine ⟨(by show 1<=sizeLine;decide),fun l h4=> ?_⟩;have s4:=aF (o:=HO.lst [V.int 0]) h4;refine ⟨_,rfl,l,_,_,rfl,rfl,aq,by (clear h4 h3 h2 h1 gA ha wl hn1;omega),by (clear h4 h3 h2 h1 gA ha wl hn0;omega),by rw [sizeLine_eq];simp;(clear h4 h3 h2 h1 gA ha wl hn0;omega),fun mn h5=> ?_⟩;rw [WW];have s5:=aF (o:=HO.lst ((List.replicate hn.toNat (0:Int)).map V.int)) h5;have n12:rw'≠cl:=aB aq h2;have n13:rw'≠br:=aB (s2 _ _ aq) h3;have n23:cl≠br:=aB aq h3;have n15:rw'≠mn:=aB (s4 _ _ (s3 _ _ (s2 _ _ aq))) h5;have n25:cl≠mn:=aB (s4 _ _ (s3 _ _ aq)) h5;have n35:br≠mn:=aB (s4 _ _ aq) h5;have WQ:=(((s1.trans s2).trans s3).trans s4).trans s5;have f1:H rw'=none:=h1;have f2:H cl=none:=s1.free h2;have f3:H br=none:=(s1.trans s2).free h3;have f5:H mn=none:=(((s1.trans s2).trans s3).trans s4).free h5
  have I0:acg ws hn H _ a rw' cl br mn 0:=⟨WQ,⟨[],s5 _ _ (s4 _ _ (s3 _ _ (s2 _ _ aq))),rfl,fun j r hj=>by simp at hj⟩,⟨[],s5 _ _ (s4 _ _ aq),rfl,fun j r hj=>by simp at hj⟩,s5 _ _ (s4 _ _ (s3 _ _ aq)),
   ⟨List.replicate hn.toNat 0,aq,by simp,fun h _ _=>by rw [Cz];rfl⟩⟩
  generalize (upd (upd (upd (upd (upd H rw' (HO.lst [])) cl (HO.lst [])) br (HO.lst [])) l (HO.lst [V.int 0])) mn (HO.lst ((List.replicate hn.toNat (0:Int)).map V.int)))=H5 at I0 ⊢;refine ⟨_,rfl,a,rfl,⟨_,aV.of (I0.sm _ _ ha)⟩, ?_⟩
  refine jA (K:=K) (a:=a) (xs:=vs) (fun j σ H2=>∃x1 x2 x3 x4 x5 x6 x7 x8 x9 x10,σ=Zw a hn rw' cl br mn x1 x2 x3 x4 x5 x6 x7 x8 x9 x10/\acg ws hn H H2 a rw' cl br mn j)
   ⟨none,none,none,none,none,none,none,none,none,none,rfl,I0⟩ (fun j σ H2 _ ⟨_,_,_,_,_,_,_,_,_,_,_,I⟩=>aV.of (I.sm _ _ ha)) ?_ ?_
  ·rintro j v σ H2 hj ⟨x1,x2,x3,x4,x5,x6,x7,x8,x9,x10,rfl,I⟩
   have jl:j<ws.length:=by have:=(List.getElem?_eq_some_iff.mp hj).1;(clear hj f5 f3 f2 f1 n35 n25 n15 n23 n13 n12 h5 h4 h3 h2 h1 ha wl hn1 hn0;omega)
   obtain ⟨y,ey⟩:∃y,ws[j]? = some y:=⟨ws[j],by simp [jl]⟩;obtain ⟨dd,ed,dy⟩:=dv.get hj;rw [List.getElem?_map,ey] at ed;cases ed;obtain ⟨t,rfl,ht⟩:=jB dy;obtain ⟨⟨y0,y1⟩,ykd,_⟩:=ok y (List.mem_of_getElem? ey);have oN:=rM ey;refine ⟨t,_,rfl,fY.of (I.sm _ _ ht),rfl,_,_,rfl,_,_,rfl,_,_,rfl,rfl, ?_⟩;refine ⟨(by show 1<=sizeLine;decide),fun l0 hl0=> ?_⟩;have s6:=aF (o:=HO.lst [V.int 0]) hl0;refine ⟨_,rfl,l0,_,_,rfl,rfl,aq,by (clear hl0 oN y1 y0 hj ht ey jl f5 f3 f2 f1 n35 n25 n15 n23 n13 n12 h5 h4 h3 h2 h1 gA ha wl hn1;omega),by (clear hl0 oN y1 y0 hj ht ey jl f5 f3 f2 f1 n35 n25 n15 n23 n13 n12 h5 h4 h3 h2 h1 gA ha wl hn0;omega),by rw [sizeLine_eq];simp;(clear hl0 oN y1 y0 hj ht ey jl f5 f3 f2 f1 n35 n25 n15 n23 n13 n12 h5 h4 h3 h2 h1 gA ha wl hn0;omega),fun gt hgt=> ?_⟩;rw [WW];have s7:=aF (o:=HO.lst ((List.replicate hn.toNat (0:Int)).map V.int)) hgt;refine ⟨(by show 0<=sizeLine;decide),fun fr hfr=> ?_⟩;have s8:=aF (o:=HO.lst []) hfr;have s27:=s6.trans s7;have s28:=s27.trans s8;have g0:H2 gt=none:=s6.free hgt;have r0:H2 fr=none:=s27.free hfr;have qw:gt≠fr:=aB aq hfr;have g_:(upd (upd (upd H2 l0 (HO.lst [V.int 0])) gt (HO.lst ((List.replicate hn.toNat (0:Int)).map V.int))) fr (HO.lst [])) gt=some (.lst ((List.replicate hn.toNat (0:Int)).map V.int)):=s8 _ _ aq;have h_:(upd (upd (upd H2 l0 (HO.lst [V.int 0])) gt (HO.lst ((List.replicate hn.toNat (0:Int)).map V.int))) fr (HO.lst [])) fr=some (.lst []):=aq;generalize (upd (upd (upd H2 l0 (HO.lst [V.int 0])) gt (HO.lst ((List.replicate hn.toNat (0:Int)).map V.int))) fr (HO.lst []))=H8 at s28 g_ h_ ⊢;obtain ⟨rs,hrs,rl,_⟩:=id I.rows;refine ⟨_,rfl,rw',_,rfl,.inl (aV.of (s28 _ _ hrs)),_,_,rfl,rfl,_,rfl,_,rfl,(j:Int) - 1, -1,by rw [List.length_map,rl],⟨by (clear rl hrs h_ g_ qw r0 g0 hfr hgt hl0 oN y1 y0 hj ht ey jl f5 f3 f2 f1 n35 n25 n15 n23 n13 n12 h5 h4 h3 h2 h1 gA ha wl hn1 hn0;omega),by (clear rl hrs h_ g_ qw r0 g0 hfr hgt hl0 oN y1 y0 hj ht ey f5 f3 f2 f1 n35 n25 n15 n23 n13 n12 h5 h4 h3 h2 h1 gA ha hn1 hn0;omega),by (clear rl hrs h_ g_ qw r0 g0 hfr hgt hl0 oN y1 y0 hj ht ey jl f5 f3 f2 f1 n35 n25 n15 n23 n13 n12 h5 h4 h3 h2 h1 gA ha wl hn1 hn0;omega),by (clear rl hrs h_ g_ qw r0 g0 hfr hgt hl0 oN y1 y0 hj ht ey jl f5 f3 f2 f1 n35 n25 n15 n23 n13 n12 h5 h4 h3 h2 h1 gA ha wl hn1 hn0;omega)⟩, ?_⟩;rw [show ((j:Int) - 1 - (-1)).toNat=j by (clear rl hrs h_ g_ qw r0 g0 hfr hgt hl0 oN y1 y0 hj ht ey jl f5 f3 f2 f1 n35 n25 n15 n23 n13 n12 h5 h4 h3 h2 h1 gA ha wl hn1 hn0;omega)]
   refine yO (hi:=(j:Int) - 1) (n:=j) (fun i σ H9=>∃(gt:Addr) (row:List Int) (x6 x7 x8 x9 x10:Option V),σ=Zw a hn rw' cl br mn (some (.int y.1)) (some (.str y.2.1)) (some (.int y.2.2)) (some (.ref gt)) (some (.ref fr)) x6 x7 x8 x9 x10/\Same H2 H9/\H2 gt=none/\gt≠fr/\H9 gt=some (.lst (row.map V.int))/\rR ws hn.toNat row (Kz ws j (j - i)) j/\gD H9 fr (cI ws j (eN ws j i)))
    ⟨gt,List.replicate hn.toNat 0,_,_,_,_,_,rfl,s28,g0,qw,g_,⟨by simp,fun m x ex=>⟨fun z=> ?_,fun ⟨x,q1,q2,_⟩=> ?_⟩,fun h=>by rw [Cz];exact ⟨Int.le_refl _,jQ _ _⟩⟩,⟨[],h_,by simp [eN,cI,aM]⟩⟩ ?_ ?_
   ·rw [Cz] at z
    have:=jQ (ws.take m) x.1;omega
   ·have:=(uI q2).1
    omega
   ·rintro i σ H9 hi ⟨gt,row,x6,x7,x8,x9,x10,rfl,s9,g0,qw,uw,rh,N9⟩
    have ee:(j:Int) - 1 - (i:Int)=((j - 1 - i:Nat):Int):=by (clear uw qw g0 rl hrs h_ g_ r0 hfr hgt hl0 oN y1 y0 hj ht ey jl f5 f3 f2 f1 n35 n25 n15 n23 n13 n12 h5 h4 h3 h2 h1 gA ha wl hn1 hn0;omega)
    rw [ee];have bs:=zy ws j i;have bl:=m6 ws j i;generalize he:j - 1 - i=e at bs;have el:e<ws.length:=by (clear bs bl ee uw qw g0 hi rl hrs h_ g_ r0 hfr hgt hl0 oN y1 y0 hj ht ey f5 f3 f2 f1 n35 n25 n15 n23 n13 n12 h5 h4 h3 h2 h1 gA ha wl hn1 hn0;omega)
    have ej:e<j:=by (clear el bs bl ee uw qw g0 rl hrs h_ g_ r0 hfr hgt hl0 oN y1 y0 hj ht ey jl f5 f3 f2 f1 n35 n25 n15 n23 n13 n12 h5 h4 h3 h2 h1 gA ha wl hn1 hn0;omega)
    have e1:j - i=e+1:=by (clear ej el bs bl ee uw qw g0 rl hrs h_ g_ r0 hfr hgt hl0 oN y1 y0 hj ht ey jl f5 f3 f2 f1 n35 n25 n15 n23 n13 n12 h5 h4 h3 h2 h1 gA ha wl hn1 hn0;omega)
    have e2:j - (i+1)=e:=by (clear e1 ej el bs bl ee uw qw g0 hi rl hrs h_ g_ r0 hfr hgt hl0 oN y1 y0 hj ht ey jl f5 f3 f2 f1 n35 n25 n15 n23 n13 n12 h5 h4 h3 h2 h1 gA ha wl hn1 hn0;omega)
    rw [e1] at rh;rw [e2];obtain ⟨x,ex⟩:∃x,ws[e]? = some x:=⟨ws[e],by simp [el]⟩;obtain ⟨⟨x0,x1'⟩,xkd,_⟩:=ok x (List.mem_of_getElem? ex);have Nu:=rM ex;have sH9:=I.sm.trans s9;obtain ⟨us,tx,hus,Wa,htx⟩:=qg (W.same sH9) ex;have vY:vG ws e j=(decide (x.1=y.1)||mt x y):=by unfold vG Wv;rw [ex,ey,decide_eq_true ej,Bool.true_and]
    have jH:=rh.1;refine ⟨_,rfl,_,rfl,_,_,_,_,rfl,rfl,aV.of hus,aU Wa,tx,_,rfl,fY.of htx,rfl,_,_,rfl,_,_,rfl,_,_,rfl,rfl, ?_⟩;dsimp only;refine qm (fun σ qW=>qW=H9/\σ=Zw a hn rw' cl br mn (some (.int y.1)) (some (.str y.2.1)) (some (.int y.2.2)) (some (.ref gt)) (some (.ref fr)) (some (.int (e:Int))) (some (.int x.1)) (some (.str x.2.1)) (some (.int x.2.2)) (some (.bl (mt x y)))) (fun D' hD' _=> ?_) ?_
    ·have fin:∀b:Bool,b=mt x y->D'.nx (Zw a hn rw' cl br mn (some (.int y.1)) (some (.str y.2.1)) (some (.int y.2.2)) (some (.ref gt)) (some (.ref fr)) (some (.int (e:Int))) (some (.int x.1)) (some (.str x.2.1)) (some (.int x.2.2)) (some (.bl b))) H9:=fun b hb=>hD' _ _ ⟨rfl,by rw [hb]⟩
     refine ⟨_,rfl,_,rfl,rfl,_,rfl, ?_⟩
     by_cases c1:x.1=y.1
     ·rw [show (!decide (V.int x.1=V.int y.1))=false by simp [c1]]
      refine dJ ?_;exact fin false (by unfold mt;rw [if_pos c1])
     rw [show (!decide (V.int x.1=V.int y.1))=true by simp [c1]];refine iY ?_;refine ⟨_,rfl,_,rfl,rfl,_,rfl, ?_⟩
     by_cases c2:x.2.2=y.2.2
     rotate_left
     ·rw [show decide (V.int x.2.2=V.int y.2.2)=false by simp [c2]]
      refine dJ ?_;exact fin false (by unfold mt;rw [if_neg c1,if_neg c2])
     rw [show decide (V.int x.2.2=V.int y.2.2)=true by simp [c2]];refine iY ?_;refine ⟨_,rfl,rfl,_,rfl, ?_⟩
     by_cases c3:y.2.1 = "load"
     ·rw [show (!decide (V.str y.2.1=V.str "load"))=false by simp [c3]]
      refine dJ ?_;refine ⟨_,rfl,rfl, ?_⟩;refine fin _ ?_;unfold mt;rw [if_neg c1,if_pos c2,c3]
      by_cases c4:x.2.1 = "load"
      ·rw [if_pos c4];simp [c4]
      ·rw [if_neg c4];simp [c4]
     ·rw [show (!decide (V.str y.2.1=V.str "load"))=true by simp [c3]]
      refine iY ?_;refine fin true ?_;unfold mt;rw [if_neg c1,if_pos c2]
      by_cases c4:x.2.1 = "load"
      ·rw [if_pos c4];simp [c3]
      ·rw [if_neg c4]
    rintro σ qW ⟨rfl,rfl⟩;have jP:qW cl=some (.lst ((Ds ws j).map V.int)):=s9 _ _ I.called;have hcle:ug ((Ds ws j).map V.int) ((e:Nat):Int)=some (V.int (cnt (ws.take e) (hnd ws e))):=aU (by rw [List.getElem?_map,Vi ej];rfl);have rx:=rh.2.1 e x ex;refine qm (fun σ Zy=>σ=Zw a hn rw' cl br mn (some (.int y.1)) (some (.str y.2.1)) (some (.int y.2.2)) (some (.ref gt)) (some (.ref fr)) (some (.int (e:Int))) (some (.int x.1)) (some (.str x.2.1)) (some (.int x.2.2)) (some (.bl (mt x y)))/\Same H2 Zy/\Zy gt=some (.lst (row.map V.int))/\gD Zy fr (cI ws j (eN ws j (i+1)))) (fun D' hD' _=> ?_) ?_
    ·have stay:¬(Bare ws j e /\ ¬hnd ws e=hnd ws j)->D'.nx (Zw a hn rw' cl br mn (some (.int y.1)) (some (.str y.2.1)) (some (.int y.2.2)) (some (.ref gt)) (some (.ref fr)) (some (.int (e:Int))) (some (.int x.1)) (some (.str x.2.1)) (some (.int x.2.2)) (some (.bl (mt x y)))) qW:=fun nb=>hD' _ _ ⟨rfl,s9,uw,by
      rw [bs,vJ]
      by_cases b1:Bare ws j e
      ·have b2:hnd ws e=hnd ws j:=Classical.byContradiction fun z=>nb ⟨b1,z⟩
       rw [if_pos b1];simp only [cI,List.filter_cons,b2,not_true_eq_false,decide_false,Bool.false_eq_true,if_false,List.filter_nil,List.map_nil,List.append_nil];exact N9
      ·rw [if_neg b1]
       simp only [cI,List.filter_nil,List.map_nil,List.append_nil];exact N9⟩
     refine ⟨_,rfl,_,rfl, ?_⟩
     by_cases mm:mt x y=true
     rotate_left
     ·have mm':mt x y=false:=by simpa using mm
      refine nW (fun z=>absurd z mm) (fun _=> ?_);refine nW (fun z=>absurd z (by decide)) (fun _=> ?_);refine stay fun z=> ?_;have st:=z.1.1;rw [vY,mm',Bool.or_false] at st;exact z.2 (by rw [Nu,oN];exact of_decide_eq_true st)
     refine nW (fun _=> ?_) (fun z=>absurd mm z);have hne:¬x.1=y.1:=fun z=>by unfold mt at mm;rw [if_pos z] at mm;cases mm
     have st:vG ws e j=true:=by rw [vY,mm,Bool.or_true]
     refine ⟨_,rfl,_,rfl,_,_,_,_,rfl,rfl,aV.of jP,hcle,_,rfl,_,rfl,_,_,_,_,rfl,rfl,aV.of uw,zB x0 (by (clear st hne mm rx hcle jP htx hus uw vY Wa Nu x0 ex e2 e1 ej el bs he bl ee qw g0 hi rl hrs h_ g_ r0 hfr hgt hl0 oN y1 y0 hj ht ey jl f5 f3 f2 f1 n35 n25 n15 n23 n13 n12 h5 h4 h3 h2 h1 gA ha wl hn1 hn0;omega)),_,_,rfl,rfl,_,rfl, ?_⟩;rw [Nu]
     by_cases cv:Kz ws j (e+1) e
     ·have lt:=rx.mpr cv
      rw [decide_eq_false (show ¬gI row x.1<=cnt (ws.take e) x.1 by (clear st hne mm rx hcle jP htx hus uw jH vY Wa Nu x1' x0 ex e2 e1 ej el bs he bl ee qw g0 hi rl hrs h_ g_ r0 hfr hgt hl0 oN y1 y0 hj ht ey jl f5 f3 f2 f1 n35 n25 n15 n23 n13 n12 h5 h4 h3 h2 h1 gA ha wl hn1 hn0;omega))];refine dJ ?_;exact stay fun z=>z.1.2 cv
     ·have ge:¬cnt (ws.take e) x.1<gI row x.1:=fun z=>cv (rx.mp z)
      rw [decide_eq_true (show gI row x.1<=cnt (ws.take e) x.1 by (clear cv st hne mm rx hcle jP htx hus uw jH vY Wa Nu x1' x0 ex e2 e1 ej el bs he bl ee qw g0 hi rl hrs h_ g_ r0 hfr hgt hl0 oN y1 y0 hj ht ey jl f5 f3 f2 f1 n35 n25 n15 n23 n13 n12 h5 h4 h3 h2 h1 gA ha wl hn1 hn0;omega))];refine iY ?_;obtain ⟨ms,hm,ml,mg⟩:=I.many;obtain ⟨ts,hts,dts⟩:=id N9;have tl:ts.length<=i:=by rw [dts.length,List.length_map];exact Nat.le_trans (lO ws j _) bl
      refine ⟨_,rfl,.inl ⟨rfl,_,aV.of hts⟩,_,rfl,_,rfl,_,rfl,_,_,_,_,rfl,rfl,aV.of jP,hcle,_,rfl,_,rfl,_,rfl,_,_,_,_,rfl,rfl,aV.of (s9 _ _ hm),zB y0 (by (clear tl hts hm ge cv st hne mm rx hcle jP htx hus uw jH vY Wa Nu x1' x0 ex e2 e1 ej el bs he bl ee qw g0 hi rl hrs h_ g_ r0 hfr hgt hl0 oN y0 hj ht ey jl f5 f3 f2 f1 n35 n25 n15 n23 n13 n12 h5 h4 h3 h2 h1 gA ha wl hn1 hn0;omega)),(by show 4<=sizeLine;decide),fun q hq=> ?_⟩;rw [mg y.1 y0 y1,←Nu,←oN];have sq:=aF (o:=HO.tup [V.int (hnd ws e),V.int (cnt (ws.take e) (hnd ws e)),V.int (hnd ws j),V.int (cnt (ws.take j) (hnd ws j))]) hq;refine ⟨fr,ts,_,rfl,rfl,sq _ _ hts,by rw [sizeLine_eq];(clear hq hts ml hm ge cv st hne mm rx hcle jP htx hus uw jH vY Wa Nu x1' x0 ex e2 e1 ej el bs he bl ee qw g0 rl hrs h_ g_ r0 hfr hgt hl0 oN y1 y0 hj ht ey f5 f3 f2 f1 n35 n25 n15 n23 n13 n12 h5 h4 h3 h2 h1 gA ha hn1 hn0;omega), ?_⟩;have kf:Kp fr (upd qW q (HO.tup [V.int (hnd ws e),V.int (cnt (ws.take e) (hnd ws e)),V.int (hnd ws j),V.int (cnt (ws.take j) (hnd ws j))])) (upd (upd qW q (HO.tup [V.int (hnd ws e),V.int (cnt (ws.take e) (hnd ws e)),V.int (hnd ws j),V.int (cnt (ws.take j) (hnd ws j))])) fr (.lst (ts++[V.ref q]))):=Kp.set;have tf:=kf.tups (sq _ _ hts);refine hD' _ _ ⟨by rw [Nu,oN],fun b u e=>kf _ _ (sq _ _ (s9 _ _ e)) (aB e r0),kf _ _ (sq _ _ uw) qw,ts++[V.ref q],aq, ?_⟩;have nb:Bare ws j e:=⟨st,cv⟩;have hne':¬hnd ws e=hnd ws j:=by rw [Nu,oN];exact hne
      rw [bs,if_pos nb,vJ,List.map_append];refine aM.append (aM.keep (fun a xs h=>tf _ _ (sq.tups _ _ h)) _ (bJ _ lC _) dts) ?_;simp only [cI,List.filter_cons,hne',not_false_eq_true,decide_true,if_true,List.filter_nil,List.map_cons,List.map_nil];exact yS (IV (x:=lu ws e j) (tf _ _ aq))
    rintro σ Zy ⟨rfl,WR,QH,N11⟩;obtain ⟨rs2,Yr,rl2,rq2⟩:=I.rows.same (fW ws hn.toNat) WR;have er:e<rs2.length:=by (clear Yr QH rx hcle jP htx hus uw jH vY Wa Nu x1' x0 ex e2 e1 ej el bs bl ee qw g0 rl hrs h_ g_ r0 hfr hgt hl0 oN y1 y0 hj ht ey jl f5 f3 f2 f1 n35 n25 n15 n23 n13 n12 h5 h4 h3 h2 h1 gA ha wl hn1 hn0;omega)
    obtain ⟨rr,err⟩:∃rr,rs2[e]? = some rr:=⟨rs2[e],by simp [er]⟩;obtain ⟨_,re,Ys,rhe⟩:=rq2 e rr err;have rel:=rhe.1;refine ⟨_,rfl,_,rfl, ?_⟩
    by_cases st:vG ws e j=true
    rotate_left
    ·have mm:mt x y=false:=by
      cases q:mt x y with
      | false=>rfl
      | true=>rw [vY,q,Bool.or_true] at st;exact absurd rfl st
     have hne:¬x.1=y.1:=fun z=>by rw [vY,decide_eq_true z,Bool.true_or] at st;exact absurd rfl st
     rw [mm];refine dJ ?_;refine ⟨_,rfl,_,rfl,rfl,_,rfl, ?_⟩;rw [show decide (V.int x.1=V.int y.1)=false by simp [hne]];refine dJ ?_;exact ⟨gt,row,_,_,_,_,_,rfl,WR,g0,qw,QH,rh.iff fun m=>Gb st,N11⟩
    refine Ux ?_ (fun mm core=> ?_)
    rotate_left
    ·have mm:mt x y=false:=by simpa using mm
     have heq:x.1=y.1:=by rw [vY,mm,Bool.or_false] at st;exact of_decide_eq_true st
     refine ⟨_,rfl,_,rfl,rfl,_,rfl, ?_⟩;rw [show decide (V.int x.1=V.int y.1)=true by simp [heq]];exact iY core
    refine ⟨_,rfl,_,rfl,_,rfl,_,_,_,_,rfl,rfl,aV.of Yr,aU (by rw [List.getElem?_map,err];rfl),gt,rr,_,_,rfl,aV.of QH,aV.of Ys,fun D hD=> ?_⟩;refine Mz (K:=K) (n:=hn.toNat) (by rw [List.length_map,jH]) (by rw [List.length_map,rel]) (fun h=>some (.int (mx (gI row (h:Int)) (gI re (h:Int))))) hD (aV.of QH) (aV.of Ys) (by (clear hD st rel Ys err er rl2 Yr QH rx hcle jP htx hus uw jH vY Wa Nu x1' x0 ex e2 e1 ej el bs he bl ee qw g0 hi rl hrs h_ g_ r0 hfr hgt hl0 oN y1 y0 hj ht ey jl f5 f3 f2 f1 n35 n25 n15 n23 n13 n12 h5 h4 h3 h2 h1 gA ha wl hn0;omega)) (fun h u v Kv G F hu hv s12 kG kF=> ?_) (fun Kv s12 e12=> ?_)
    ·rw [List.getElem?_map] at hu hv
     cases eu:row[h]? with
     | none=>rw [eu] at hu;cases hu
     | some uu=>
       cases ev:re[h]? with
       | none=>rw [ev] at hv;cases hv
       | some vv=>
         rw [eu] at hu;rw [ev] at hv;cases hu;cases hv;exact ⟨_,rfl,_,rfl,_,_,rfl,kF _ Kv (Same.refl _) (by rw [yN eu,yN ev];rfl)⟩
    have YS:Kv D=some (.lst ((Uo hn.toNat row re).map V.int)):=by
     rw [e12];unfold Uo;rw [List.map_map,←List.filterMap_eq_map];rfl
    have nDf:D≠fr:=by
     obtain ⟨_,h,_⟩:=N11;exact (aB h hD).symm
    exact ⟨D,Uo hn.toNat row re,_,_,_,_,_,rfl,WR.trans s12,WR.free hD,nDf,YS,(OJ VR rh (rhe.mono (by omega))).iff fun m=>Kg st,N11.same s12⟩
   ·rintro σ H9 ⟨gt,row,x6,x7,x8,x9,x10,rfl,s9,g0,qw,uw,rh,N9⟩
    rw [Nat.sub_self] at rh;have rh':=rh.iff fun m=>Kf;have jH:=rh'.1;obtain ⟨ms,hm,ml,mg⟩:=I.many;have jP:=s9 _ _ I.called;have hm9:=s9 _ _ hm;have R5:y.1<ms.length:=by (clear hm9 jP hm jH uw qw g0 rl hrs h_ g_ r0 hfr hgt hl0 oN y0 hj ht ey jl f5 f3 f2 f1 n35 n25 n15 n23 n13 n12 h5 h4 h3 h2 h1 gA ha wl hn1 hn0;omega)
    have Vh:(Ds ws j).length=j:=by unfold Ds;simp
    have f1':=I.rows;have YF:=I.brt;obtain ⟨rs0,vZ,_,_⟩:=id I.rows;obtain ⟨bs0,yJ,_,_⟩:=id I.brt;refine ⟨_,rfl,.inl ⟨rfl,_,aV.of jP⟩,_,rfl,_,rfl,_,_,_,_,rfl,rfl,aV.of hm9,zB y0 (by (clear yJ vZ Vh R5 hm9 jP hm jH uw qw g0 rl hrs h_ g_ r0 hfr hgt hl0 oN y0 hj ht ey jl f5 f3 f2 f1 n35 n25 n15 n23 n13 n12 h5 h4 h3 h2 h1 gA ha wl hn1 hn0;omega)),cl,_,_,rfl,rfl,jP,by rw [List.length_map,sizeLine_eq];(clear yJ vZ R5 hm9 jP ml hm jH uw qw g0 rl hrs h_ g_ r0 hfr hgt hl0 oN y1 y0 hj ht ey f5 f3 f2 f1 n35 n25 n15 n23 n13 n12 h5 h4 h3 h2 h1 gA ha hn1 hn0;omega), ?_⟩;rw [mg y.1 y0 y1];have k1:Kp cl H9 (upd H9 cl (.lst ((Ds ws j).map V.int++[V.int (cnt (ws.take j) y.1)]))):=Kp.set;have hm1:=k1 _ _ hm9 n25.symm;refine ⟨_,rfl,_,rfl,_,_,_,_,rfl,rfl,aV.of hm1,zB y0 (by (clear hm1 yJ vZ Vh R5 hm9 jP hm jH uw qw g0 rl hrs h_ g_ r0 hfr hgt hl0 oN y0 hj ht ey jl f5 f3 f2 f1 n35 n25 n15 n23 n13 n12 h5 h4 h3 h2 h1 gA ha wl hn1 hn0;omega)),_,_,rfl,rfl,_,rfl,_,rfl,_,_,_,_,rfl,rfl,hm1,J3 y0 (by rw [List.length_map];(clear hm1 yJ vZ Vh R5 hm9 jP hm jH uw qw g0 rl hrs h_ g_ r0 hfr hgt hl0 oN y0 hj ht ey jl f5 f3 f2 f1 n35 n25 n15 n23 n13 n12 h5 h4 h3 h2 h1 gA ha wl hn1 hn0;omega)), ?_⟩;rw [mg y.1 y0 y1];have k2:Kp mn (upd H9 cl (.lst ((Ds ws j).map V.int++[V.int (cnt (ws.take j) y.1)]))) (upd (upd H9 cl (.lst ((Ds ws j).map V.int++[V.int (cnt (ws.take j) y.1)]))) mn (.lst ((ms.map V.int).set y.1.toNat (V.int (cnt (ws.take j) y.1+1))))):=Kp.set;have hm2:(upd (upd H9 cl (.lst ((Ds ws j).map V.int++[V.int (cnt (ws.take j) y.1)]))) mn (.lst ((ms.map V.int).set y.1.toNat (V.int (cnt (ws.take j) y.1+1))))) mn=some (.lst ((ms.set y.1.toNat (cnt (ws.take j) y.1+1)).map V.int)):=by rw [aq,List.map_set]
    have v7:=k2 _ _ (aq (H:=H9) (a:=cl) (o:= .lst ((Ds ws j).map V.int++[V.int (cnt (ws.take j) y.1)]))) n25;have Ey:gt≠cl:=(aB I.called g0).symm;have Ew:gt≠mn:=(aB hm g0).symm;have HS:gt≠rw':=(aB vZ g0).symm;have Ie:gt≠br:=(aB yJ g0).symm;have hg2:=k2 _ _ (k1 _ _ uw Ey) Ew;have Ib:fr≠cl:=(aB I.called r0).symm;have HY:fr≠mn:=(aB hm r0).symm;have HW:fr≠rw':=(aB vZ r0).symm;have N2:=(N9.kp (k1.tups jP) k1 Ib).kp (k2.tups hm1) k2 HY;have T2:∀a xs,H2 a=some (HO.tup xs)->(upd (upd H9 cl (.lst ((Ds ws j).map V.int++[V.int (cnt (ws.take j) y.1)]))) mn (.lst ((ms.map V.int).set y.1.toNat (V.int (cnt (ws.take j) y.1+1))))) a=some (HO.tup xs):=fun a xs h=>k2.tups hm1 _ _ (k1.tups jP _ _ (s9.tups _ _ h));have S2:∀b u,H2 b=some u->b≠cl->b≠mn->(upd (upd H9 cl (.lst ((Ds ws j).map V.int++[V.int (cnt (ws.take j) y.1)]))) mn (.lst ((ms.map V.int).set y.1.toNat (V.int (cnt (ws.take j) y.1+1))))) b=some u:=fun b u e n1 n2=>k2 _ _ (k1 _ _ (s9 _ _ e) n1) n2;generalize (upd (upd H9 cl (.lst ((Ds ws j).map V.int++[V.int (cnt (ws.take j) y.1)]))) mn (.lst ((ms.map V.int).set y.1.toNat (V.int (cnt (ws.take j) y.1+1)))))=Kv at hm2 v7 hg2 N2 S2 T2 ⊢;have Zu:gI (ms.set y.1.toNat (cnt (ws.take j) y.1+1)) y.1=cnt (ws.take j) y.1+1:=by rw [Cy y0 (by (clear hg2 v7 hm2 HW HY Ib Ie HS Ew Ey hm1 yJ vZ Vh R5 hm9 jP hm jH uw qw g0 rl hrs h_ g_ r0 hfr hgt hl0 oN y0 hj ht ey jl f5 f3 f2 f1 n35 n25 n15 n23 n13 n12 h5 h4 h3 h2 h1 gA ha wl hn1 hn0;omega)) y0,if_pos rfl]
    refine ⟨_,rfl,_,rfl,_,_,_,_,rfl,rfl,aV.of hm2,zB y0 (by rw [List.length_set];(clear Zu hg2 v7 hm2 HW HY Ib Ie HS Ew Ey hm1 yJ vZ Vh R5 hm9 jP hm jH uw qw g0 rl hrs h_ g_ r0 hfr hgt hl0 oN y0 hj ht ey jl f5 f3 f2 f1 n35 n25 n15 n23 n13 n12 h5 h4 h3 h2 h1 gA ha wl hn1 hn0;omega)),_,rfl,_,rfl,_,_,_,_,rfl,rfl,hg2,J3 y0 (by rw [List.length_map];(clear Zu hg2 v7 hm2 HW HY Ib Ie HS Ew Ey hm1 yJ vZ Vh R5 hm9 jP ml hm uw qw g0 rl hrs h_ g_ r0 hfr hgt hl0 oN y0 hj ht ey jl f5 f3 f2 f1 n35 n25 n15 n23 n13 n12 h5 h4 h3 h2 h1 gA ha wl hn1 hn0;omega)), ?_⟩;rw [Zu];have k3:Kp gt Kv (upd Kv gt (.lst ((row.map V.int).set y.1.toNat (V.int (cnt (ws.take j) y.1+1))))):=Kp.set;have hg3:(upd Kv gt (.lst ((row.map V.int).set y.1.toNat (V.int (cnt (ws.take j) y.1+1))))) gt=some (.lst ((row.set y.1.toNat (cnt (ws.take j) y.1+1)).map V.int)):=by rw [aq,List.map_set]
    have Z5:RowC ws hn.toNat (upd Kv gt (.lst ((row.map V.int).set y.1.toNat (V.int (cnt (ws.take j) y.1+1))))) j gt:=⟨_,hg3,O1 VR rh' ey⟩
    have S3:∀b u,H2 b=some u->b∉[cl,mn,gt]->(upd Kv gt (.lst ((row.map V.int).set y.1.toNat (V.int (cnt (ws.take j) y.1+1))))) b=some u:=fun b u e m=>by
     have m1:b≠cl:=fun z=>m (by simp [z]);have m2:b≠mn:=fun z=>m (by simp [z]);have m3:b≠gt:=fun z=>m (by simp [z]);exact k3 _ _ (S2 b u e m1 m2) m3
    have T3:∀a xs,H2 a=some (HO.tup xs)->(upd Kv gt (.lst ((row.map V.int).set y.1.toNat (V.int (cnt (ws.take j) y.1+1))))) a=some (HO.tup xs):=fun a xs h=>k3.tups hg2 _ _ (T2 _ _ h)
    have hW:∀x∈[cl,mn,gt],x∈[rw',cl,br,mn]\/H2 x=none:=fun x hx=>by
     simp only [List.mem_cons,List.not_mem_nil,or_false] at hx;rcases hx with rfl|rfl|rfl
     ·exact .inl (by simp)
     ·exact .inl (by simp)
     ·exact .inr g0
    have R3:=I.rows.move (fW _ _) [cl,mn,gt] S3 (by simp [n12,n15,HS.symm]) hW T3;have B3:=I.brt.move (pO _) [cl,mn,gt] S3 (by simp [n23.symm,n35,Ie.symm]) hW T3;have N3:=N2.kp (k3.tups hg2) k3 qw.symm;have QJ:=k3 _ _ v7 Ey.symm;have hm3:=k3 _ _ hm2 Ew.symm
    have S3':Same H (upd Kv gt (.lst ((row.map V.int).set y.1.toNat (V.int (cnt (ws.take j) y.1+1))))):=fun b u e=>S3 _ _ (I.sm _ _ e) (by
     simp only [List.mem_cons,List.not_mem_nil,or_false];rintro (z|z|z)
     ·exact aB e f2 z
     ·exact aB e f5 z
     ·exact aB e (I.sm.free g0) z)
    generalize (upd Kv gt (.lst ((row.map V.int).set y.1.toNat (V.int (cnt (ws.take j) y.1+1)))))=H13 at R3 B3 N3 QJ hm3 S3' Z5 ⊢
    obtain ⟨rs3,Ir,rl3,R4⟩:=R3.push (fW _ _) (by simp) (fun x hx=>by
     simp only [List.mem_cons,List.not_mem_nil,or_false] at hx;rcases hx with rfl|rfl|rfl|rfl<;>assumption) Z5
    refine ⟨_,rfl,.inl ⟨rfl,_,aV.of Ir⟩,_,rfl,rw',_,_,rfl,rfl,Ir,by rw [List.length_map,sizeLine_eq];(clear Ir hm3 QJ hg3 Zu hg2 v7 hm2 HW HY Ib Ie HS Ew Ey hm1 yJ vZ Vh R5 hm9 jP ml hm jH uw qw g0 rl hrs h_ g_ r0 hfr hgt hl0 oN y1 y0 hj ht ey f5 f3 f2 f1 n35 n25 n15 n23 n13 n12 h5 h4 h3 h2 h1 gA ha hn1 hn0;omega), ?_⟩;have k4:Kp rw' H13 (upd H13 rw' (.lst (rs3.map V.ref++[V.ref gt]))):=Kp.set;have B4:=B3.kp (pO _) k4 Ir n13.symm (by simp);have N4:=N3.kp (k4.tups Ir) k4 HW;have Fz:=k4 _ _ QJ n12.symm;have hm4:=k4 _ _ hm3 n15.symm;have S4:Same H (upd H13 rw' (.lst (rs3.map V.ref++[V.ref gt]))):=fun b u e=>k4 _ _ (S3' _ _ e) (aB e f1);generalize (upd H13 rw' (.lst (rs3.map V.ref++[V.ref gt])))=H14 at R4 B4 N4 Fz hm4 S4 ⊢;obtain ⟨bs4,U5,bl4,_⟩:=id B4;obtain ⟨rs4,Yq,rl4,_⟩:=id R4;refine ⟨_,rfl,.inl ⟨rfl,_,aV.of U5⟩,_,rfl, ?_⟩;dsimp only [Bl];refine sV (K:=K) N4 fun sl ns H15 hsl NN pp ss WQ=> ?_
    have re:∀e∈[rw',cl,br,mn],sl≠e:=fun x hx=>by
     simp only [List.mem_cons,List.not_mem_nil,or_false] at hx;rcases hx with rfl|rfl|rfl|rfl
     ·exact (aB Yq hsl).symm
     ·exact (aB Fz hsl).symm
     ·exact (aB U5 hsl).symm
     ·exact (aB hm4 hsl).symm
    obtain ⟨bs5,U4,bl5,B6⟩:=(B4.same (pO _) WQ).push (pO _) (by simp) re (show BrC ws H15 j sl from ⟨ns,NN,pp,ss⟩);refine ⟨br,_,_,rfl,rfl,U4,by rw [List.length_map,sizeLine_eq];(clear U4 hsl rl4 Yq bl4 U5 hm4 Fz rl3 Ir hm3 QJ hg3 Zu hg2 v7 hm2 HW HY Ib Ie HS Ew Ey hm1 yJ vZ Vh R5 hm9 jP ml hm jH uw qw g0 rl hrs h_ g_ r0 hfr hgt hl0 oN y1 y0 hj ht ey f5 f3 f2 f1 n35 n25 n15 n23 n13 n12 h5 h4 h3 h2 h1 gA ha hn1 hn0;omega), ?_⟩;have k6:Kp br H15 (upd H15 br (.lst (bs5.map V.ref++[V.ref sl]))):=Kp.set;refine ⟨_,_,_,_,_,_,_,_,_,_,rfl,⟨fun b u e=>k6 _ _ (WQ _ _ (S4 _ _ e)) (aB e f3),(R4.same (fW _ _) WQ).kp (fW _ _) k6 U4 n13 (by simp),B6, ?_,⟨ms.set y.1.toNat (cnt (ws.take j) y.1+1),k6 _ _ (WQ _ _ hm4) n35.symm,by simp [ml],fun h h0 h1=> ?_⟩⟩⟩
    ·rw [k6 _ _ (WQ _ _ Fz) n23,Rf,List.map_append,oN]
     rfl
    ·have tk:ws.take (j+1)=ws.take j++[y]:=by rw [List.take_add_one,ey];rfl
     rw [Cy y0 (by (clear tk h1 h0 bl5 U4 hsl rl4 Yq bl4 U5 hm4 Fz rl3 Ir hm3 QJ hg3 Zu hg2 v7 hm2 HW HY Ib Ie HS Ew Ey hm1 yJ vZ Vh R5 hm9 jP hm jH uw qw g0 rl hrs h_ g_ r0 hfr hgt hl0 oN y0 hj ht ey jl f5 f3 f2 f1 n35 n25 n15 n23 n13 n12 h5 h4 h3 h2 gA ha wl hn1 hn0;omega)) h0,tk,iR]
     by_cases e:h=y.1
     ·subst e;rw [if_pos rfl,if_pos rfl]
     ·rw [if_neg e,if_neg e];exact mg h h0 h1
  ·rintro σ H2 ⟨x1,x2,x3,x4,x5,x6,x7,x8,x9,x10,rfl,I⟩
   rw [gA] at I;refine ⟨_,rfl,_,rfl,(by show 2<=sizeLine;decide),fun p hp=> ?_⟩;have sp:=aF (o:=HO.tup [V.ref rw',V.ref br]) hp;exact k p rw' br _ aq (I.rows.same (fW _ _) sp).any (I.brt.same (pO _) sp).any f1 f3 (I.sm.trans sp)
def inP (i:Int) (n:Nat):Prop:=0<=i/\i<(n:Int)
instance (i:Int) (n:Nat):Decidable (inP i n):=inferInstanceAs (Decidable (_/\_))
def SN (K:PySem.W.Frag):Sp:=fun vs H Q _=>∃i:Int,vs=[.int i]/\Q (.bl true) H
theorem Ek {f:Addr} {fd:FuncData} (F:jW K "is_whole" "is_whole" fJ f fd) (Bt:oO mg):cj P w K mg base gZ 1 f fd ["value"] (SN K):=by
 refine F.ok DP (fun vs H Q E h=> ?_) (fun cdv A outer s H vs Q E hr h=> ?_)
 ·obtain ⟨i,rfl,_⟩:=h
  rfl
 ·obtain ⟨i,rfl,k⟩:=h
  refine ⟨_,(aH (bf (rC (aQ (fX (K:=K) (cv:= .ty "int") (c:= .type "int") rfl rfl) (by rfl) Bt.cT cC (ao (pv 0) (ao (iK (v:= .ty "int") (by rfl) Bt.Wf Ri rfl) aA))) (pC (Pn (aQ (fX (K:=K) (cv:= .ty "bool") (c:= .type "bool") rfl rfl) (by rfl) Bt.cT cC (ao (pv 0) (ao (iK (v:= .ty "bool") (by rfl) Bt.Ru Km rfl) aA)))))))), ?_⟩;refine ⟨_,rfl,_,_,true,rfl,.int i,vM K,true,rfl, ?_⟩;refine iY ?_;exact ⟨_,rfl,_,_,false,rfl,.int i,tV K,false,rfl,k⟩
def wF (K:PySem.W.Frag):Sp:=fun vs H Q _=>∃(i:Int) (n:Nat),vs=[.int i,.int n]/\Q (.bl (decide (inP i n))) H
theorem El {f:Addr} {fd:FuncData} (F:jW K "is_below" "is_below" fL f fd) (rZ:FnAt P w K mg base 1 "is_whole" ["value"] (SN K)):cj P w K mg base gZ 2 f fd ["value","count"] (wF K):=by
 refine F.ok DR (fun vs H Q E h=> ?_) (fun cdv A outer s H vs Q E hr h=> ?_)
 ·obtain ⟨i,n,rfl,_⟩:=h
  rfl
 ·obtain ⟨i,n,rfl,k⟩:=h
  refine ⟨_,(aH (bf (rC (bD rZ (hr.mono (by decide)) (by rfl) (ao (pv 0) aA)) (pC (Pr Py vI aG (pv 0) (pv 1)))))), ?_⟩;refine ⟨_,rfl,i,rfl,true,rfl, ?_⟩;refine iY ?_;refine ⟨_,rfl,_,_,rfl,rfl,_,rfl, ?_⟩;refine nW (fun h0=> ?_) (fun h0=> ?_)
  ·refine ⟨_,rfl,_,_,rfl,rfl, ?_⟩
   have e:decide (inP i n)=decide (i<(n:Int)):=by
    have h0:=of_decide_eq_true h0;rw [Bool.eq_iff_iff,decide_eq_true_iff,decide_eq_true_iff];exact ⟨fun z=>z.2,fun z=>⟨h0,z⟩⟩
   show Q (.bl (decide (i<(n:Int)))) H;rw [←e];exact k
  ·have e:decide (inP i n)=false:=decide_eq_false fun z=>h0 (decide_eq_true z.1)
   rw [←e];exact k
structure Rc where
 (o dx a nd kn tk pl:Addr)
 (ps:List Addr)
def Rc.fp (R:Rc):List Addr:=R.a::R.nd::R.kn::R.tk::R.ps
def rF (a nd kn tk pl:Addr):List (Str×V):=[("web",.ref a),("named",.ref nd),("knowns",.ref kn),("taken",.ref tk),("places",.ref pl)]
def lK (ws:List bM) (h:Int):List Nat:=(List.range ws.length).filter fun i=>decide (hnd ws i=h)
structure RcAt (C:Addr) (H:Hp) (R:Rc) (ws:List bM) (hn:Nat):Prop where
 o:H R.o=some (.ins C R.dx (rF R.a R.nd R.kn R.tk R.pl))
 web:dX H R.a ws
 named:m7 H R.nd (nm ws)
 Yd:lX H R.kn ws ws.length
 tkn:∃ts,gD H R.tk ts/\ts.Perm (iU ws ws.length)
 pl:H R.pl=some (.lst (R.ps.map V.ref))
 Np:R.ps.length=hn
 Zk:∀(h:Nat) (p:Addr),R.ps[h]? = some p->H p=some (.lst (d_ (lK ws (h:Int))))
 nd:R.fp.Nodup
 wL:R.pl∉R.fp
def qU (W:List Addr) (H H':Hp):Prop:=∀b u,H b=some u->b∉W->H' b=some u
theorem qU.trans {W:List Addr} {H H' Y_:Hp} (k:qU W H H') (k':qU W H' Y_):qU W H Y_:=fun b u e n=>k' b u (k b u e n) n
theorem qU.same {W:List Addr} {H H':Hp} (s:Same H H'):qU W H H':=fun b u e _=>s b u e
theorem qU.kp {W:List Addr} {x:Addr} {H H':Hp} (k:Kp x H H') (m:x∈W):qU W H H':=fun b u e n=>k b u e fun z=>n (z▸m)
theorem RcAt.same {C:Addr} {H H':Hp} {R:Rc} {ws:List bM} {hn:Nat} (r:RcAt C H R ws hn) (k:Same H H'):RcAt C H' R ws hn:=by
 obtain ⟨ts,t1,t2⟩:=r.tkn;exact ⟨k _ _ r.o,r.web.same k,r.named.same k,r.Yd.same k,⟨ts,t1.same k,t2⟩,k _ _ r.pl,r.Np,fun h p e=>k _ _ (r.Zk h p e),r.nd,r.wL⟩
theorem kY {ws:List bM} {x:bM} {i j:Nat} (hj:j<ws.length):vG (ws++[x]) i j=vG ws i j:=by
 unfold vG Wv
 by_cases l:i<j
 ·rw [List.getElem?_append_left (by omega),List.getElem?_append_left hj]
 ·rw [decide_eq_false l,Bool.false_and,Bool.false_and]
theorem qu {ws:List bM} {x:bM} {i j:Nat} (hj:j<ws.length):wk (ws++[x]) j i↔wk ws j i:=by
 constructor
 ·intro r
  induction r with
  | one h=>exact .one (by rwa [kY hj] at h)
  | more h r ih=>
    have:=ih.lt;exact .more (by rwa [kY (by (clear h hj;omega))] at h) ih
 ·intro r
  induction r with
  | one h=>exact .one (by rwa [kY hj])
  | more h r ih=>
    have:=r.lt;exact .more (by rwa [kY (by (clear h hj;omega))]) ih
theorem qN.snoc {ws:List bM} {x:bM} {j:Nat} {g:Int->Int} (h:qN ws j g) (hj:j<ws.length):qN (ws++[x]) j g:=by
 refine ⟨fun m y ey=> ?_,fun hh=> ?_⟩
 ·by_cases ml:m<ws.length
  ·rw [List.getElem?_append_left ml] at ey
   rw [List.take_append_of_le_length (by (clear ey hj;omega)),h.1 m y ey];constructor
   ·rintro (z|z)
    ·exact .inl z
    ·exact .inr ((qu hj).mpr z)
   ·rintro (z|z)
    ·exact .inl z
    ·exact .inr ((qu hj).mp z)
  ·have ml2:=(List.getElem?_eq_some_iff.mp ey).1
   rw [List.length_append,List.length_singleton] at ml2;have em:m=ws.length:=by (clear ey hj;omega)
   subst em;rw [List.take_append_of_le_length (Nat.le_refl _),List.take_length];have b1:=h.2 y.1;have b2:=jE ws y.1 (j+1) (ws.length - (j+1));rw [show j+1+(ws.length - (j+1))=ws.length by (clear b2 b1 ml2 ml ey;omega),List.take_length] at b2;constructor
   ·intro z;(clear ml2 ml ey hj;omega)
   ·rintro (z|z)
    ·omega
    ·have:=z.lt;(clear b2 b1 ml2 ml ey;omega)
 ·rw [List.take_append_of_le_length (by omega)]
  exact h.2 hh
theorem lX.snoc {H:Hp} {kn:Addr} {ws:List bM} {x:bM} (h:lX H kn ws ws.length):lX H kn (ws++[x]) ws.length:=by
 obtain ⟨rs,e,l,q⟩:=h;refine ⟨rs,e,l,fun j r hj=> ?_⟩;have jl:=(List.getElem?_eq_some_iff.mp hj).1;obtain ⟨g,a,b⟩:=q j r hj;exact ⟨g,a,b.snoc (by (clear hj e;omega))⟩
theorem Jh {ws:List bM} {x:bM} {j i:Nat} (hj:j<ws.length):eN (ws++[x]) j i=eN ws j i:=by
 unfold eN;refine List.filter_congr fun e _=> ?_
 have:Bare (ws++[x]) j e↔Bare ws j e:=by
  unfold Bare Kz;rw [kY hj];constructor
  ·rintro ⟨a,b⟩
   refine ⟨a,fun ⟨y,y1,y2,y3⟩=>b ⟨y,y1,by rw [kY hj];exact y2,y3.imp id (qu (by have:=uI y2;(clear y3 y2 y1 b a hj;omega))).mpr⟩⟩
  ·rintro ⟨a,b⟩
   refine ⟨a,fun ⟨y,y1,y2,y3⟩=> ?_⟩;rw [kY hj] at y2;exact b ⟨y,y1,y2,y3.imp id (qu (by have:=uI y2;(clear y3 y2 y1 b a hj;omega))).mp⟩
 by_cases q:Bare ws j e
 ·rw [decide_eq_true q,decide_eq_true (this.mpr q)]
 ·rw [decide_eq_false q,decide_eq_false (fun z=>q (this.mp z))]
theorem pU {ws:List bM} {x:bM} {i:Nat} (hi:i<ws.length):hnd (ws++[x]) i=hnd ws i:=by
 unfold hnd;rw [List.getElem?_append_left hi]
theorem Es {ws:List bM} {x:bM} {i j:Nat} (hi:i<ws.length) (hj:j<ws.length):lu (ws++[x]) i j=lu ws i j:=by
 unfold lu;rw [pU hi,pU hj,List.take_append_of_le_length (by (clear hj;omega)),List.take_append_of_le_length (by (clear hi;omega))]
theorem Cg {ws:List bM} {x:bM} {j:Nat} (hj:j<ws.length) {l:List Nat} (hl:∀e∈l,e<ws.length):cI (ws++[x]) j l=cI ws j l:=by
 unfold cI;rw [List.filter_congr (q:=fun e=>decide (¬hnd ws e=hnd ws j)) fun e he=>by rw [pU (hl e he),pU hj]];exact List.map_congr_left fun e he=>Es (hl e (List.mem_filter.mp he).1) hj
theorem zA {ws:List bM} {j i e:Nat} (hj:j<ws.length) (h:e∈eN ws j i):e<ws.length:=by
 rcases Rv h with q|q
 ·omega
 ·subst q
  unfold eN at h;have:=(List.mem_filter.mp h).1;obtain ⟨t,_,rfl⟩:=List.mem_map.mp this;omega
theorem Bd {ws:List bM} {x:bM}:∀n,n<=ws.length->iU (ws++[x]) n=iU ws n
 | 0,_=>rfl
 | n+1,h=>by
   rw [qG,qG,Bd n (by omega),Jh (by omega),Cg (by omega) fun e he=>zA (by omega) he]
theorem Eb (ws:List bM) (x:bM) (h:Int):lK (ws++[x]) h=lK ws h++(if x.1=h then [ws.length] else []):=by
 unfold lK;rw [List.length_append,List.length_singleton,List.range_succ,List.filter_append];congr 1
 ·refine List.filter_congr fun i hi=> ?_
  rw [pU (List.mem_range.mp hi)]
 ·have:hnd (ws++[x]) ws.length=x.1:=by unfold hnd;simp
  rw [List.filter_cons,this]
  by_cases e:x.1=h<;>simp [e]
theorem Ec (h:Int):∀(n:Nat) (ws:List bM),ws.length=n->((lK ws h).length:Int)=cnt ws h
 | 0,ws,e=>by
   cases ws with
   | nil=>rfl
   | cons _ _=>cases e
 | n+1,ws,e=>by
   rcases List.eq_nil_or_concat ws with rfl|⟨l,x,rfl⟩
   ·cases e
   ·have ih:=Ec h n l (by simpa using e)
    rw [List.concat_eq_append,Eb,List.length_append,iR]
    by_cases e:x.1=h
    ·rw [if_pos e,if_pos e.symm];simp;(clear e;omega)
    ·rw [if_neg e,if_neg (Ne.symm e)];simpa using ih
theorem JH (ws:List bM) (h:Int):((lK ws h).length:Int)=cnt ws h:=Ec h _ ws rfl
def sU (K:PySem.W.Frag):Sp:=fun vs H Q _=>∃(pl:Addr) (ps:List V) (h:Int),vs=[.ref pl,.int h]/\H pl=some (.lst ps)/\inP h ps.length/\Q .non H
theorem Lj {f:Addr} {fd:FuncData} (F:jW K "check_hand" "check_hand" dO f fd) (su:FnAt P w K mg base 2 "is_below" ["value","count"] (wF K)) (Bt:oO mg):cj P w K mg base gZ 3 f fd ["places","hand"] (sU K):=by
 refine F.ok zR (fun vs H Q E h=> ?_) (fun cdv A outer s H vs Q E hr h=> ?_)
 ·obtain ⟨pl,ps,h,rfl,_⟩:=h
  rfl
 ·obtain ⟨pl,ps,h,rfl,hp,hi,k⟩:=h
  refine ⟨_,(aH (cW (fZ (fB (bD su (hr.mono (by decide)) (by rfl) (ao (pv 1) (ao (aQ (aP (K:=K) rfl) (by rfl) Bt.dW cB (ao (pv 0) aA)) aA))))) (aH tG) bF)), ?_⟩;refine ⟨_,rfl,_,rfl,pl,_,rfl,.inl (aV.of hp),h,ps.length,rfl,_,rfl, ?_⟩;rw [decide_eq_true hi];refine dJ ?_;exact k
def sS (C:Addr) (K:PySem.W.Frag):Sp:=fun vs H Q _=>∃(o dx:Addr) (hn:Int),vs=[.ref o,.int hn]/\H o=some (.ins C dx [])/\1<=hn/\hn<=8 /\
 ∀(R:Rc) (H':Hp),R.o=o->RcAt C H' R [] hn.toNat->(∀b∈R.fp,H b=none)->H R.pl=none->Kp o H H'->Q .non H'
theorem P_ {ak:Addr} {f:Addr} {fd:FuncData} (F:jW K "__init__" "Recorder.__init__" cH f fd) (au:bN K ak) (rZ:FnAt P w K mg base 1 "is_whole" ["value"] (SN K)) (kj:Gv mg "MOST_HANDS" (.int 8)) (Bt:oO mg):cj P w K mg base gZ 2 f fd ["self","hands"] (sS ak K):=by
 refine F.ok uP (fun vs H Q E h=> ?_) (fun cdv A outer s H vs Q E hr h=> ?_)
 ·obtain ⟨o,dx,hn,rfl,_⟩:=h
  rfl
 ·obtain ⟨o,dx,hn,rfl,ho,hn0,hn1,k⟩:=h
  refine ⟨_,(aD (cW (PW.pt (jU (fZ (fB (bD rZ (hr.mono (by decide)) (by rfl) (ao (pv 1) aA)))) (jg (fZ (Pa Py Py aG (pv 1) (tQ (by rfl) kj.choose_spec.1 kj.choose_spec.2)))))) (aH tG) bF)
   (aD (dF (K:=K) rfl (pv 0) (bV aA) rfl)
   (aD (dF (K:=K) rfl (pv 0) (bV aA) rfl)
   (aD (dF (K:=K) rfl (pv 0) (bV aA) rfl)
   (aD (dF (K:=K) rfl (pv 0) (bV aA) rfl)
   (aH (dF (K:=K) rfl (pv 0) (eV rfl (N:=["hand"]) (own:=["hand"]) (caps:=[]) (bh.of (by kernel_rfl)) (d7 (by rfl) Bt.fP (ao (pv 1) aA)) (fun _ _ _ _=>(aX (i:=0) (show List.Nodup (["hand"]:List Str) by decide +kernel) rfl (Or.inl rfl))) (fun _ _ _ _=>eE) (fun _ _ _ _=>(bV aA))) rfl))))))), ?_⟩
  refine ⟨_,rfl,hn,rfl,_,rfl, ?_⟩;refine dJ ?_;refine ⟨_,rfl,_,_,rfl,rfl,_,rfl, ?_⟩;refine nW (fun _=> ?_) (fun z=>absurd (decide_eq_true hn0) z);refine ⟨_,_,rfl,rfl,_,rfl, ?_⟩;rw [decide_eq_true hn1];refine dJ ?_;refine ⟨(by show 0<=sizeLine;decide),fun a ha=> ?_⟩;have na:a≠o:=(aB ho ha).symm;refine ⟨_,rfl,o,ak,dx,_,rfl,aF ha _ _ ho,au.cls,au.Al,(by show 0<1000;decide), ?_⟩;refine ⟨(by show 0<=sizeLine;decide),fun nd zX=> ?_⟩;have k1:Kp o H (upd (upd H a (.lst [])) o (.ins ak dx (dI "web" (.ref a) []))):=(Kp.of_same (aF ha)).trans Kp.set;have ha1:(upd (upd H a (.lst [])) o (.ins ak dx (dI "web" (.ref a) []))) a=some (.lst []):=by rw [aO na,aq]
  have ho1:(upd (upd H a (.lst [])) o (.ins ak dx (dI "web" (.ref a) []))) o=some (.ins ak dx [("web",.ref a)]):=aq;generalize (upd (upd H a (.lst [])) o (.ins ak dx (dI "web" (.ref a) [])))=H1 at k1 ha1 ho1 zX ⊢;have V1:nd≠o:=(aB ho1 zX).symm;refine ⟨_,rfl,o,ak,dx,_,rfl,aF zX _ _ ho1,au.cls,au.qy,(by show 1<1000;decide), ?_⟩;have k2:Kp o H1 (upd (upd H1 nd (.lst [])) o (.ins ak dx (dI "named" (.ref nd) [("web",.ref a)]))):=(Kp.of_same (aF zX)).trans Kp.set;have Ml:(upd (upd H1 nd (.lst [])) o (.ins ak dx (dI "named" (.ref nd) [("web",.ref a)]))) nd=some (.lst []):=by rw [aO V1,aq]
  have ho2:(upd (upd H1 nd (.lst [])) o (.ins ak dx (dI "named" (.ref nd) [("web",.ref a)]))) o=some (.ins ak dx [("web",.ref a),("named",.ref nd)]):=aq;refine ⟨(by show 0<=sizeLine;decide),fun kn hkn=> ?_⟩;generalize (upd (upd H1 nd (.lst [])) o (.ins ak dx (dI "named" (.ref nd) [("web",.ref a)])))=H2 at k2 Ml ho2 hkn ⊢;have Xy:kn≠o:=(aB ho2 hkn).symm;have ha2:=k2 _ _ ha1 na;refine ⟨_,rfl,o,ak,dx,_,rfl,aF hkn _ _ ho2,au.cls,au.mR,(by show 2<1000;decide), ?_⟩;have k3:Kp o H2 (upd (upd H2 kn (.lst [])) o (.ins ak dx (dI "knowns" (.ref kn) [("web",.ref a),("named",.ref nd)]))):=(Kp.of_same (aF hkn)).trans Kp.set;have Mq:(upd (upd H2 kn (.lst [])) o (.ins ak dx (dI "knowns" (.ref kn) [("web",.ref a),("named",.ref nd)]))) kn=some (.lst []):=by rw [aO Xy,aq]
  have Iu:(upd (upd H2 kn (.lst [])) o (.ins ak dx (dI "knowns" (.ref kn) [("web",.ref a),("named",.ref nd)]))) o=some (.ins ak dx [("web",.ref a),("named",.ref nd),("knowns",.ref kn)]):=aq;refine ⟨(by show 0<=sizeLine;decide),fun tk htk=> ?_⟩;generalize (upd (upd H2 kn (.lst [])) o (.ins ak dx (dI "knowns" (.ref kn) [("web",.ref a),("named",.ref nd)])))=H3 at k3 Mq Iu htk ⊢;have Zm:tk≠o:=(aB Iu htk).symm;have ha3:=k3 _ _ ha2 na;have QC:=k3 _ _ Ml V1;refine ⟨_,rfl,o,ak,dx,_,rfl,aF htk _ _ Iu,au.cls,au.qx,(by show 3<1000;decide), ?_⟩;have k4:Kp o H3 (upd (upd H3 tk (.lst [])) o (.ins ak dx (dI "taken" (.ref tk) [("web",.ref a),("named",.ref nd),("knowns",.ref kn)]))):=(Kp.of_same (aF htk)).trans Kp.set;have Ip:(upd (upd H3 tk (.lst [])) o (.ins ak dx (dI "taken" (.ref tk) [("web",.ref a),("named",.ref nd),("knowns",.ref kn)]))) tk=some (.lst []):=by rw [aO Zm,aq]
  have Dr:(upd (upd H3 tk (.lst [])) o (.ins ak dx (dI "taken" (.ref tk) [("web",.ref a),("named",.ref nd),("knowns",.ref kn)]))) o=some (.ins ak dx [("web",.ref a),("named",.ref nd),("knowns",.ref kn),("taken",.ref tk)]):=aq;generalize (upd (upd H3 tk (.lst [])) o (.ins ak dx (dI "taken" (.ref tk) [("web",.ref a),("named",.ref nd),("knowns",.ref kn)])))=H4 at k4 Ip Dr ⊢;have Zt:=k4 _ _ ha3 na;have Mj:=k4 _ _ QC V1;have Mp:=k4 _ _ Mq Xy;have k04:=((k1.trans k2).trans k3).trans k4;refine ⟨_,rfl,hn,rfl,by (clear Mp Mj Zt Dr Ip QC ha3 Zm htk Iu Mq ha2 Xy hkn ho2 Ml V1 zX ho1 ha1 na ha hn1 ho;omega),by (clear Mp Mj Zt Dr Ip QC ha3 Zm htk Iu Mq ha2 Xy hkn ho2 Ml V1 zX ho1 ha1 na ha hn0 ho;omega),fun pl hpl=> ?_⟩;have npo:pl≠o:=(aB Dr hpl).symm
  refine rO (lo:=0) (n:=hn.toNat) (fun i σ H5=>(∃v,σ=[v]) /\ ∃ps:List Addr,ps.length=i/\H5 pl=some (.lst (ps.map V.ref))/\(∀p∈ps,H4 p=none/\p≠pl/\H5 p=some (.lst []))/\ps.Nodup/\Same H4 H5)
   ⟨⟨none,rfl⟩,[],rfl,aq,fun _ z=>absurd z (by simp),List.nodup_nil,aF hpl⟩ ?_ ?_
  ·rintro i σ H5 hi ⟨⟨v,rfl⟩,ps,pl5,zW,pq,pnd,s5⟩
   refine ⟨(by show 0<=sizeLine;decide),fun q hq=> ?_⟩;have sq:=aF (o:=HO.lst []) hq;have nqp:q≠pl:=(aB zW hq).symm;refine ⟨_,sq _ _ zW,by rw [List.length_map,sizeLine_eq];(clear nqp hq zW npo hpl Mp Mj Zt Dr Ip QC ha3 Zm htk Iu Mq ha2 Xy hkn ho2 Ml V1 zX ho1 ha1 na ha hn0 ho;omega),⟨_,rfl⟩,ps++[q],by simp [pl5],by rw [aq,List.map_append];rfl,fun p hp=> ?_, ?_,(s5.trans sq).newly hpl⟩
   ·rcases List.mem_append.mp hp with hp|hp
    ·obtain ⟨p1,p2,p3⟩:=pq p hp
     exact ⟨p1,p2,by rw [aO p2];exact sq _ _ p3⟩
    ·have:p=q:=by simpa using hp
     subst this;exact ⟨s5.free hq,nqp,by rw [aO nqp,aq]⟩
   ·rw [List.nodup_append]
    refine ⟨pnd,by simp,fun x hx y hy e=> ?_⟩;have:y=q:=by simpa using hy
    subst this;subst e;have:=(pq x hx).2.2;rw [hq] at this;cases this
  ·rintro σ H5 ⟨⟨v,rfl⟩,ps,pl5,zW,pq,pnd,s5⟩
   refine ⟨_,rfl,o,ak,dx,_,rfl,s5 _ _ Dr,au.cls,au.fU,(by show 4<1000;decide), ?_⟩;have k6:Kp o H5 (upd H5 o (.ins ak dx (dI "places" (.ref pl) [("web",.ref a),("named",.ref nd),("knowns",.ref kn),("taken",.ref tk)]))):=Kp.set;have mv:∀{b u},H4 b=some u->b≠o->(upd H5 o (.ins ak dx (dI "places" (.ref pl) [("web",.ref a),("named",.ref nd),("knowns",.ref kn),("taken",.ref tk)]))) b=some u:=fun e n=>k6 _ _ (s5 _ _ e) n
   have np:∀p∈ps,p≠o:=fun p hp z=>by
    subst z;rw [(pq p hp).1] at Dr;cases Dr
   have nn:∀{b u},H4 b=some u->b∉ps:=fun e m=>by rw [(pq _ m).1] at e;cases e
   have n1:a≠nd:=aB ha1 zX;have n2:a≠kn:=aB ha2 hkn;have n3:a≠tk:=aB ha3 htk;have n4:nd≠kn:=aB Ml hkn;have n5:nd≠tk:=aB QC htk;have n6:kn≠tk:=aB Mq htk
   have f4:∀{b},b≠o->H4 b=none->H b=none:=fun n e=>by
    cases q:H _ with
    | none=>rfl
    | some u=>rw [k04 _ _ q n] at e;cases e
   refine k ⟨o,dx,a,nd,kn,tk,pl,ps⟩ _ rfl ⟨aq,⟨[],mv Zt na,by simp [aM]⟩,⟨[],mv Mj V1,by simp [nm,aM]⟩,⟨[],mv Mp Xy,rfl,fun j r hj=>by simp at hj⟩,⟨[],⟨[],mv Ip Zm,by simp [aM]⟩,by simp [iU]⟩,k6 _ _ zW npo,by rw [pl5],fun h p e=> ?_, ?_, ?_⟩ (fun b hb=> ?_) (f4 npo hpl) (fun b u e n=>k6 _ _ (s5 _ _ (k04 _ _ e n)) n)
   ·have hm:p∈ps:=List.mem_of_getElem? e
    rw [k6 _ _ (pq p hm).2.2 (np p hm)];rfl
   ·show (a::nd::kn::tk::ps).Nodup
    rw [List.nodup_cons,List.nodup_cons,List.nodup_cons,List.nodup_cons];refine ⟨?_, ?_, ?_,nn Ip,pnd⟩
    ·simp [n1,n2,n3,nn Zt]
    ·simp [n4,n5,nn Mj]
    ·simp [n6,nn Mp]
   ·show pl∉(a::nd::kn::tk::ps)
    have q1:pl≠a:=(aB Zt hpl).symm;have q2:pl≠nd:=(aB Mj hpl).symm;have q3:pl≠kn:=(aB Mp hpl).symm;have q4:pl≠tk:=(aB Ip hpl).symm;have q5:pl∉ps:=fun m=>(pq pl m).2.1 rfl;simp [q1,q2,q3,q4,q5]
   ·have hb:b∈(a::nd::kn::tk::ps):=hb
    simp only [List.mem_cons] at hb;rcases hb with rfl|rfl|rfl|rfl|hb
    ·exact ha
    ·cases q:H _ with
     | none=>rfl
     | some u=>rw [k1 _ _ q V1] at zX;cases zX
    ·cases q:H _ with
     | none=>rfl
     | some u=>rw [(k1.trans k2) _ _ q Xy] at hkn;cases hkn
    ·cases q:H _ with
     | none=>rfl
     | some u=>rw [((k1.trans k2).trans k3) _ _ q Zm] at htk;cases htk
    ·exact f4 (np b hb) (pq b hb).1
theorem take_snoc {ws:List bM} {i:Nat} {x:bM} (e:ws[i]? = some x):ws.take i++[x]=ws.take (i+1):=by
 obtain ⟨l,rfl⟩:=List.getElem?_eq_some_iff.mp e;exact List.take_append_getElem l
def Jz (C:Addr) (K:PySem.W.Frag):Sp:=fun vs H Q _=>∃(R:Rc) (ws:List bM) (hn:Nat) (h cl:Int) (kd:Str),vs=[.ref R.o,.int h,.str kd,.int cl]/\RcAt C H R ws hn/\ws.length<300/\(∀x∈ws,0<=x.1/\x.1<8)/\0<=h/\h<hn/\hn<=8 /\
 ∀(r:Addr) (ns:List Nt) (H':Hp),H r=none->gD H' r ns->ns.Perm (cI (ws++[(h,kd,cl)]) ws.length (eN (ws++[(h,kd,cl)]) ws.length ws.length))->wu ns->RcAt C H' R (ws++[(h,kd,cl)]) hn->qU R.fp H H'->Q (.ref r) H'
theorem Xq {ak:Addr} {f:Addr} {fd:FuncData} (F:jW K "did" "Recorder.did" cQ f fd) (au:bN K ak) (oA:FnAt P w K mg base 3 "check_hand" ["places","hand"] (sU K)) (Di:FnAt P w K mg base 3 "bare_steps" ["web","named","knowns","place"] (G_ K)) (Jl:FnAt P w K mg base 1 "notes_to" ["named","bare","name"] (uL K)) (Bt:oO mg):cj P w K mg base gZ 4 f fd ["self","hand","kind","cell"] (Jz ak K):=by
 refine F.ok fQ (fun vs H Q E h=> ?_) (fun cdv A outer s H vs Q E hr h=> ?_)
 ·obtain ⟨R,ws,hn,h,cl,kd,rfl,_⟩:=h
  rfl
 ·obtain ⟨R,ws,hn,h,cl,kd,rfl,r,wl,VR,h0,h1,h8,k⟩:=h
  refine ⟨_,(aD (cg (bD oA (hr.mono (by decide)) (by rfl) (ao (bI (K:=K) rfl (pv 0) rfl) (ao (pv 1) aA))))
   (aD (bw (i:=4) fQ.nd rfl (Or.inl rfl) (aQ (aP (K:=K) rfl) (by rfl) Bt.dW cB (ao (bI (K:=K) rfl (pv 0) rfl) aA)))
   (aD (bw (i:=5) fQ.nd rfl (Or.inl rfl) (jN (ao (pv 1) (ao (aQ (aP (K:=K) rfl) (by rfl) Bt.dW cB (ao (aN (aJ (K:=K) rfl) (bI (K:=K) rfl (pv 0) rfl) (pv 1) (fun _ _=>rfl)) aA)) aA))))
   (aD (cg (dz (K:=K) rfl (bI (K:=K) rfl (pv 0) rfl) (ao (jN (ao (pv 1) (ao (pv 2) (ao (pv 3) aA)))) aA)))
   (aD (cg (dz (K:=K) rfl (bI (K:=K) rfl (pv 0) rfl) (ao (pv 5) aA)))
   (aD (cg (dz (K:=K) rfl (aN (aJ (K:=K) rfl) (bI (K:=K) rfl (pv 0) rfl) (pv 1) (fun _ _=>rfl)) (ao (pv 4) aA)))
   (aD (bw (i:=6) fQ.nd rfl (Or.inl rfl) (bD Di (hr.mono (by decide)) (by rfl) (ao (bI (K:=K) rfl (pv 0) rfl) (ao (bI (K:=K) rfl (pv 0) rfl) (ao (bI (K:=K) rfl (pv 0) rfl) (ao (pv 4) aA))))))
   (aD (cg (dz (K:=K) rfl (bI (K:=K) rfl (pv 0) rfl) (ao (aN (bL (K:=K) rfl) (pv 6) aG (fun _ _=>rfl)) aA)))
   (aD (bw (i:=7) fQ.nd rfl (Or.inl rfl) (aQ (lW (K:=K) rfl) (by rfl) Bt.uf qF (ao (bD Jl (hr.mono (by decide)) (by rfl) (ao (bI (K:=K) rfl (pv 0) rfl) (ao (aN (bL (K:=K) rfl) (pv 6) aG (fun _ _=>rfl)) (ao (pv 5) aA)))) aA)))
   (aD (cg (mj (K:=K) rfl PySem.F.plainAttrs_list PySem.F.slot_list_extend PySem.F.type_list_extend uU (bI (K:=K) rfl (pv 0) rfl) (ao (pv 7) aA)))
   (aH (bf (pv 7))))))))))))), ?_⟩
  obtain ⟨ro,rw0,rnd,rkn,⟨ts,rtk,tp⟩,jH,Dm,rps,nd0,wL⟩:=r;obtain ⟨wv,hw,dw⟩:=id rw0;obtain ⟨nv,wM,dn⟩:=id rnd;obtain ⟨tv,htv,dt⟩:=id rtk;have vB:wv.length=ws.length:=by rw [dw.length,List.length_map]
  have Ak:nv.length=ws.length:=by rw [dn.length,List.length_map,Lx]
  have Dl:tv.length<=ws.length*ws.length:=by rw [dt.length,List.length_map,tp.length_eq];exact uh ws _
  have tq:ws.length*ws.length<=300*300:=Nat.mul_le_mul (by (clear Dl Ak vB htv wM hw wL Dm jH ro h8 h1 h0;omega)) (by (clear Dl Ak vB htv wM hw wL Dm jH ro h8 h1 h0;omega));obtain ⟨hN,rfl⟩:∃m:Nat,h=m:=⟨h.toNat,by (clear tq Dl Ak vB htv wM hw wL Dm jH ro h8 h1 wl;omega)⟩;have tH:hN<R.ps.length:=by (clear h0 tq Dl Ak vB htv wM hw wL jH ro h8 wl;omega)
  obtain ⟨p,ep⟩:∃p,R.ps[hN]? = some p:=⟨R.ps[hN],by simp [tH]⟩;have hp:=rps hN p ep;have pm:p∈R.ps:=List.mem_of_getElem? ep;have hps:(R.ps.map V.ref)[hN]? = some (.ref p):=by rw [List.getElem?_map,ep];rfl
  have nd1:(R.a::R.nd::R.kn::R.tk::R.ps).Nodup:=nd0;simp only [List.nodup_cons,List.mem_cons,not_or] at nd1;obtain ⟨⟨n1,n2,n3,n4⟩,⟨n5,n6,n7⟩,⟨n8,n9⟩,n10,pnd⟩:=nd1;have np1:R.pl∉(R.a::R.nd::R.kn::R.tk::R.ps):=wL;simp only [List.mem_cons,not_or] at np1;obtain ⟨q1,q2,q3,q4,q5⟩:=np1;have Ep:R.a≠p:=fun z=>n4 (z▸pm);have Eo:R.nd≠p:=fun z=>n7 (z▸pm);have Gx:R.kn≠p:=fun z=>n9 (z▸pm);have Gu:R.tk≠p:=fun z=>n10 (z▸pm);have Gw:R.pl≠p:=fun z=>q5 (z▸pm);have noL:∀{b:Addr} {ys:List V},H b=some (.lst ys)->R.o≠b:=fun e=>jx ro e (by intro z;cases z);have Dn:=noL hw;have non:=noL wM;have nop:=noL hp;have not_:=noL htv;obtain ⟨_,hkv,_⟩:=id rkn;have Gy:=noL hkv;have D_:(d_ (lK ws (hN:Int))).length=(lK ws (hN:Int)).length:=by rw [d_,List.length_map]
  have plb:(lK ws (hN:Int)).length<=ws.length:=by unfold lK;exact Nat.le_trans (List.length_filter_le _ _) (by simp)
  refine ⟨_,rfl,R.o,ak,R.dx,_,_,rfl,ro,au.cls,au.fU,rfl,_,rfl,R.pl,R.ps.map V.ref,(hN:Int),rfl,jH,⟨by (clear plb D_ Gy hkv not_ nop non Dn Gw Gu Gx Eo Ep q5 q4 q3 q2 q1 n10 n9 n8 n7 n6 n5 n4 n3 n2 n1 hps hp ep tH h1 h0 tq Dl Ak vB htv wM hw wL Dm jH ro h8 wl;omega),by rw [List.length_map];(clear plb D_ Gy hkv not_ nop non Dn Gw Gu Gx Eo Ep q5 q4 q3 q2 q1 n10 n9 n8 n7 n6 n5 n4 n3 n2 n1 hps hp ep tH h0 tq Dl Ak vB htv wM hw wL jH ro h8 wl;omega)⟩, ?_⟩;refine ⟨_,rfl,R.o,ak,R.dx,_,_,rfl,ro,au.cls,au.Al,rfl,R.a,wv,rfl,.inl (aV.of hw), ?_⟩;rw [vB];refine ⟨_,rfl,_,rfl,R.o,ak,R.dx,_,_,rfl,ro,au.cls,au.fU,rfl,_,rfl,_,_,_,_,rfl,rfl,aV.of jH,aU hps,p,_,rfl,.inl (aV.of hp),(by show 2<=sizeLine;decide),fun tn htn=> ?_⟩;rw [D_,JH];have s1:=aF (o:=HO.tup [V.int hN,V.int (cnt ws (hN:Int))]) htn;have qJ:(upd H tn (.tup [V.int hN,V.int (cnt ws (hN:Int))])) tn=some (.tup [V.int hN,V.int (cnt ws (hN:Int))]):=aq;generalize (upd H tn (.tup [V.int hN,V.int (cnt ws (hN:Int))]))=H1 at s1 qJ ⊢;refine ⟨_,rfl,R.o,ak,R.dx,_,_,rfl,s1 _ _ ro,au.cls,au.Al,rfl,.inl ⟨rfl,_,aV.of (s1 _ _ hw)⟩,_,rfl,_,rfl,_,rfl,(by show 3<=sizeLine;decide),fun tw htw=> ?_⟩;have s2:=aF (o:=HO.tup [V.int hN,V.str kd,V.int cl]) htw;have rK:(upd H1 tw (.tup [V.int hN,V.str kd,V.int cl])) tw=some (.tup [V.int hN,V.str kd,V.int cl]):=aq;generalize (upd H1 tw (.tup [V.int hN,V.str kd,V.int cl]))=H2 at s2 rK ⊢;have s12:=s1.trans s2;refine ⟨R.a,_,_,rfl,rfl,s12 _ _ hw,by rw [vB,sizeLine_eq];(clear rK htw qJ htn plb D_ Gy hkv not_ nop non Dn Gw Gu Gx Eo Ep q5 q4 q3 q2 q1 n10 n9 n8 n7 n6 n5 n4 n3 n2 n1 hps hp ep tH h1 h0 tq Dl Ak vB htv wM hw wL Dm jH ro h8;omega), ?_⟩;have k3:Kp R.a H2 (upd H2 R.a (.lst (wv++[V.ref tw]))):=Kp.set;have t3:=k3.tups (s12 _ _ hw);have J6:(upd H2 R.a (.lst (wv++[V.ref tw]))) R.a=some (.lst (wv++[V.ref tw])):=aq;generalize (upd H2 R.a (.lst (wv++[V.ref tw])))=H3 at k3 t3 J6 ⊢;have qK:=k3 _ _ (s12 _ _ wM) (Ne.symm n1);refine ⟨_,rfl,R.o,ak,R.dx,_,_,rfl,k3 _ _ (s12 _ _ ro) Dn,au.cls,au.qy,rfl,.inl ⟨rfl,_,aV.of qK⟩,_,rfl,R.nd,_,_,rfl,rfl,qK,by rw [Ak,sizeLine_eq];(clear qK J6 rK htw qJ htn plb D_ Gy hkv not_ nop non Dn Gw Gu Gx Eo Ep q5 q4 q3 q2 q1 n10 n9 n8 n7 n6 n5 n4 n3 n2 n1 hps hp ep tH h1 h0 tq Dl Ak vB htv wM hw wL Dm jH ro h8;omega), ?_⟩;have k4:Kp R.nd H3 (upd H3 R.nd (.lst (nv++[V.ref tn]))):=Kp.set;have t4:=k4.tups qK;have Fy:(upd H3 R.nd (.lst (nv++[V.ref tn]))) R.nd=some (.lst (nv++[V.ref tn])):=aq;generalize (upd H3 R.nd (.lst (nv++[V.ref tn])))=H4 at k4 t4 Fy ⊢;have mv4:∀{b u},H b=some u->b≠R.a->b≠R.nd->H4 b=some u:=fun e a b=>k4 _ _ (k3 _ _ (s12 _ _ e) a) b;have Dq:=mv4 hp Ep.symm Eo.symm;refine ⟨_,rfl,R.o,ak,R.dx,_,_,rfl,mv4 ro Dn non,au.cls,au.fU,rfl,_,rfl,_,_,_,_,rfl,rfl,aV.of (mv4 jH q1 q2),aU hps,.inl ⟨rfl,_,aV.of Dq⟩,_,rfl,p,_,_,rfl,rfl,Dq,by rw [D_,sizeLine_eq];(clear Dq Fy qK J6 rK htw qJ htn D_ Gy hkv not_ nop non Dn Gw Gu Gx Eo Ep q5 q4 q3 q2 q1 n10 n9 n8 n7 n6 n5 n4 n3 n2 n1 hps hp ep tH h1 h0 tq Dl Ak vB htv wM hw wL Dm jH ro h8;omega), ?_⟩;have k5:Kp p H4 (upd H4 p (.lst (d_ (lK ws (hN:Int))++[V.int (ws.length:Int)]))):=Kp.set;have t5:=k5.tups Dq;have zW:(upd H4 p (.lst (d_ (lK ws (hN:Int))++[V.int (ws.length:Int)]))) p=some (.lst (d_ (lK ws (hN:Int))++[V.int (ws.length:Int)])):=aq;generalize (upd H4 p (.lst (d_ (lK ws (hN:Int))++[V.int (ws.length:Int)])))=H5 at k5 t5 zW ⊢;have Zq:∀{b u},H b=some u->b≠R.a->b≠R.nd->b≠p->H5 b=some u:=fun e a b c=>k5 _ _ (mv4 e a b) c;have tt5:∀a xs,H a=some (HO.tup xs)->H5 a=some (HO.tup xs):=fun a xs e=>t5 _ _ (t4 _ _ (t3 _ _ (s12 _ _ e)))
  have W5:dX H5 R.a (ws++[((hN:Int),kd,cl)]):=by
   refine ⟨wv++[V.ref tw],k5 _ _ (k4 _ _ J6 n1) Ep, ?_⟩;rw [List.map_append];refine aM.append (aM.keep tt5 _ (bJ _ ji _) dw) ⟨CN (x:=((hN:Int),kd,cl)) (t5 _ _ (t4 _ _ (t3 _ _ rK))),trivial⟩
  have N5:m7 H5 R.nd (nm (ws++[((hN:Int),kd,cl)])):=by
   refine ⟨nv++[V.ref tn],k5 _ _ Fy Eo, ?_⟩;rw [Uk,List.map_append];refine aM.append (aM.keep tt5 _ (bJ _ Cr _) dn) ⟨Vg (x:=((hN:Int),cnt ws (hN:Int))) (t5 _ _ (t4 _ _ (t3 _ _ (s2 _ _ qJ)))),trivial⟩
  have K5:lX H5 R.kn (ws++[((hN:Int),kd,cl)]) ws.length:=((((rkn.snoc.same s12).kp k3 (s12 _ _ hw) (Ne.symm n2)).kp k4 qK (Ne.symm n5)).kp k5 Dq Gx);have T5:H5 R.tk=some (.lst tv):=Zq htv (Ne.symm n3) (Ne.symm n6) Gu;have kl5:qU R.fp H H5:=fun b u e n=>Zq e (fun z=>n (z ▸ .head _)) (fun z=>n (z ▸ .tail _ (.head _))) (fun z=>n (z ▸ .tail _ (.tail _ (.tail _ (.tail _ pm)))));have Hs:=Zq ro Dn non nop;have xZ:=Zq jH q1 q2 Gw
  have ps5:∀(h:Nat) (x:Addr),R.ps[h]? = some x->H5 x=some (.lst (d_ (lK (ws++[((hN:Int),kd,cl)]) (h:Int)))):=fun h x e=>by
   have xm:x∈R.ps:=List.mem_of_getElem? e;rw [Eb]
   by_cases eh:h=hN
   ·subst eh
    rw [ep] at e;cases e;rw [zW,if_pos rfl];simp [d_]
   ·rw [if_neg (by show ¬(hN:Int)=(h:Int);(clear e xZ Hs T5 zW Dq Fy qK J6 rK htw qJ htn plb D_ Gy hkv not_ nop non Dn Gw Gu Gx Eo Ep q5 q4 q3 q2 q1 n10 n9 n8 n7 n6 n5 n4 n3 n2 n1 hps hp ep tH h1 h0 tq Dl Ak vB htv wM hw wL Dm jH ro h8 wl;omega)),List.append_nil]
    refine Zq (rps h x e) (fun z=>n4 (z▸xm)) (fun z=>n7 (z▸xm)) fun z=>eh ?_;subst z;have l1:=(List.getElem?_eq_some_iff.mp e).1;rw [←ep] at e;exact (List.getElem?_inj l1 pnd).mp e
  have afx:∀x∈ws++[((hN:Int),kd,cl)],0<=x.1/\x.1<8:=fun x hx=>by
   rcases List.mem_append.mp hx with hx|hx
   ·exact VR x hx
   ·have:x=((hN:Int),kd,cl):=by simpa using hx
    subst this;exact ⟨by show 0<=(hN:Int);(clear xZ Hs T5 zW Dq Fy qK J6 rK htw qJ htn plb D_ Gy hkv not_ nop non Dn Gw Gu Gx Eo Ep q5 q4 q3 q2 q1 n10 n9 n8 n7 n6 n5 n4 n3 n2 n1 hps hp ep tH h1 h0 tq Dl Ak vB htv wM hw wL Dm jH ro h8 wl;omega),by show (hN:Int)<8;(clear xZ Hs T5 zW Dq Fy qK J6 rK htw qJ htn plb D_ Gy hkv not_ nop non Dn Gw Gu Gx Eo Ep q5 q4 q3 q2 q1 n10 n9 n8 n7 n6 n5 n4 n3 n2 n1 hps hp ep tH h0 tq Dl Ak vB htv wM hw wL Dm jH ro wl;omega)⟩
  have f5:∀{b},H5 b=none->H b=none:=fun {b} e=>by
   cases q:H b with
   | none=>rfl
   | some u=>
     by_cases c1:b=R.a
     ·subst c1;obtain ⟨_,z,_⟩:=W5;rw [z] at e;cases e
     ·by_cases c2:b=R.nd
      ·subst c2;obtain ⟨_,z,_⟩:=N5;rw [z] at e;cases e
      ·by_cases c3:b=p
       ·subst c3;rw [zW] at e;cases e
       ·rw [Zq q c1 c2 c3] at e;cases e
  have Zf:(ws++[((hN:Int),kd,cl)]).length=ws.length+1:=by simp
  have hnx:hnd (ws++[((hN:Int),kd,cl)]) ws.length=(hN:Int):=by unfold hnd;simp
  have Vz:(ws++[((hN:Int),kd,cl)]).take ws.length=ws:=by simp
  have Fv:H5 tn=some (.tup [V.int hN,V.int (cnt ws (hN:Int))]):=t5 _ _ (t4 _ _ (t3 _ _ (s2 _ _ qJ)));have al:=Bd (x:=((hN:Int),kd,cl)) ws.length (Nat.le_refl _);have as:=qG (ws++[((hN:Int),kd,cl)]) ws.length;generalize ws++[((hN:Int),kd,cl)]=ws' at *;refine ⟨_,rfl,R.o,ak,R.dx,_,_,rfl,Hs,au.cls,au.Al,rfl,_,rfl,R.o,ak,R.dx,_,_,rfl,Hs,au.cls,au.qy,rfl,_,rfl,R.o,ak,R.dx,_,_,rfl,Hs,au.cls,au.mR,rfl,_,rfl,R.a,R.nd,R.kn,ws',ws.length,rfl,W5,N5,K5,by (clear as al Vz hnx Fv xZ Hs T5 zW Dq Fy qK J6 rK htw qJ htn plb D_ Gy hkv not_ nop non Dn Gw Gu Gx Eo Ep q5 q4 q3 q2 q1 n10 n9 n8 n7 n6 n5 n4 n3 n2 n1 hps hp ep tH h1 h0 tq Dl Ak vB htv wM hw wL Dm jH ro h8 wl;omega),by (clear as al Vz hnx Fv xZ Hs T5 zW Dq Fy qK J6 rK htw qJ htn plb D_ Gy hkv not_ nop non Dn Gw Gu Gx Eo Ep q5 q4 q3 q2 q1 n10 n9 n8 n7 n6 n5 n4 n3 n2 n1 hps hp ep tH h1 h0 tq Dl Ak vB htv wM hw wL Dm jH ro h8;omega),afx,fun pr b d g H6 hpr hb kd6 ko hb0 hd0 hp0 s6=> ?_⟩;obtain ⟨rs,hk,rl,rq⟩:=id (K5.same s6);refine ⟨_,rfl,R.o,ak,R.dx,_,_,rfl,s6 _ _ Hs,au.cls,au.mR,rfl,.inl ⟨rfl,_,aV.of hk⟩,_,rfl,_,_,_,_,rfl,rfl,fY.of hpr,rfl,R.kn,_,_,rfl,rfl,hk,by rw [List.length_map,sizeLine_eq];(clear hk hp0 hd0 hb0 hb hpr as al Vz hnx Zf Fv xZ Hs T5 zW Dq Fy qK J6 rK htw qJ htn plb D_ Gy hkv not_ nop non Dn Gw Gu Gx Eo Ep q5 q4 q3 q2 q1 n10 n9 n8 n7 n6 n5 n4 n3 n2 n1 hps hp ep tH h1 h0 tq Dl Ak vB htv wM hw wL Dm jH ro h8;omega), ?_⟩;have k7:Kp R.kn H6 (upd H6 R.kn (.lst (rs.map V.ref++[V.ref d]))):=Kp.set;have t7:=k7.tups hk
  have K7:lX (upd H6 R.kn (.lst (rs.map V.ref++[V.ref d]))) R.kn ws' (ws.length+1):=by
   refine ⟨rs++[d],by rw [aq,List.map_append];rfl,by simp [rl],fun m r' hm=> ?_⟩
   by_cases hml:m<rs.length
   ·rw [List.getElem?_append_left hml] at hm
    obtain ⟨g',kd',ko'⟩:=rq m r' hm;obtain ⟨_,h,_⟩:=kd'.ex;exact ⟨g',kd'.kp k7 (jx h hk (by intro z;cases z)),ko'⟩
   ·have hm2:=(List.getElem?_eq_some_iff.mp hm).1
    rw [List.length_append,List.length_singleton] at hm2;have em:m=rs.length:=by (clear hm rl hk hp0 hd0 hb0 hb hpr as al Vz hnx Zf Fv xZ Hs T5 zW Dq Fy qK J6 rK htw qJ htn plb D_ Gy hkv not_ nop non Dn Gw Gu Gx Eo Ep q5 q4 q3 q2 q1 n10 n9 n8 n7 n6 n5 n4 n3 n2 n1 hps hp ep tH h1 h0 tq Dl Ak vB htv wM hw wL Dm jH ro h8 wl;omega)
    subst em;rw [List.getElem?_append_right (Nat.le_refl _)] at hm;simp at hm;subst hm;rw [rl];obtain ⟨_,h,_⟩:=kd6.ex;exact ⟨g,kd6.kp k7 (jx h hk (by intro z;cases z)),ko⟩
  generalize (upd H6 R.kn (.lst (rs.map V.ref++[V.ref d])))=H7 at k7 t7 K7 ⊢;have V2:∀{b u},H5 b=some u->b≠R.kn->H7 b=some u:=fun e n=>k7 _ _ (s6 _ _ e) n;have W7:dX H7 R.a ws':=(W5.same s6).kp hk k7 n2;have N7:m7 H7 R.nd (nm ws'):=(N5.same s6).kp hk k7 n5;have Zj:=V2 Hs Gy
  have hb7:H7 b=some (.lst (d_ (eN ws' ws.length ws.length))):=k7 _ _ hb fun z=>by
   obtain ⟨_,z5,_⟩:=K5;rw [z,z5] at hb0;cases hb0
  have T7:gD H7 R.tk ts:=by
   refine ⟨tv,V2 T5 (Ne.symm n8),aM.keep (fun a xs e=>t7 _ _ (s6.tups _ _ (tt5 _ _ e))) _ (bJ _ lC _) dt⟩
  have f7:∀{b},H7 b=none->H5 b=none:=fun {b} e=>by
   cases q:H5 b with
   | none=>rfl
   | some u=>
     by_cases c:b=R.kn
     ·subst c;obtain ⟨_,z,_⟩:=K7;rw [z] at e;cases e
     ·rw [V2 q c] at e;cases e
  have bl:=m6 ws' ws.length ws.length
  have UG:H7 tn=some (.tup [.int (hnd ws' ws.length),.int (cnt (ws'.take ws.length) (hnd ws' ws.length))]):=by
   rw [hnx,Vz];exact t7 _ _ (s6.tups _ _ Fv)
  refine ⟨_,rfl,R.o,ak,R.dx,_,_,rfl,Zj,au.cls,au.qy,rfl,_,rfl,_,_,_,_,rfl,rfl,fY.of (t7 _ _ hpr),rfl,_,rfl,R.nd,b,tn,ws',ws.length,_,rfl,N7,hb7,UG,fun e he=>zA (by (clear UG bl hb7 Zj rl hk hp0 hd0 hb0 hb hpr as al Vz hnx Fv xZ Hs T5 zW Dq Fy qK J6 rK htw qJ htn plb D_ Gy hkv not_ nop non Dn Gw Gu Gx Eo Ep q5 q4 q3 q2 q1 n10 n9 n8 n7 n6 n5 n4 n3 n2 n1 hps hp ep tH h1 h0 tq Dl Ak vB htv wM hw wL Dm jH ro h8 wl;omega)) he,by (clear UG hb7 Zj rl hk hp0 hd0 hb0 hb hpr as al Vz hnx Zf Fv xZ Hs T5 zW Dq Fy qK J6 rK htw qJ htn plb D_ Gy hkv not_ nop non Dn Gw Gu Gx Eo Ep q5 q4 q3 q2 q1 n10 n9 n8 n7 n6 n5 n4 n3 n2 n1 hps hp ep tH h1 h0 tq Dl Ak vB htv wM hw wL Dm jH ro h8;omega),fun r8 H8 hr8 NT s8=> ?_⟩;dsimp only [Bl];refine sV (K:=K) NT fun l ns H9 hl NN pp ss s9=> ?_;have R6:=s8.trans s9;have T9:=T7.same R6;obtain ⟨tv9,Ft,dt9⟩:=id T9;obtain ⟨nsv,hns,dns⟩:=id NN;have ntl:=lO ws' ws.length (eN ws' ws.length ws.length);have l1:nsv.length=(cI ws' ws.length (eN ws' ws.length ws.length)).length:=by rw [dns.length,List.length_map,pp.length_eq]
  have etv:tv9=tv:=by
   have z:=R6 _ _ (V2 T5 (Ne.symm n8));rw [Ft] at z;injection z with z;injection z
  subst etv
  have nlt:l≠R.tk:=fun z=>by
   subst z;rw [s8 _ _ (V2 T5 (Ne.symm n8))] at hl;cases hl
  refine ⟨_,rfl,R.o,ak,R.dx,_,_,rfl,R6 _ _ Zj,au.cls,au.qx,rfl,.inl ⟨rfl,_,aV.of Ft⟩,_,rfl,R.tk,l,_,_,rfl,rfl,Ft,hns,by rw [sizeLine_eq];(clear nlt T5 htv hns Ft hl hr8 UG hb7 Zj rl hk hp0 hd0 hb0 hb hpr as al Vz hnx Zf Fv xZ Hs zW Dq Fy qK J6 rK htw qJ htn plb D_ Gy hkv not_ nop non Dn Gw Gu Gx Eo Ep q5 q4 q3 q2 q1 n10 n9 n8 n7 n6 n5 n4 n3 n2 n1 hps hp ep tH h1 h0 Ak vB wM hw wL Dm jH ro h8;omega), ?_⟩;have k10:Kp R.tk H9 (upd H9 R.tk (.lst (tv9++nsv))):=Kp.set;have t10:=k10.tups Ft;have hl0:H l=none:=f5 (f7 (s8.free hl));refine ⟨_,rfl,k l ns _ hl0 ?_ pp ss ?_ ?_⟩
  ·exact NN.kp t10 k10 nlt
  ·refine ⟨k10 _ _ (R6 _ _ Zj) not_,(W7.same R6).kp Ft k10 n3,(N7.same R6).kp Ft k10 n6,by rw [Zf];exact (K7.same R6).kp k10 Ft n8,⟨ts++ns,⟨tv9++nsv,aq, ?_⟩, ?_⟩,k10 _ _ (R6 _ _ (V2 xZ q3)) q4,Dm,fun h x e=> ?_,nd0,wL⟩
   ·rw [List.map_append]
    exact aM.append (aM.keep t10 _ (bJ _ lC _) dt9) (aM.keep t10 _ (bJ _ lC _) dns)
   ·rw [Zf,as,al]
    exact tp.append pp
   ·have xm:x∈R.ps:=List.mem_of_getElem? e
    exact k10 _ _ (R6 _ _ (V2 (ps5 h x e) (fun z=>n9 (z▸xm)))) (fun z=>n10 (z▸xm))
  ·intro b u e n
   exact k10 _ _ (R6 _ _ (V2 (kl5 _ _ e n) (fun z=>n (z ▸ .tail _ (.tail _ (.head _)))))) (fun z=>n (z ▸ .tail _ (.tail _ (.tail _ (.head _)))))
def mJ (C:Addr) (K:PySem.W.Frag):Sp:=fun vs H Q _=>∃(R:Rc) (ws:List bM) (hn:Nat),vs=[.ref R.o]/\RcAt C H R ws hn /\
 ∀(r:Addr) (ns:List Nt) (H':Hp),H r=none->gD H' r ns->ns.Perm (iU ws ws.length)->wu ns->Same H H'->Q (.ref r) H'
theorem Lg {ak:Addr} {f:Addr} {fd:FuncData} (F:jW K "notes" "Recorder.notes" bZ f fd) (au:bN K ak) (Bt:oO mg):cj P w K mg base gZ 1 f fd ["self"] (mJ ak K):=by
 refine F.ok sX (fun vs H Q E h=> ?_) (fun cdv A outer s H vs Q E hr h=> ?_)
 ·obtain ⟨R,ws,hn,rfl,_⟩:=h
  rfl
 ·obtain ⟨R,ws,hn,rfl,r,k⟩:=h
  refine ⟨_,(aH (bf (aQ (lW (K:=K) rfl) (by rfl) Bt.uf qF (ao (bI (K:=K) rfl (pv 0) rfl) aA)))), ?_⟩;obtain ⟨ts,rtk,tp⟩:=r.tkn;refine ⟨_,rfl,R.o,ak,R.dx,_,_,rfl,r.o,au.cls,au.qx,rfl, ?_⟩;dsimp only [Bl];exact sV (K:=K) rtk fun l ns H9 hl NN pp ss s9=>k l ns H9 hl NN (pp.trans tp) ss s9
def KnL (ws:List bM) (h:Int) (g:Int->Int):Prop:=(lK ws h=[] -> ∀i,g i=0) /\ ∀j,(lK ws h).getLast?=some j->qN ws j g /\ ∀i,0<=g i
def xQ (C:Addr) (K:PySem.W.Frag):Sp:=fun vs H Q _=>∃(R:Rc) (ws:List bM) (hn:Nat) (h:Int),vs=[.ref R.o,.int h]/\RcAt C H R ws hn/\0<=h/\h<hn/\hn<=8 /\
 ∀(r:Addr) (g:Int->Int) (H':Hp),H r=none->H' r=some (.lst ((List.range hn).map fun i:Nat=>V.int (g (i:Int))))->KnL ws h g->Same H H'->Q (.ref r) H'
theorem Lh {ak:Addr} {f:Addr} {fd:FuncData} (F:jW K "known" "Recorder.known" b_ f fd) (au:bN K ak) (oA:FnAt P w K mg base 3 "check_hand" ["places","hand"] (sU K)) (Bt:oO mg):cj P w K mg base gZ 4 f fd ["self","hand"] (xQ ak K):=by
 refine F.ok lN (fun vs H Q E h=> ?_) (fun cdv A outer s H vs Q E hr h=> ?_)
 ·obtain ⟨R,ws,hn,h,rfl,_⟩:=h
  rfl
 ·obtain ⟨R,ws,hn,h,rfl,r,h0,h1,h8,k⟩:=h
  obtain ⟨hN,rfl⟩:∃m:Nat,h=m:=⟨h.toNat,by (clear h8 h1;omega)⟩;have jH:=r.pl;have tH:hN<R.ps.length:=by rw [r.Np];(clear jH h0 h8;omega)
  obtain ⟨p,ep⟩:∃p,R.ps[hN]? = some p:=⟨R.ps[hN],by simp [tH]⟩;have hp:=r.Zk hN p ep;have hps:(R.ps.map V.ref)[hN]? = some (.ref p):=by rw [List.getElem?_map,ep];rfl
  have hu:=J7 hr
  refine ⟨_,(aD (cg (bD oA (hr.mono (by decide)) (by rfl) (ao (bI (K:=K) rfl (pv 0) rfl) (ao (pv 1) aA))))
   (aD (bw (i:=2) lN.nd rfl (Or.inr rfl) (Ed (K8 (K:=K) rfl (aN (aJ (K:=K) rfl) (bI (K:=K) rfl (pv 0) rfl) (pv 1) (fun _ _=>rfl))) (aN (aJ (K:=K) rfl) (bI (K:=K) rfl (pv 0) rfl) (aN (aJ (K:=K) rfl) (aN (aJ (K:=K) rfl) (bI (K:=K) rfl (pv 0) rfl) (pv 1) (fun _ _=>rfl)) (yj qY aG) (fun _ _=>rfl)) (fun _ _=>rfl)) Ef))
   (aH (bf (eV rfl (N:=["other","known"]) (own:=["other"]) (caps:=[2]) (bh.of (by kernel_rfl)) (d7 (by rfl) Bt.fP (ao (aQ (aP (K:=K) rfl) (by rfl) Bt.dW cB (ao (bI (K:=K) rfl (pv 0) rfl) aA)) aA)) (fun _ _ _ _=>(aX (i:=0) (show List.Nodup (["other","known"]:List Str) by decide +kernel) rfl (Or.inl rfl))) (fun _ _ _ _=>eE) (fun _ _ _ _=>(yp hu (pv 1) (pv 0) aG ⟨rfl,rfl,rfl,rfl⟩))))))), ?_⟩
  refine ⟨_,rfl,R.o,ak,R.dx,_,_,rfl,r.o,au.cls,au.fU,rfl,_,rfl,R.pl,R.ps.map V.ref,(hN:Int),rfl,jH,⟨by (clear hu hps hp ep tH jH h1 h0 h8;omega),by rw [List.length_map];(clear hu hps hp ep jH h1 h0 h8;omega)⟩, ?_⟩;refine ⟨_,rfl,R.o,ak,R.dx,_,_,rfl,r.o,au.cls,au.fU,rfl,_,rfl,_,_,_,_,rfl,rfl,aV.of jH,aU hps,_,.inl ⟨_,aV.of hp,rfl⟩, ?_⟩
  have rest:∀(d:Addr) (g:Int->Int) (H1:Hp),jT H1 d g->Same H H1->KnL ws (hN:Int) g->(Sx (Ac ["other"] [2] (V5 (Oo (tCB (aad K) (Oo (Wt K (xH 0) "places") Bl)) Bl)) (jz 0) Ot (Om (xH 1) (xH 0) (tC (V.int 0))))) {nx:=fun x H'=>Q V.non H',rt:=Q} [some (.ref R.o),some (.int (hN:Int)),some (.ref d)] H1:=by
   intro d g H1 kd s1 kl;have r:=r.same s1;refine ⟨_,rfl,R.o,ak,R.dx,_,_,rfl,r.o,au.cls,au.fU,rfl,R.pl,_,rfl,.inl (aV.of r.pl),_,rfl,by (clear hu hps hp ep tH jH h1 h0 h8;omega),by rw [List.length_map,r.Np];(clear hu hps hp ep tH jH h1 h0;omega),fun D hD=> ?_⟩;rw [List.length_map,r.Np,Int.toNat_natCast];refine jj (fun i:Nat=>some (V.int (g (i:Int)))) hD (by (clear hD hu hps hp ep tH jH h1 h0;omega)) (fun i H2 G F hi s2 kG kF=> ?_) (fun H2 s2 e2=> ?_)
   ·obtain ⟨kvs,e,_,gv⟩:=(kd.same s2).get
    refine ⟨_,rfl,d,rfl,.inl ⟨_,.inl e⟩,_,rfl,_,zK.k (k:=Sum.inl (0+(i:Int))) e,kF _ H2 (Same.refl _) ?_⟩;rw [gv,Int.zero_add]
   ·refine k D g H2 (s1.free hD) ?_ kl (s1.trans s2)
    rw [e2];congr 2;rw [←List.filterMap_eq_map];rfl
  rcases List.eq_nil_or_concat (lK ws (hN:Int)) with e|⟨l,j,e⟩
  ·rw [e]
   refine dJ ?_;intro d hd;exact rest d (fun _=>0) _ (Qx aq) (aF hd) ⟨fun _ _=>rfl,fun j z=>by rw [e] at z;cases z⟩
  ·rw [List.concat_eq_append] at e
   have e1:(!(d_ (lK ws (hN:Int))).isEmpty)=true:=by rw [e];simp [d_]
   rw [e1];refine iY ?_;obtain ⟨rs,hk,rl,rq⟩:=r.Yd
   have jl:j<ws.length:=by
    have:j∈lK ws (hN:Int):=by rw [e];simp
    unfold lK at this;exact List.mem_range.mp (List.mem_filter.mp this).1
   obtain ⟨d,ed⟩:∃d,rs[j]? = some d:=⟨rs[j],by simp [rl,jl]⟩;obtain ⟨g,kd,ko⟩:=rq j d ed;refine ⟨_,rfl,R.o,ak,R.dx,_,_,rfl,r.o,au.cls,au.mR,rfl,_,rfl,R.o,ak,R.dx,_,_,rfl,r.o,au.cls,au.fU,rfl,_,rfl,_,_,_,_,rfl,rfl,aV.of jH,aU hps,_,rfl,_,_,_,_,rfl,rfl,aV.of hp,(show ug (d_ (lK ws (hN:Int))) (-1)=some (V.int (j:Int)) from by rw [e,d_,List.map_append];exact Ry _ _),_,_,_,_,rfl,rfl,aV.of hk,(aU (j:=j) (v:=V.ref d) (by rw [List.getElem?_map,ed];rfl)), ?_⟩;refine rest d g H kd (Same.refl _) ⟨fun z=> ?_,fun j' z=> ?_⟩
   ·rw [e] at z
    exact absurd z (by simp)
   ·rw [e] at z
    simp at z;subst z;exact ⟨ko,kd.2⟩
theorem qU.out {W:List Addr} {H0 H H':Hp} (s:Same H0 H) (f:∀b∈W,H0 b=none) (k:qU W H H'):Same H0 H':=fun b u e=>k _ _ (s _ _ e) fun m=>by rw [f b m] at e;cases e
theorem QZ (x y:Nt):PyData.eqv (nD x) (nD y)=decide (x=y):=by
 obtain ⟨a,b,c,d⟩:=x;obtain ⟨a',b',c',d'⟩:=y;simp only [nD,PyData.eqv,PyData.eqvAll,Bool.and_true]
 by_cases e1:a=a'
 ·subst e1
  by_cases e2:b=b'
  ·subst e2
   by_cases e3:c=c'
   ·subst e3
    by_cases e4:d=d'
    ·subst e4;simp
    ·simp [e4]
   ·simp [e3]
  ·simp [e2]
 ·simp [e1]
theorem q_ (ns:List Nt):SeqAt.shaped (.list (ns.map nD))=true:=
 vH nD 1 (by decide) (fun _ _=>rfl) (fun _ _=>by show (max 0 (max 0 (max 0 (max 0 0))))+1<=1;decide)
def RecAt (H:Hp) (t c a:Addr) (cs:List Int) (ns:List Nt):Prop:=H t=some (.tup [.ref c,.ref a])/\H c=some (.lst (cs.map V.int))/\gD H a ns
theorem RecAt.same {H H':Hp} {t c a:Addr} {cs:List Int} {ns:List Nt} (h:RecAt H t c a cs ns) (k:Same H H'):RecAt H' t c a cs ns:=⟨k _ _ h.1,k _ _ h.2.1,h.2.2.same k⟩
theorem abf (a b c d:V):mX [a,b,c,d] none (some 2)=[a,b]:=pX _ 2
theorem abe (a b c d:V):mX [a,b,c,d] (some 2) none=[c,d]:=Ga _ 2
theorem Xi {α:Type} (xs:List α) (h:xs.length=4):¬(HT.iW xs.length 0 none=0/\HT.iW xs.length xs.length (some 2)=xs.length):=by
 rw [h];decide
theorem Xh {α:Type} (xs:List α) (h:xs.length=4):¬(HT.iW xs.length 0 (some 2)=0/\HT.iW xs.length xs.length none=xs.length):=by
 rw [h];decide
def rW (cs:List Int) (ns:List Nt):Prop:=RW cs/\ns.length<=100000 /\ ∀x∈ns,RJ cs x
def num (i:Int):Str:=Str.ofString (toString i)
def nT (x:Nt):Str:=num x.1++Str.ofString "." ++ num x.2.1++Str.ofString " " ++ num x.2.2.1++Str.ofString "." ++ num x.2.2.2
def rT (cs:List Int) (ns:List Nt):Str:=Str.ofString "counts" ++ cat (cs.map fun c=>Str.ofString " " ++ num c)++cat (ns.map fun x=>Str.ofString "\n" ++ nT x)
theorem wO:∀xs:List Str,(cat xs).length=(xs.map (·.length)).sum
 | []=>rfl
 | x::xs=>by rw [cat,Str.length_append,wO xs,List.map_cons,List.sum_cons]
theorem sum_bound {α:Type} (f:α->Nat) (b:Nat):∀l:List α,(∀x∈l,f x<=b)->(l.map f).sum<=b*l.length
 | [],_=>by simp
 | x::l,h=>by
   have a:=h x (by simp);have ih:=sum_bound f b l fun y hy=>h y (by simp [hy]);rw [List.map_cons,List.sum_cons,List.length_cons,Nat.mul_add];omega
theorem lR:(Str.ofString ".").length=1:=rfl
theorem lB:(Str.ofString " ").length=1:=rfl
theorem rH:(Str.ofString "\n").length=1:=rfl
theorem nU:(Str.ofString "counts").length=6:=rfl
theorem RJ.small {cs:List Int} {x:Nt} (cok:RW cs) (h:RJ cs x):(0<=x.1/\x.1<=1000)/\(0<=x.2.1/\x.2.1<=1000)/\(0<=x.2.2.1/\x.2.2.1<=1000)/\(0<=x.2.2.2/\x.2.2.2<=1000):=by
 obtain ⟨⟨a0,a1⟩,⟨b0,b1⟩,⟨c0,c1⟩,⟨d0,d1⟩,_⟩:=h;have l:=cok.1;have g1:=cok.gI x.1;have g2:=cok.gI x.2.2.1;refine ⟨⟨a0,by omega⟩,⟨b0,by omega⟩,⟨c0,by omega⟩,⟨d0,by omega⟩⟩
theorem Ql {x:Nt} (h:(0<=x.1/\x.1<=1000)/\(0<=x.2.1/\x.2.1<=1000)/\(0<=x.2.2.1/\x.2.2.1<=1000)/\(0<=x.2.2.2/\x.2.2.2<=1000)):(nT x).length<=19:=by
 obtain ⟨⟨a0,a1⟩,⟨b0,b1⟩,⟨c0,c1⟩,⟨d0,d1⟩⟩:=h;unfold nT num;simp only [Str.length_append,lR,lB];have:=dh a0 a1;have:=dh b0 b1;have:=dh c0 c1;have:=dh d0 d1;omega
def xM (K:PySem.W.Frag):Sp:=fun vs H Q _=>∃(t:Addr) (a b:Int),vs=[.ref t]/\H t=some (.tup [.int a,.int b])/\(0<=a/\a<=1000)/\(0<=b/\b<=1000) /\ ∀H',Same H H'->Q (.str (num a++Str.ofString "." ++ num b)) H'
theorem Lb {f:Addr} {fd:FuncData} (F:jW K "touch_text" "touch_text" dN f fd) (Bt:oO mg):cj P w K mg base gZ 1 f fd ["touch"] (xM K):=by
 refine F.ok zQ (fun vs H Q E h=> ?_) (fun cdv A outer s H vs Q E hr h=> ?_)
 ·obtain ⟨t,a,b,rfl,_⟩:=h
  rfl
 ·obtain ⟨t,a,b,rfl,ht,⟨a0,a1⟩,⟨b0,b1⟩,k⟩:=h
  refine ⟨_,(aH (bf (mj (K:=K) rfl PySem.F.plainAttrs_str PySem.F.slot_str_join PySem.F.type_str_join (tU (K:=K) rfl) cN (ao (eV rfl (N:=["number"]) (own:=["number"]) (caps:=[]) (bh.of (by kernel_rfl)) (Tr (K:=K) rfl (pv 0)) (fun _ _ _ _=>(aX (i:=0) (show List.Nodup (["number"]:List Str) by decide +kernel) rfl (Or.inl rfl))) (fun _ _ _ _=>eE) (fun _ _ _ _=>(bW eY (by rfl) Bt.qT mF (ao (pv 0) aA)))) aA)))), ?_⟩;refine ⟨rfl,_,rfl,t,rfl,⟨_,fY.of ht⟩,fun D hD=> ?_⟩;refine MF (K:=K) (fun i=>([a,b][i]?).map fun z=>V.str (num z)) hD ht (by show 2<=100000;decide) (fun i v H2 G F hi s2 kG kF=> ?_) (fun H2 s2 e2=> ?_)
  ·obtain ⟨z,rfl,ez,z0,z1⟩:∃z,v=V.int z/\[a,b][i]? = some z/\0<=z/\z<=1000:=by
    match i,hi with
    | 0,hi=>exact ⟨a,(by simpa using hi.symm),rfl,a0,a1⟩
    | 1,hi=>exact ⟨b,(by simpa using hi.symm),rfl,b0,b1⟩
    | i+2,hi=>simp at hi
   exact ⟨_,rfl,z,rfl,nR z0 z1,kF _ H2 (Same.refl _) (by rw [ez];rfl)⟩
  ·refine ⟨_,D,[num a,num b],rfl,rfl,aV.of e2, ?_, ?_⟩
   ·have:=dh a0 a1
    have:=dh b0 b1;simp only [List.map_cons,List.map_nil,List.sum_cons,List.sum_nil,List.length_cons,List.length_nil,lR,num];omega
   ·have e:Txt.join (Str.ofString ".") [num a,num b]=num a++Str.ofString "." ++ num b:=by
     rw [glued_cons,List.map_cons,List.map_nil,cat,cat,dZ,Str.append_assoc]
    rw [e];exact k H2 s2
def Bs (K:PySem.W.Frag):Sp:=fun vs H Q _=>∃(t:Addr) (x:Nt),vs=[.ref t]/\H t=some (.tup (nV x))/\((0<=x.1/\x.1<=1000)/\(0<=x.2.1/\x.2.1<=1000)/\(0<=x.2.2.1/\x.2.2.1<=1000)/\(0<=x.2.2.2/\x.2.2.2<=1000)) /\ ∀H',Same H H'->Q (.str (nT x)) H'
theorem Qa {f:Addr} {fd:FuncData} (F:jW K "note_text" "note_text" eO f fd) (um:FnAt P w K mg base 1 "touch_text" ["touch"] (xM K)) (Bt:oO mg):cj P w K mg base gZ 2 f fd ["note"] (Bs K):=by
 refine F.ok BP (fun vs H Q E h=> ?_) (fun cdv A outer s H vs Q E hr h=> ?_)
 ·obtain ⟨t,x,rfl,_⟩:=h
  rfl
 ·obtain ⟨t,x,rfl,ht,⟨xa,xb,xc,xd⟩,k⟩:=h
  refine ⟨_,(aH (bf (mj (K:=K) rfl PySem.F.plainAttrs_str PySem.F.slot_str_join PySem.F.type_str_join (tU (K:=K) rfl) cN (ao (bV (ao (bD um (hr.mono (by decide)) (by rfl) (ao (iJ (JB (K:=K) rfl) (pv 0) j_ (j9 aG)) aA)) (ao (bD um (hr.mono (by decide)) (by rfl) (ao (iJ (JB (K:=K) rfl) (pv 0) (j9 aG) j_) aA)) aA))) aA)))), ?_⟩;refine ⟨rfl,_,rfl,_,rfl,_,_,rfl,fY.of ht,Xi _ rfl,fun p1 hp1=> ?_⟩;have c1:mX (nV x) none (some 2)=[.int x.1,.int x.2.1]:=abf ..;rw [c1];have s1:=aF (o:=HO.tup [V.int x.1,V.int x.2.1]) hp1;refine ⟨p1,_,_,rfl,aq,xa,xb,fun H2 s2=> ?_⟩;have s12:=s1.trans s2;refine ⟨_,rfl,_,rfl,_,_,rfl,fY.of (s12 _ _ ht),Xh _ rfl,fun p2 hp2=> ?_⟩;have c2:mX (nV x) (some 2) none=[.int x.2.2.1,.int x.2.2.2]:=abe ..;rw [c2];have s3:=aF (o:=HO.tup [V.int x.2.2.1,V.int x.2.2.2]) hp2;refine ⟨p2,_,_,rfl,aq,xc,xd,fun H4 s4=> ?_⟩;refine ⟨(by show 2<=sizeLine;decide),fun l hl=> ?_⟩;have s5:=aF (o:=HO.lst [V.str (num x.1++Str.ofString "." ++ num x.2.1),V.str (num x.2.2.1++Str.ofString "." ++ num x.2.2.2)]) hl;refine ⟨_,l,[num x.1++Str.ofString "." ++ num x.2.1,num x.2.2.1++Str.ofString "." ++ num x.2.2.2],rfl,rfl,aV.of aq, ?_, ?_⟩
  ·have:=dh xa.1 xa.2
   have:=dh xb.1 xb.2;have:=dh xc.1 xc.2;have:=dh xd.1 xd.2;simp only [List.map_cons,List.map_nil,List.sum_cons,List.sum_nil,List.length_cons,List.length_nil,Str.length_append,lR,lB,num];omega
  ·have e:Txt.join (Str.ofString " ") [num x.1++Str.ofString "." ++ num x.2.1,num x.2.2.1++Str.ofString "." ++ num x.2.2.2]=nT x:=by
    rw [glued_cons,List.map_cons,List.map_nil,cat,cat,dZ];unfold nT;simp only [Str.append_assoc]
   rw [e];exact k _ (((s12.trans s3).trans s4).trans s5)
theorem Tc {cs:List Int} (ok:RW cs):(Str.ofString "counts" ++ cat (cs.map fun c=>Str.ofString " " ++ num c)).length<=46:=by
 rw [Str.length_append,wO,List.map_map,nU]
 have:=sum_bound ((fun s:Str=>s.length)∘fun c:Int=>Str.ofString " " ++ num c) 5 cs fun c hc=>by
  have q:=ok.2 c hc;have:=dh (i:=c) q.1 (by omega);simp only [Function.comp,Str.length_append,lB,num];omega
 have l:=ok.1;omega
theorem Lr {cs:List Int} {ns:List Nt} (ok:rW cs ns):((ns.map nT).map (·.length)).sum<=19*ns.length:=by
 rw [List.map_map];exact sum_bound ((fun s:Str=>s.length)∘nT) 19 ns fun x hx=>Ql ((ok.2.2 x hx).small ok.1)
theorem GD (cs:List Int) (ns:List Nt):Txt.join (Str.ofString "\n") ((Str.ofString "counts" ++ cat (cs.map fun c=>Str.ofString " " ++ num c))::ns.map nT)=rT cs ns:=by
 rw [glued_cons,List.map_map];rfl
theorem GF {cs:List Int} {ns:List Nt} (ok:rW cs ns):((((Str.ofString "counts" ++ cat (cs.map fun c=>Str.ofString " " ++ num c))::ns.map nT).map (·.length)).sum+((Str.ofString "counts" ++ cat (cs.map fun c=>Str.ofString " " ++ num c))::ns.map nT).length*(Str.ofString "\n").length<=16777216):=by
 have a:=Tc ok.1;have b:=Lr ok;have c:=ok.2.1;rw [List.map_cons,List.sum_cons,List.length_cons,List.length_map,rH];omega
def uK (K:PySem.W.Frag):Sp:=fun vs H Q _=>∃(t c a:Addr) (cs:List Int) (ns:List Nt),vs=[.ref t]/\RecAt H t c a cs ns/\rW cs ns /\ ∀H',Same H H'->Q (.str (rT cs ns)) H'
theorem yt {f:Addr} {fd:FuncData} (F:jW K "record_text" "record_text" dB f fd) (Gq:FnAt P w K mg base 2 "note_text" ["note"] (Bs K)) (Bt:oO mg):cj P w K mg base gZ 3 f fd ["record"] (uK K):=by
 refine F.ok o7 (fun vs H Q E h=> ?_) (fun cdv A outer s H vs Q E hr h=> ?_)
 ·obtain ⟨t,c,a,cs,ns,rfl,_⟩:=h
  rfl
 ·obtain ⟨t,c,a,cs,ns,rfl,⟨ht,hc,hN⟩,ok,k⟩:=h
  obtain ⟨vs,ha,dv⟩:=id hN;have vl:vs.length=ns.length:=by rw [dv.length,List.length_map]
  have nl:=ok.2.1;have c8:=ok.1.1
  refine ⟨_,(aD (bw (i:=1) o7.nd rfl (Or.inl rfl) (bV (ao (mj (K:=K) rfl PySem.F.plainAttrs_str PySem.F.slot_str_join PySem.F.type_str_join (tU (K:=K) rfl) cN (ao (bC rE (bV (ao cN aA)) (eV rfl (N:=["count"]) (own:=["count"]) (caps:=[]) (bh.of (by kernel_rfl)) (cJ (K:=K) rfl (aN (bL (K:=K) rfl) (pv 0) aG (fun _ _=>rfl))) (fun _ _ _ _=>(aX (i:=0) (show List.Nodup (["count"]:List Str) by decide +kernel) rfl (Or.inl rfl))) (fun _ _ _ _=>eE) (fun _ _ _ _=>(bW eY (by rfl) Bt.qT mF (ao (pv 0) aA))))) aA)) aA)))
   (aD (cg (mj (K:=K) rfl PySem.F.plainAttrs_list PySem.F.slot_list_extend PySem.F.type_list_extend uU (pv 1) (ao (eV rfl (N:=["note"]) (own:=["note"]) (caps:=[]) (bh.of (by kernel_rfl)) (cJ (K:=K) rfl (aN (bL (K:=K) rfl) (pv 0) aG (fun _ _=>rfl))) (fun _ _ _ _=>(aX (i:=0) (show List.Nodup (["note"]:List Str) by decide +kernel) rfl (Or.inl rfl))) (fun _ _ _ _=>eE) (fun _ _ _ _=>(bD Gq (hr.mono (by decide)) (by rfl) (ao (pv 0) aA)))) aA)))
   (aH (bf (mj (K:=K) rfl PySem.F.plainAttrs_str PySem.F.slot_str_join PySem.F.type_str_join (tU (K:=K) rfl) cN (ao (pv 1) aA)))))), ?_⟩
  refine ⟨rfl,(by show 1<=sizeLine;decide),fun l1 hl1=> ?_⟩;have s1:=aF (o:=HO.lst [V.str (Str.ofString "counts")]) hl1;refine ⟨_,rfl,_,_,_,_,rfl,rfl,fY.of (s1 _ _ ht),rfl,c,rfl,⟨_,aV.of (s1 _ _ hc)⟩,fun D hD=> ?_⟩;refine jD (K:=K) (fun i=>(cs[i]?).map fun z=>V.str (num z)) hD (aV.of (s1 _ _ hc)) (by rw [List.length_map];omega) (fun i v H2 G F hi s2 kG kF=> ?_) (fun H2 s2 e2=> ?_)
  ·rw [List.getElem?_map] at hi
   cases ei:cs[i]? with
   | none=>rw [ei] at hi;cases hi
   | some z=>
     rw [ei] at hi;cases hi;have q:=ok.1.2 z (List.mem_of_getElem? ei);exact ⟨_,rfl,z,rfl,nR q.1 (by omega),kF _ H2 (Same.refl _) (by rw [ei];rfl)⟩
  rw [List.length_map,CJ] at e2;refine ⟨l1,D,_,_,rfl,rfl,s2 _ _ aq,e2,by rw [List.length_map,sizeLine_eq];simp;omega,fun l2 hl2=> ?_⟩;have s3:=aF (o:=HO.lst ([V.str (Str.ofString "counts")]++cs.map fun z=>V.str (num z))) hl2;have s13:=(s1.trans s2).trans s3;have aa5:[V.str (Str.ofString "counts")]++cs.map (fun z=>V.str (num z))=(Str.ofString "counts" :: cs.map num).map V.str:=by simp
  refine ⟨_,l2,Str.ofString "counts" :: cs.map num,rfl,rfl,aV.of (by rw [aq,aa5]), ?_, ?_⟩
  ·have:=sum_bound ((fun s:Str=>s.length)∘num) 4 cs fun z hz=>dh (ok.1.2 z hz).1 (by have:=ok.1.2 z hz;omega)
   rw [List.map_cons,List.sum_cons,List.map_map,List.length_cons,List.length_map,nU,lB];omega
  have YG:Txt.join (Str.ofString " ") (Str.ofString "counts" :: cs.map num)=Str.ofString "counts" ++ cat (cs.map fun c=>Str.ofString " " ++ num c):=by
   rw [glued_cons,List.map_map];rfl
  rw [YG];refine ⟨(by show 1<=sizeLine;decide),fun p hp=> ?_⟩;have s4:=aF (o:=HO.lst [V.str (Str.ofString "counts" ++ cat (cs.map fun c=>Str.ofString " " ++ num c))]) hp;have Ox:=s13.trans s4;have hp0:H p=none:=s13.free hp;refine ⟨_,rfl,.inl ⟨rfl,_,aV.of aq⟩,_,rfl,_,_,_,_,rfl,rfl,fY.of (Ox _ _ ht),rfl,a,rfl,⟨_,aV.of (Ox _ _ ha)⟩,fun D2 hD2=> ?_⟩;refine jD (K:=K) (fun i=>(ns[i]?).map fun x=>V.str (nT x)) hD2 (aV.of (Ox _ _ ha)) (by omega) (fun i v H5 G F hi s5 kG kF=> ?_) (fun H5 s5 e5=> ?_)
  ·obtain ⟨x,q,ex,rfl,hx⟩:=Ca dv hi
   exact ⟨_,rfl,q,x,rfl,s5 _ _ (Ox _ _ hx),(ok.2.2 x (List.mem_of_getElem? ex)).small ok.1,fun H6 s6=>kF _ H6 s6 (by rw [ex];rfl)⟩
  rw [vl,CJ] at e5;have zW:=s5 _ _ (aq (H:=_) (a:=p) (o:=HO.lst [V.str (Str.ofString "counts" ++ cat (cs.map fun c=>Str.ofString " " ++ num c))]));refine ⟨p,D2,_,_,rfl,rfl,zW,e5,by rw [List.length_map,sizeLine_eq];simp;omega, ?_⟩;have k6:Kp p H5 (upd H5 p (.lst ([V.str (Str.ofString "counts" ++ cat (cs.map fun c=>Str.ofString " " ++ num c))]++ns.map fun x=>V.str (nT x)))):=Kp.set;have el2:[V.str (Str.ofString "counts" ++ cat (cs.map fun c=>Str.ofString " " ++ num c))]++ns.map (fun x=>V.str (nT x))=((Str.ofString "counts" ++ cat (cs.map fun c=>Str.ofString " " ++ num c))::ns.map nT).map V.str:=by simp
  refine ⟨rfl,_,rfl,_,p,_,rfl,rfl,aV.of (by rw [aq,el2]),GF ok, ?_⟩;rw [GD];exact k _ fun b o e=>k6 _ _ ((Ox.trans s5) _ _ e) (aB e hp0)
def mK (C:Addr) (K:PySem.W.Frag):Sp:=fun vs H Q _=>∃(R:Rc) (ws:List bM) (hn:Nat),vs=[.ref R.o]/\RcAt C H R ws hn/\hn<=8 /\
 ∀(r:Addr) (H':Hp),H r=none->H' r=some (.lst (((List.range hn).map fun h:Nat=>cnt ws (h:Int)).map V.int))->Same H H'->Q (.ref r) H'
theorem Li {ak:Addr} {f:Addr} {fd:FuncData} (F:jW K "counts" "Recorder.counts" bT f fd) (au:bN K ak) (Bt:oO mg):cj P w K mg base gZ 1 f fd ["self"] (mK ak K):=by
 refine F.ok rm (fun vs H Q E h=> ?_) (fun cdv A outer s H vs Q E hr h=> ?_)
 ·obtain ⟨R,ws,hn,rfl,_⟩:=h
  rfl
 ·obtain ⟨R,ws,hn,rfl,r,h8,k⟩:=h
  refine ⟨_,(aH (bf (eV rfl (N:=["places"]) (own:=["places"]) (caps:=[]) (bh.of (by kernel_rfl)) (cJ (K:=K) rfl (bI (K:=K) rfl (pv 0) rfl)) (fun _ _ _ _=>(aX (i:=0) (show List.Nodup (["places"]:List Str) by decide +kernel) rfl (Or.inl rfl))) (fun _ _ _ _=>eE) (fun _ _ _ _=>(aQ (aP (K:=K) rfl) (by rfl) Bt.dW cB (ao (pv 0) aA)))))), ?_⟩;have Np:=r.Np;refine ⟨_,rfl,R.o,ak,R.dx,_,_,rfl,r.o,au.cls,au.fU,rfl,R.pl,rfl,⟨_,aV.of r.pl⟩,fun D hD=> ?_⟩;refine jD (K:=K) (fun i:Nat=>some (V.int (cnt ws (i:Int)))) hD (aV.of r.pl) (by rw [List.length_map];omega) (fun i v H2 G F hi s2 kG kF=> ?_) (fun H2 s2 e2=> ?_)
  ·rw [List.getElem?_map] at hi
   obtain ⟨p,ep,rfl⟩:∃p,R.ps[i]? = some p/\v = .ref p:=by
    cases e:R.ps[i]? with
    | none=>rw [e] at hi;cases hi
    | some q=>rw [e] at hi;exact ⟨q,rfl,(Option.some.inj hi).symm⟩
   refine ⟨_,rfl,p,_,rfl,.inl (aV.of (s2 _ _ (r.Zk i p ep))),kF _ H2 (Same.refl _) ?_⟩;have e:=JH ws (i:Int);show some (V.int (cnt ws (i:Int)))=some (V.int (((d_ (lK ws (i:Int))).length:Nat):Int));rw [←e];unfold d_;rw [List.length_map]
  ·refine k D H2 hD ?_ s2
   rw [e2,List.length_map,Np,List.map_map,←List.filterMap_eq_map];rfl
def G8 (C:Addr) (K:PySem.W.Frag):Sp:=fun vs H Q _=>∃(R:Rc) (ws:List bM) (hn:Nat),vs=[.ref R.o]/\RcAt C H R ws hn/\Q (.int ((iU ws ws.length).length:Nat)) H
theorem Ua {ak:Addr} {f:Addr} {fd:FuncData} (F:jW K "__len__" "Recorder.__len__" bQ f fd) (au:bN K ak) (Bt:oO mg):cj P w K mg base gZ 1 f fd ["self"] (G8 ak K):=by
 refine F.ok qI (fun vs H Q E h=> ?_) (fun cdv A outer s H vs Q E hr h=> ?_)
 ·obtain ⟨R,ws,hn,rfl,_⟩:=h
  rfl
 ·obtain ⟨R,ws,hn,rfl,r,k⟩:=h
  refine ⟨_,(aH (bf (aQ (aP (K:=K) rfl) (by rfl) Bt.dW cB (ao (bI (K:=K) rfl (pv 0) rfl) aA)))), ?_⟩;obtain ⟨ts,⟨vs,hv,dv⟩,tp⟩:=r.tkn;refine ⟨_,rfl,R.o,ak,R.dx,_,_,rfl,r.o,au.cls,au.qx,rfl,R.tk,_,rfl,.inl (aV.of hv), ?_⟩;have e:vs.length=(iU ws ws.length).length:=by rw [dv.length,List.length_map,tp.length_eq]
  rw [e];exact k
def Br (C:Addr) (K:PySem.W.Frag):Sp:=fun vs H Q _=>∃(R:Rc) (ws:List bM) (hn:Nat),vs=[.ref R.o]/\RcAt C H R ws hn/\hn<=8 /\
 (∀ns:List Nt,ns.Perm (iU ws ws.length)->rW ((List.range hn).map fun h:Nat=>cnt ws (h:Int)) ns) /\
 ∀(ns:List Nt) (H':Hp),ns.Perm (iU ws ws.length)->wu ns->Same H H'->Q (.str (rT ((List.range hn).map fun h:Nat=>cnt ws (h:Int)) ns)) H'
theorem T_ {ak:Addr} {f:Addr} {fd:FuncData} (F:jW K "__str__" "Recorder.__str__" bO f fd) (au:bN K ak) (z_:FnAt P w K mg base 3 "record_text" ["record"] (uK K)) (cu:MethAt P w K mg base 1 ak "counts" ["self"] (mK ak K)) (cM:MethAt P w K mg base 1 ak "notes" ["self"] (mJ ak K)) (Bt:oO mg):cj P w K mg base gZ 4 f fd ["self"] (Br ak K):=by
 refine F.ok qH (fun vs H Q E h=> ?_) (fun cdv A outer s H vs Q E hr h=> ?_)
 ·obtain ⟨R,ws,hn,rfl,_⟩:=h
  rfl
 ·obtain ⟨R,ws,hn,rfl,r,h8,okk,k⟩:=h
  refine ⟨_,(aH (bf (bW Ja (by rfl) Bt.qT mF (ao (bD z_ (hr.mono (by decide)) (by rfl) (ao (jN (ao (d8 cu au.cls (hr.mono (by decide)) (pv 0)) (ao (d8 cM au.cls (hr.mono (by decide)) (pv 0)) aA))) aA)) aA)))), ?_⟩;refine ⟨_,rfl,R.o,R.dx,_,rfl,r.o,rfl,R,ws,hn,rfl,r,h8,fun c H1 hc ec s1=> ?_⟩;have r1:=r.same s1;refine ⟨_,rfl,R.o,R.dx,_,rfl,r1.o,rfl,R,ws,hn,rfl,r1,fun a ns H2 ha N2 pm sr s2=> ?_⟩;refine ⟨(by show 2<=sizeLine;decide),fun t ht=> ?_⟩;have s3:=aF (o:=HO.tup [V.ref c,V.ref a]) ht;refine ⟨t,c,a,_,ns,rfl,⟨aq,s3 _ _ (s2 _ _ ec),N2.same s3⟩,okk ns pm,fun H4 s4=> ?_⟩;exact .inr ⟨_,rfl,k ns H4 pm sr (((s1.trans s2).trans s3).trans s4)⟩
def Bg:Nat->PyData->Prop
 | 0,_=>False
 | _+1,.int _=>True
 | n+1,.list ds=>ds.length<=100000 /\ ∀d∈ds,Bg n d
 | n+1,.tuple ds=>ds.length<=100000 /\ ∀d∈ds,Bg n d
 | _+1,_=>False
theorem Av (n:Nat) (v:V):(List.range n).filterMap (fun _=>some v)=List.replicate n v:=by
 induction n with
 | zero=>rfl
 | succ n ih=>rw [gk,ih,List.replicate_succ'];rfl
def iy (n:Nat) (K:PySem.W.Frag):Sp:=fun vs H Q _=>∃(x y:V) (d:PyData),vs=[x,y]/\Dat H x d/\Dat H y d/\Bg n d /\ ∀H',Same H H'->Q (.bl true) H'
theorem Lp {f:Addr} {fd:FuncData} (F:jW K "_law_alike" "_law_alike" gP f fd):cj P w K mg base gZ 1 f fd ["found","due"] (iy 0 K):=by
 refine F.ok Af (fun vs H Q E h=> ?_) (fun cdv A outer s H vs Q E hr h=> ?_)
 ·obtain ⟨x,y,d,_,_,_,z,_⟩:=h
  exact z.elim
 ·obtain ⟨x,y,d,_,_,_,z,_⟩:=h
  exact z.elim
theorem mQ {n:Nat} {f:Addr} {fd:FuncData} (F:jW K "_law_alike" "_law_alike" gP f fd) (lJ:FnAt P w K mg base (n+1) "_law_alike" ["found","due"] (iy n K)) (Bt:oO mg):cj P w K mg base gZ (n+1+1) f fd ["found","due"] (iy (n+1) K):=by
 refine F.ok Af (fun vs H Q E h=> ?_) (fun cdv A outer s H vs Q E hr h=> ?_)
 ·obtain ⟨x,y,d,rfl,_⟩:=h
  rfl
 ·obtain ⟨x,y,d,rfl,dx,dy,pl,k⟩:=h
  refine ⟨_,(aD (cW (fB (aQ (Jc (K:=K) rfl) (by rfl) Bt.cT cC (ao (pv 1) (ao (jN (ao (iK (v:= .ty "list") (by rfl) Bt.iT gn rfl) (ao (iK (v:= .ty "tuple") (by rfl) Bt.C_ zm rfl) aA))) aA)))) (aD (cW (PW.pt (jU (bB k_ (aQ (fX (K:=K) (cv:= .ty "list") (c:= .type "list") rfl rfl) (by rfl) Bt.cT cC (ao (pv 0) (ao (iK (v:= .ty "list") (by rfl) Bt.iT gn rfl) aA))) (aQ (fX (K:=K) (cv:= .ty "list") (c:= .type "list") rfl rfl) (by rfl) Bt.cT cC (ao (pv 1) (ao (iK (v:= .ty "list") (by rfl) Bt.iT gn rfl) aA))) (bx _)) (jg (bB k_ (aQ (fX (K:=K) (cv:= .ty "tuple") (c:= .type "tuple") rfl rfl) (by rfl) Bt.cT cC (ao (pv 0) (ao (iK (v:= .ty "tuple") (by rfl) Bt.C_ zm rfl) aA))) (aQ (fX (K:=K) (cv:= .ty "tuple") (c:= .type "tuple") rfl rfl) (by rfl) Bt.cT cC (ao (pv 1) (ao (iK (v:= .ty "tuple") (by rfl) Bt.C_ zm rfl) aA))) (bx _))))) (aH (bf fj)) bF)
   (aD (cW (bB k_ (aQ (aP (K:=K) rfl) (by rfl) Bt.dW cB (ao (pv 0) aA)) (aQ (aP (K:=K) rfl) (by rfl) Bt.dW cB (ao (pv 1) aA)) (bx _)) (aH (bf fj)) bF)
   (aH (bf (aQ (oG (K:=K) rfl rfl) (by rfl) Bt.Wh Rj (ao (eV rfl (N:=["k","found","due"]) (own:=["k"]) (caps:=[0,1]) (bh.of (by kernel_rfl)) (d7 (by rfl) Bt.fP (ao (aQ (aP (K:=K) rfl) (by rfl) Bt.dW cB (ao (pv 1) aA)) aA)) (fun _ _ _ _=>(aX (i:=0) (show List.Nodup (["k","found","due"]:List Str) by decide +kernel) rfl (Or.inl rfl))) (fun _ _ _ _=>eE) (fun _ _ _ _=>(bD lJ (hr.mono (Nat.le_refl _)) (by rfl) (ao (aN (JZ (K:=K) rfl) (pv 1) (pv 0) (fun _ _=>rfl)) (ao (aN (JZ (K:=K) rfl) (pv 2) (pv 0) (fun _ _=>rfl)) aA))))) aA)))))) bF)
   (aH (bf (rC (aQ (fX (K:=K) (cv:= .ty "int") (c:= .type "int") rfl rfl) (by rfl) Bt.cT cC (ao (pv 0) (ao (iK (v:= .ty "int") (by rfl) Bt.Wf Ri rfl) aA))) (rC (Pn (aQ (fX (K:=K) (cv:= .ty "bool") (c:= .type "bool") rfl rfl) (by rfl) Bt.cT cC (ao (pv 0) (ao (iK (v:= .ty "bool") (by rfl) Bt.Ru Km rfl) aA)))) (pC (eX jV (pv 0) (pv 1) (bx _)))))))), ?_⟩
  match d,pl,dx,dy with
  | .int i,pl,dx,dy=>
    simp only [Dat] at dx dy;subst dx dy;refine ⟨_,rfl,(by show 2<=sizeLine;decide),fun p hp=> ?_⟩;have s1:=aF (o:=HO.tup [V.ty "list",V.ty "tuple"]) hp;refine ⟨_,_,p,["list","tuple"],false,rfl,.int i,aq,Ji K,_,rfl, ?_⟩;refine dJ ?_;refine ⟨_,rfl,_,_,true,rfl,.int i,vM K,_,rfl, ?_⟩;refine iY ?_;refine ⟨_,rfl,_,_,false,rfl,.int i,tV K,_,rfl,_,rfl, ?_⟩;refine iY ?_;refine ⟨_,rfl,_,rfl,rfl, ?_⟩;rw [decide_eq_true rfl];exact k _ s1
  | .list ds,pl,dx,dy=>
    simp only [Dat] at dx dy;obtain ⟨a,vs,rfl,ha,da⟩:=dx;obtain ⟨b,ws,rfl,hb,db⟩:=dy;have la:vs.length=ds.length:=da.length;have lb:ws.length=ds.length:=db.length;have tH:ds.length<=100000:=pl.1;refine ⟨_,rfl,(by show 2<=sizeLine;decide),fun p hp=> ?_⟩;have s1:=aF (o:=HO.tup [V.ty "list",V.ty "tuple"]) hp;have ha1:=s1 _ _ ha;have hb1:=s1 _ _ hb;refine ⟨_,_,p,["list","tuple"],true,rfl,.lst hb1,aq,Gm K,_,rfl, ?_⟩;refine iY ?_;refine ⟨_,rfl,_,_,true,rfl,.lst ha1,mz K,_,rfl,_,_,true,rfl,.lst hb1,mz K,rfl,_,rfl, ?_⟩;refine pP rfl ?_;refine ⟨_,rfl,_,_,false,rfl,.lst ha1,pR K,_,rfl,_,_,false,rfl,.lst hb1,pR K,rfl,_,rfl, ?_⟩;refine pP rfl ?_;refine ⟨_,rfl,a,_,rfl,.inl (aV.of ha1),_,rfl,b,_,rfl,.inl (aV.of hb1),rfl,_,rfl, ?_⟩;refine pP (by rw [la,lb]) ?_;refine ⟨_,rfl,b,_,rfl,.inl (aV.of hb1),_,rfl,by (clear hb1 ha1 hp tH lb la hb ha;omega),by (clear hb1 ha1 hp la hb ha;omega),fun D hD=> ?_⟩;rw [show ((ws.length:Int)).toNat=ds.length by omega];refine jj (fun i=>some (.bl true)) hD (by omega) (fun i H2 G F hi s2 kG kF=> ?_) (fun H2 s2 e2=> ?_)
    ·obtain ⟨d,ed⟩:∃d,ds[i]? = some d:=⟨ds[i],by simp [hi]⟩
     obtain ⟨x,ex,dx⟩:=da.getD ed;obtain ⟨y,ey,dy⟩:=db.getD ed;have Oz:=s1.trans s2;have a1:ug vs (0+(i:Int))=some x:=by rw [Int.zero_add];exact aU ex
     have a2:ug ws (0+(i:Int))=some y:=by rw [Int.zero_add];exact aU ey
     exact ⟨_,rfl,_,rfl,.inl ⟨_,_,_,_,rfl,rfl,aV.of (s2 _ _ ha1),a1,_,rfl,_,rfl,.inl ⟨_,_,_,_,rfl,rfl,aV.of (s2 _ _ hb1),a2,x,y,d,rfl,dx.same Oz d,dy.same Oz d,pl.2 d (List.mem_of_getElem? ed),fun H3 s3=>kF _ H3 s3 rfl⟩⟩⟩
    ·rw [Av] at e2
     refine ⟨D,List.replicate ds.length true,rfl,aV.of (by rw [e2,List.map_replicate]), ?_⟩;rw [show (List.replicate ds.length true).all id=true by simp];exact k H2 (s1.trans s2)
  | .tuple ds,pl,dx,dy=>
    simp only [Dat] at dx dy;obtain ⟨a,vs,rfl,ha,da⟩:=dx;obtain ⟨b,ws,rfl,hb,db⟩:=dy;have la:vs.length=ds.length:=da.length;have lb:ws.length=ds.length:=db.length;have tH:ds.length<=100000:=pl.1;refine ⟨_,rfl,(by show 2<=sizeLine;decide),fun p hp=> ?_⟩;have s1:=aF (o:=HO.tup [V.ty "list",V.ty "tuple"]) hp;have ha1:=s1 _ _ ha;have hb1:=s1 _ _ hb;refine ⟨_,_,p,["list","tuple"],true,rfl,.tup hb1,aq,Df K,_,rfl, ?_⟩;refine iY ?_;refine ⟨_,rfl,_,_,false,rfl,.tup ha1,pQ K,_,rfl,_,_,false,rfl,.tup hb1,pQ K,rfl,_,rfl, ?_⟩;refine pP rfl ?_;refine ⟨_,rfl,_,_,true,rfl,.tup ha1,oE K,_,rfl,_,_,true,rfl,.tup hb1,oE K,rfl,_,rfl, ?_⟩;refine pP rfl ?_;refine ⟨_,rfl,a,_,rfl,.inr (fY.of ha1),_,rfl,b,_,rfl,.inr (fY.of hb1),rfl,_,rfl, ?_⟩;refine pP (by rw [la,lb]) ?_;refine ⟨_,rfl,b,_,rfl,.inr (fY.of hb1),_,rfl,by (clear hb1 ha1 hp tH lb la hb ha;omega),by (clear hb1 ha1 hp la hb ha;omega),fun D hD=> ?_⟩;rw [show ((ws.length:Int)).toNat=ds.length by omega];refine jj (fun i=>some (.bl true)) hD (by omega) (fun i H2 G F hi s2 kG kF=> ?_) (fun H2 s2 e2=> ?_)
    ·obtain ⟨d,ed⟩:∃d,ds[i]? = some d:=⟨ds[i],by simp [hi]⟩
     obtain ⟨x,ex,dx⟩:=da.getD ed;obtain ⟨y,ey,dy⟩:=db.getD ed;have Oz:=s1.trans s2;have a1:ug vs (0+(i:Int))=some x:=by rw [Int.zero_add];exact aU ex
     have a2:ug ws (0+(i:Int))=some y:=by rw [Int.zero_add];exact aU ey
     exact ⟨_,rfl,_,rfl,.inr (.inl ⟨_,_,_,_,rfl,rfl,fY.of (s2 _ _ ha1),a1,_,rfl,_,rfl,.inr (.inl ⟨_,_,_,_,rfl,rfl,fY.of (s2 _ _ hb1),a2,x,y,d,rfl,dx.same Oz d,dy.same Oz d,pl.2 d (List.mem_of_getElem? ed),fun H3 s3=>kF _ H3 s3 rfl⟩)⟩)⟩
    ·rw [Av] at e2
     refine ⟨D,List.replicate ds.length true,rfl,aV.of (by rw [e2,List.map_replicate]), ?_⟩;rw [show (List.replicate ds.length true).all id=true by simp];exact k H2 (s1.trans s2)
theorem CK (x y:Int):PyData.eqv (.int x) (.int y)=decide (x=y):=by
 simp only [PyData.eqv];rw [Bool.eq_iff_iff];simp
theorem iQ {H:Hp} {a:Addr} {ns:List Int} (h:H a=some (.lst (ns.map V.int))):Dat H (.ref a) (.list (ns.map PyData.int)):=jC h (aM.ints ns)
theorem shaped_ints (ns:List Int):SeqAt.shaped (.list (ns.map PyData.int))=true:=vH PyData.int 0 (by decide) (fun _ _=>rfl) (fun _ _=>by show 0<=0;decide)
def rD (cs:List Int) (ns:List Nt):PyData:= .tuple [.list (cs.map PyData.int),.list (ns.map nD)]
theorem Ke {H:Hp} {t c a:Addr} {cs:List Int} {ns:List Nt} (h:RecAt H t c a cs ns):Dat H (.ref t) (rD cs ns):=by
 obtain ⟨ht,hc,vs,ha,dv⟩:=h;simp only [rD,Dat];refine ⟨t,_,rfl,ht, ?_⟩;simp only [aM,and_true];exact ⟨iQ hc,jC ha dv⟩
theorem xT (cs:List Int) (ns:List Nt):SeqAt.shaped (rD cs ns)=true:=by
 have e1:=shaped_ints cs;have e2:=q_ ns;simp only [SeqAt.shaped,PyData.depth,PyData.depthAll,PyData.canLay0,PyData.canLayAll0,rD,Bool.and_eq_true,decide_eq_true_eq,Bool.and_true] at e1 e2 ⊢;have d1:PyData.depthAll (cs.map PyData.int)<=0:=kh _ 0 cs (fun _ _=>by show 0<=0;decide);have d2:PyData.depthAll (ns.map nD)<=1:=kh _ 1 ns (fun _ _=>by show (max 0 (max 0 (max 0 (max 0 0))))+1<=1;decide);refine ⟨?_, ?_⟩<;>first |(clear e2 e1;omega)|exact ⟨e1.1,e2.1⟩|exact ⟨e1.2,e2.2⟩|skip
theorem Vc (cs ds:List Int) (ns ms:List Nt):PyData.eqv (rD cs ns) (rD ds ms)=(decide (cs=ds)&&decide (ns=ms)):=by
 simp only [rD,PyData.eqv,PyData.eqvAll,Bool.and_true];have e1:=pW PyData.int CK cs ds;have e2:=pW nD QZ ns ms;simp only [PyData.eqv] at e1 e2;rw [e1,e2]
theorem Bg.up:∀{n:Nat} {d:PyData},Bg n d->Bg (n+1) d
 | _+1,.int _,_=>True.intro
 | n+1,.list ds,h=>⟨h.1,fun d hd=>Bg.up (h.2 d hd)⟩
 | n+1,.tuple ds,h=>⟨h.1,fun d hd=>Bg.up (h.2 d hd)⟩
 | 0,_,h=>h.elim
theorem aaj (ns:List Nt) (h2:ns.length<=100000):Bg 3 (.list (ns.map nD)):=by
 refine ⟨by rw [List.length_map];exact h2,fun d hd=> ?_⟩;obtain ⟨x,_,rfl⟩:=List.mem_map.mp hd;refine ⟨by show 4<=100000;decide,fun d hd=> ?_⟩;simp only [List.mem_cons,List.not_mem_nil,or_false] at hd;rcases hd with rfl|rfl|rfl|rfl<;>exact True.intro
def NtC (f:Nat->List Nt):Hp->Nat->Addr->Prop:=fun H j r=>∃ns:List Nt,gD H r ns/\ns.Perm (f j)
def BJ (K:PySem.W.Frag):Sp:=fun vs H Q _=>∃(t:Addr) (n:Nat) (f:Nat->List Nt),vs=[.ref t]/\cZ H t [] n (NtC f)/\n<=300/\((List.range n).flatMap f).length<=100000 /\
 ∀(r:Addr) (ns:List Nt) (H':Hp),H r=none->gD H' r ns->ns.Perm ((List.range n).flatMap f)->wu ns->Same H H'->Q (.ref r) H'
theorem yP {α:Type} (f:Nat->List α) (n:Nat):(List.range (n+1)).flatMap f=(List.range n).flatMap f++f n:=by
 rw [List.range_succ,List.flatMap_append];simp
theorem Yz {α:Type} (f:Nat->List α):∀(n m:Nat),n<=m->((List.range n).flatMap f).length<=((List.range m).flatMap f).length
 | n,m,h=>by
   obtain ⟨d,rfl⟩:=Nat.exists_eq_add_of_le h
   induction d with
   | zero=>exact Nat.le_refl _
   | succ d ih=>
     rw [←Nat.add_assoc,yP,List.length_append];have:=ih (by omega);omega
theorem Uc {f:Addr} {fd:FuncData} (F:jW K "_law_flat" "_law_flat" j7 f fd) (Bt:oO mg):cj P w K mg base gZ 1 f fd ["lists"] (BJ K):=by
 refine F.ok xW (fun vs H Q E h=> ?_) (fun cdv A outer s H vs Q E hr h=> ?_)
 ·obtain ⟨t,n,f,rfl,_⟩:=h
  rfl
 ·obtain ⟨t,n,f,rfl,⟨rs,ht,rl,rq⟩,nl,fl,k⟩:=h
  refine ⟨_,(aD (bw (i:=1) xW.nd rfl (Or.inl rfl) (bV aA))
   (aD (gK PassesOwn.never rfl (cJ (K:=K) rfl (pv 0)) (aX (i:=2) xW.nd rfl (Or.inl rfl))
   (aH (cg (mj (K:=K) rfl PySem.F.plainAttrs_list PySem.F.slot_list_extend PySem.F.type_list_extend uU (pv 1) (ao (pv 2) aA)))))
   (aH (bf (aQ (lW (K:=K) rfl) (by rfl) Bt.uf qF (ao (pv 1) aA)))))), ?_⟩
  refine ⟨(by show 0<=sizeLine;decide),fun r hr0=> ?_⟩;have s1:=aF (o:=HO.lst []) hr0;refine ⟨_,rfl,t,rfl,⟨_,aV.of (s1 _ _ ht)⟩, ?_⟩
  refine jA (K:=K) (a:=t) (xs:=rs.map V.ref) (fun i σ H2=>∃(x1:Option V) (ns:List Nt),σ=[some (.ref t),some (.ref r),x1]/\Same H H2/\gD H2 r ns/\ns.Perm ((List.range i).flatMap f))
   ⟨none,[],rfl,s1,⟨[],aq,by simp [aM]⟩,by simp⟩ (fun i σ H2 _ ⟨_,_,_,sm,_⟩=>aV.of (sm _ _ ht)) ?_ ?_
  ·rintro i v σ H2 hi ⟨x1,ns,rfl,sm,N,pp⟩
   rw [List.getElem?_map] at hi;cases ei:rs[i]? with
   | none=>rw [ei] at hi;cases hi
   | some q=>
     rw [ei] at hi;cases hi;have il:=(List.getElem?_eq_some_iff.mp ei).1;obtain ⟨_,ms,M,mp⟩:=rq i q ei;obtain ⟨us,hq,dq⟩:=M;obtain ⟨ts,hts,dts⟩:=id N;have l1:ts.length=ns.length:=by rw [dts.length,List.length_map]
     have l2:us.length=ms.length:=by rw [dq.length,List.length_map]
     have l3:=pp.length_eq;have l4:=mp.length_eq;have l5:=Yz f (i+1) n (by omega);rw [yP,List.length_append] at l5;refine ⟨_,rfl,.inl ⟨rfl,_,aV.of hts⟩,_,rfl,r,q,_,_,rfl,rfl,hts,sm _ _ hq,by rw [sizeLine_eq];omega, ?_⟩;have k3:Kp r H2 (upd H2 r (.lst (ts++us))):=Kp.set;have t3:=k3.tups hts;refine ⟨_,ns++ms,rfl,fun b u e=>k3 _ _ (sm _ _ e) (aB e hr0),⟨ts++us,aq, ?_⟩, ?_⟩
     ·rw [List.map_append]
      exact aM.append (aM.keep (fun a xs h=>t3 _ _ h) _ (bJ _ lC _) dts) (aM.keep (fun a xs h=>t3 _ _ (sm.tups _ _ h)) _ (bJ _ lC _) dq)
     ·rw [yP]
      exact pp.append mp
  ·rintro σ H2 ⟨x1,ns,rfl,sm,N,pp⟩
   rw [List.length_map,rl] at pp;refine ⟨_,rfl, ?_⟩;dsimp only [Bl];refine sV (K:=K) N fun l ns' H4 hl NN p2 ss s4=>k l ns' H4 (sm.free hl) NN (p2.trans pp) ss (sm.trans s4)
theorem Wc {ws:List bM} {H:Hp} {t:Addr} {n:Nat} (h:cZ H t [] n (BrC ws)):cZ H t [] n (NtC fun j=>cI ws j (eN ws j j)):=by
 obtain ⟨rs,e,l,q⟩:=h;refine ⟨rs,e,l,fun j r hj=>⟨(q j r hj).1, ?_⟩⟩;obtain ⟨ns,a,b,_⟩:=(q j r hj).2;exact ⟨ns,a,b⟩
def wD (C:Addr) (K:PySem.W.Frag):Sp:=fun vs H Q _=>∃(R:Rc) (ws:List bM) (hn:Nat),vs=[.ref R.o]/\RcAt C H R ws hn/\1<=hn/\hn<=8 /\
 ∀(R':Rc) (H':Hp),RcAt C H' R' ws hn->(∀x∈R'.fp,H x=none)->H R'.pl=none->H R'.o=none->Same H H'->Q (.ref R'.o) H'
theorem wB {H Hi:Hp} {o b:Addr} {vs:List V} {w w':HO} (s:Same H Hi) (ho:H o=none) (hi:Hi o=some w) (hb:Hi b=none):Same H (upd (upd Hi b (.lst vs)) o w')/\(upd (upd Hi b (.lst vs)) o w') b=some (.lst vs)/\(upd (upd Hi b (.lst vs)) o w') o=some w'/\H b=none/\b≠o /\ ∀x u,Hi x=some u->x≠o->(upd (upd Hi b (.lst vs)) o w') x=some u:=by
 have nb:b≠o:=(aB hi hb).symm;refine ⟨fun x u e=> ?_,by rw [aO nb,aq],aq,s.free hb,nb,fun x u e n=> ?_⟩
 ·rw [aO (aB e ho),aO (aB (s _ _ e) hb)]
  exact s _ _ e
 ·rw [aO n,aO (aB e hb)]
  exact e
theorem P0 {ak:Addr} {f:Addr} {fd:FuncData} (F:jW K "twin" "Recorder.twin" cG f fd) (au:bN K ak) (lG:mG P w K mg base 2 ak "Recorder" ["self","hands"] [] (sS ak K)) (Bt:oO mg):cj P w K mg base gZ 4 f fd ["self"] (wD ak K):=by
 refine F.ok mL (fun vs H Q E h=> ?_) (fun cdv A outer s H vs Q E hr h=> ?_)
 ·obtain ⟨R,ws,hn,rfl,_⟩:=h
  rfl
 ·obtain ⟨R,ws,hn,rfl,r,h1,h8,k⟩:=h
  refine ⟨_,(aD (bw (i:=1) mL.nd rfl (Or.inl rfl) (pF lG (hr.mono (by decide)) (by rfl) (ao (aQ (aP (K:=K) rfl) (by rfl) Bt.dW cB (ao (bI (K:=K) rfl (pv 0) rfl) aA)) aA)))
   (aD (dF (K:=K) rfl (pv 1) (bW (cO (K:=K) rfl) (by rfl) Bt.iT gn (ao (bI (K:=K) rfl (pv 0) rfl) aA)) rfl)
   (aD (dF (K:=K) rfl (pv 1) (bW (cO (K:=K) rfl) (by rfl) Bt.iT gn (ao (bI (K:=K) rfl (pv 0) rfl) aA)) rfl)
   (aD (dF (K:=K) rfl (pv 1) (bW (cO (K:=K) rfl) (by rfl) Bt.iT gn (ao (bI (K:=K) rfl (pv 0) rfl) aA)) rfl)
   (aD (dF (K:=K) rfl (pv 1) (bW (cO (K:=K) rfl) (by rfl) Bt.iT gn (ao (bI (K:=K) rfl (pv 0) rfl) aA)) rfl)
   (aD (dF (K:=K) rfl (pv 1) (eV rfl (N:=["places"]) (own:=["places"]) (caps:=[]) (bh.of (by kernel_rfl)) (cJ (K:=K) rfl (bI (K:=K) rfl (pv 0) rfl)) (fun _ _ _ _=>(aX (i:=0) (show List.Nodup (["places"]:List Str) by decide +kernel) rfl (Or.inl rfl))) (fun _ _ _ _=>eE) (fun _ _ _ _=>(bW (cO (K:=K) rfl) (by rfl) Bt.iT gn (ao (pv 0) aA)))) rfl)
   (aH (bf (pv 1))))))))), ?_⟩
  have Np:=r.Np;refine ⟨_,rfl,R.o,ak,R.dx,_,_,rfl,r.o,au.cls,au.fU,rfl,R.pl,_,rfl,.inl (aV.of r.pl),fun o dx ho hdx XQ=> ?_⟩;rw [List.length_map,Np];have s6:Same H (upd (upd H dx (.own o)) o (.ins ak dx [])):=(aF hdx).trans (aF (by rw [aO (Ne.symm XQ)];exact ho));refine ⟨o,dx,hn,rfl,aq,by omega,by omega,fun R1 H1 ero RC fr Sd k1=>⟨rfl, ?_⟩⟩;have s1:Same H H1:=fun c u e=>k1 _ _ (s6 _ _ e) (aB e ho);have ho1:H1 o=some (.ins ak R1.dx (rF R1.a R1.nd R1.kn R1.tk R1.pl)):=by rw [←ero];exact RC.o
  clear k1 s6 fr Sd;have r1:=r.same s1;obtain ⟨wv,hw,dw⟩:=id r1.web;refine ⟨_,rfl,R.o,ak,R.dx,_,_,rfl,r1.o,au.cls,au.Al,rfl,R.a,_,rfl,.inl (aV.of hw),fun a2 ha2=> ?_⟩;refine ⟨_,rfl,o,ak,R1.dx,_,rfl,(aF ha2) _ _ ho1,au.cls,au.Al,(by show 5<1000;decide), ?_⟩;obtain ⟨s2,ea2,ho2,fa2,na2,kp2⟩:=wB (vs:=wv) (w':= .ins ak R1.dx (rF a2 R1.nd R1.kn R1.tk R1.pl)) s1 ho ho1 ha2;have e2:upd (upd H1 a2 (.lst wv)) o (.ins ak R1.dx (dI "web" (.ref a2) (rF R1.a R1.nd R1.kn R1.tk R1.pl)))=upd (upd H1 a2 (.lst wv)) o (.ins ak R1.dx (rF a2 R1.nd R1.kn R1.tk R1.pl)):=rfl;rw [e2];generalize (upd (upd H1 a2 (.lst wv)) o (.ins ak R1.dx (rF a2 R1.nd R1.kn R1.tk R1.pl)))=H2 at s2 ea2 ho2 kp2 ⊢;have r2:=r.same s2;obtain ⟨nv,wM,dn⟩:=id r2.named;refine ⟨_,rfl,R.o,ak,R.dx,_,_,rfl,r2.o,au.cls,au.qy,rfl,R.nd,_,rfl,.inl (aV.of wM),fun qP hnd2=> ?_⟩;refine ⟨_,rfl,o,ak,R1.dx,_,rfl,(aF hnd2) _ _ ho2,au.cls,au.qy,(by show 5<1000;decide), ?_⟩;obtain ⟨s3,YL,Iu,aiA,Xw,JX⟩:=wB (vs:=nv) (w':= .ins ak R1.dx (rF a2 qP R1.kn R1.tk R1.pl)) s2 ho ho2 hnd2;have e3:upd (upd H2 qP (.lst nv)) o (.ins ak R1.dx (dI "named" (.ref qP) (rF a2 R1.nd R1.kn R1.tk R1.pl)))=upd (upd H2 qP (.lst nv)) o (.ins ak R1.dx (rF a2 qP R1.kn R1.tk R1.pl)):=rfl;rw [e3];have x23:a2≠qP:=aB ea2 hnd2;have ea3:=JX _ _ ea2 na2;generalize (upd (upd H2 qP (.lst nv)) o (.ins ak R1.dx (rF a2 qP R1.kn R1.tk R1.pl)))=H3 at s3 YL Iu JX ea3 ⊢;have r3:=r.same s3;obtain ⟨ks,hks,kl,kq⟩:=id r3.Yd;refine ⟨_,rfl,R.o,ak,R.dx,_,_,rfl,r3.o,au.cls,au.mR,rfl,R.kn,_,rfl,.inl (aV.of hks),fun ur U3=> ?_⟩;refine ⟨_,rfl,o,ak,R1.dx,_,rfl,(aF U3) _ _ Iu,au.cls,au.mR,(by show 5<1000;decide), ?_⟩;obtain ⟨s4,YM,Dr,aiC,aat,sE⟩:=wB (vs:=ks.map V.ref) (w':= .ins ak R1.dx (rF a2 qP ur R1.tk R1.pl)) s3 ho Iu U3;have e4:upd (upd H3 ur (.lst (ks.map V.ref))) o (.ins ak R1.dx (dI "knowns" (.ref ur) (rF a2 qP R1.kn R1.tk R1.pl)))=upd (upd H3 ur (.lst (ks.map V.ref))) o (.ins ak R1.dx (rF a2 qP ur R1.tk R1.pl)):=rfl;rw [e4];have x24:a2≠ur:=aB ea3 U3;have x34:qP≠ur:=aB YL U3;have ea4:=sE _ _ ea3 na2;have YK:=sE _ _ YL Xw;generalize (upd (upd H3 ur (.lst (ks.map V.ref))) o (.ins ak R1.dx (rF a2 qP ur R1.tk R1.pl)))=H4 at s4 YM Dr sE ea4 YK ⊢;have r4:=r.same s4;obtain ⟨ts,NT,tp⟩:=id r4.tkn;obtain ⟨tv,htv,dt⟩:=id NT;refine ⟨_,rfl,R.o,ak,R.dx,_,_,rfl,r4.o,au.cls,au.qx,rfl,R.tk,_,rfl,.inl (aV.of htv),fun tk2 QB=> ?_⟩;refine ⟨_,rfl,o,ak,R1.dx,_,rfl,(aF QB) _ _ Dr,au.cls,au.qx,(by show 5<1000;decide), ?_⟩;obtain ⟨s5,Va,UW,aiz,agH,Qt⟩:=wB (vs:=tv) (w':= .ins ak R1.dx (rF a2 qP ur tk2 R1.pl)) s4 ho Dr QB;have e5:upd (upd H4 tk2 (.lst tv)) o (.ins ak R1.dx (dI "taken" (.ref tk2) (rF a2 qP ur R1.tk R1.pl)))=upd (upd H4 tk2 (.lst tv)) o (.ins ak R1.dx (rF a2 qP ur tk2 R1.pl)):=rfl;rw [e5];have x25:a2≠tk2:=aB ea4 QB;have x35:qP≠tk2:=aB YK QB;have x45:ur≠tk2:=aB YM QB;have ea5:=Qt _ _ ea4 na2;have Ve:=Qt _ _ YK Xw;have Vf:=Qt _ _ YM aat;generalize (upd (upd H4 tk2 (.lst tv)) o (.ins ak R1.dx (rF a2 qP ur tk2 R1.pl)))=H5 at s5 Va UW Qt ea5 Ve Vf ⊢;have r5:=r.same s5;refine ⟨_,rfl,R.o,ak,R.dx,_,_,rfl,r5.o,au.cls,au.fU,rfl,R.pl,rfl,⟨_,aV.of r5.pl⟩,fun yh Fw=> ?_⟩;refine mY (K:=K) (xs:=R.ps.map V.ref) (fun i σ Hc=>(∃v,σ=[v]) /\ ∃qs:List Addr,qs.length=i/\Same H5 Hc/\Hc yh=some (.lst (qs.map V.ref))/\qs.Nodup /\ ∀(h:Nat) (q:Addr),qs[h]? = some q->H5 q=none/\q≠yh/\Hc q=some (.lst (d_ (lK ws (h:Int))))) ⟨⟨none,rfl⟩,[],rfl,aF Fw,aq,List.nodup_nil,fun h q e=>by simp at e⟩ (fun i σ Hc _ ⟨_,_,_,sc,_⟩=>aV.of (sc _ _ r5.pl)) ?_ ?_
  ·rintro i x σ Hc hi ⟨⟨v,rfl⟩,qs,ql,sc,ep,qnd,hq⟩
   rw [List.getElem?_map] at hi
   obtain ⟨p,epp,rfl⟩:∃p,R.ps[i]? = some p/\x = .ref p:=by
    cases e:R.ps[i]? with
    | none=>rw [e] at hi;cases hi
    | some q=>rw [e] at hi;exact ⟨q,rfl,(Option.some.inj hi).symm⟩
   have hp:=sc _ _ (r5.Zk i p epp);have il:=(List.getElem?_eq_some_iff.mp epp).1;dsimp only [jz,Ot];rw [if_pos rfl];refine ⟨_,rfl,p,_,rfl,.inl (aV.of hp),fun q hq0=> ?_⟩;have sq:=aF (o:=HO.lst (d_ (lK ws (i:Int)))) hq0;have nq:q≠yh:=(aB ep hq0).symm;refine ⟨_,sq _ _ ep,by rw [List.length_map,sizeLine_eq];omega,⟨_,rfl⟩,qs++[q],by simp [ql],(sc.trans sq).newly Fw,by rw [aq,List.map_append];rfl, ?_,fun h q' e=> ?_⟩
   ·rw [List.nodup_append]
    refine ⟨qnd,by simp,fun x hx y hy e=> ?_⟩;have:y=q:=by simpa using hy
    subst this;subst e;obtain ⟨j,ej⟩:=List.getElem?_of_mem hx;rw [(hq j x ej).2.2] at hq0;cases hq0
   ·have lh:h<qs.length\/h=qs.length:=by
     have:=(List.getElem?_eq_some_iff.mp e).1;simp at this;omega
    rcases lh with lh|lh
    ·rw [List.getElem?_append_left lh] at e
     obtain ⟨x1,x2,x3⟩:=hq h q' e;exact ⟨x1,x2,by rw [aO x2];exact sq _ _ x3⟩
    ·subst lh
     rw [List.getElem?_append_right (Nat.le_refl _)] at e;simp at e;subst e;rw [ql];exact ⟨sc.free hq0,nq,by rw [aO nq,aq]⟩
  rintro σ Hc ⟨⟨v,rfl⟩,qs,ql,sc,ep,qnd,hq⟩;rw [List.length_map,Np] at ql;refine ⟨_,rfl,o,ak,R1.dx,_,rfl,sc _ _ UW,au.cls,au.fU,(by show 5<1000;decide), ?_⟩;have e6:upd Hc o (.ins ak R1.dx (dI "places" (.ref yh) (rF a2 qP ur tk2 R1.pl)))=upd Hc o (.ins ak R1.dx (rF a2 qP ur tk2 yh)):=rfl;rw [e6];have V3:Kp o Hc (upd Hc o (.ins ak R1.dx (rF a2 qP ur tk2 yh))):=Kp.set;have ho6:(upd Hc o (.ins ak R1.dx (rF a2 qP ur tk2 yh))) o=some (.ins ak R1.dx (rF a2 qP ur tk2 yh)):=aq;have S6:Same H (upd Hc o (.ins ak R1.dx (rF a2 qP ur tk2 yh))):=fun x u e=>V3 _ _ (sc _ _ (s5 _ _ e)) (aB e ho);have ea6:=V3 _ _ (sc _ _ ea5) na2;have aa4:=V3 _ _ (sc _ _ Ve) Xw;have aa7:=V3 _ _ (sc _ _ Vf) aat;have aa1:=V3 _ _ (sc _ _ Va) agH;have npo:yh≠o:=(aB UW Fw).symm;have aa3:=V3 _ _ ep npo
  have hq6:∀(h:Nat) (q:Addr),qs[h]? = some q->(upd Hc o (.ins ak R1.dx (rF a2 qP ur tk2 yh))) q=some (.lst (d_ (lK ws (h:Int)))):=fun h q e=>by
   obtain ⟨x1,x2,x3⟩:=hq h q e;exact V3 _ _ x3 (aB UW x1).symm
  generalize (upd Hc o (.ins ak R1.dx (rF a2 qP ur tk2 yh)))=H6 at V3 ho6 S6 ea6 aa4 aa7 aa1 aa3 hq6 ⊢;have r6:=r.same S6
  have at6:∀(x:Addr) (vs:List V) (Hi:Hp),Same H Hi->(∃us,H x=some (.lst us))->Hi x=some (.lst vs)->H6 x=some (.lst vs):=fun x vs Hi si ⟨us,e⟩ ei=>by
   rw [si _ _ e] at ei;cases ei;exact S6 _ _ e
  have W6:dX H6 a2 ws:=by
   obtain ⟨us,e,d⟩:=id r6.web;obtain ⟨Zg,e0,_⟩:=id r.web;rw [at6 R.a wv H1 s1 ⟨Zg,e0⟩ hw] at e;cases e;exact ⟨_,ea6,d⟩
  have N6:m7 H6 qP (nm ws):=by
   obtain ⟨us,e,d⟩:=id r6.named;obtain ⟨Zg,e0,_⟩:=id r.named;rw [at6 R.nd nv H2 s2 ⟨Zg,e0⟩ wM] at e;cases e;exact ⟨_,aa4,d⟩
  have K6:lX H6 ur ws ws.length:=by
   obtain ⟨us,e,q⟩:=id r6.Yd;obtain ⟨Zg,e0,_⟩:=id r.Yd;refine ⟨us, ?_,q⟩;rw [aa7,←at6 R.kn (ks.map V.ref) H3 s3 ⟨_,e0⟩ hks];exact e
  have T6:∃ts,gD H6 tk2 ts/\ts.Perm (iU ws ws.length):=by
   obtain ⟨ts6,⟨us,e,d⟩,p6⟩:=id r6.tkn;obtain ⟨_,⟨Zg,e0,_⟩,_⟩:=id r.tkn;rw [at6 R.tk tv H4 s4 ⟨Zg,e0⟩ htv] at e;cases e;exact ⟨ts6,⟨_,aa1,d⟩,p6⟩
  have nq:∀{x:Addr} {u:HO},H5 x=some u->x∉qs:=fun {x u} e m=>by
   obtain ⟨j,ej⟩:=List.getElem?_of_mem m;rw [(hq j x ej).1] at e;cases e
  have q5:yh∉qs:=fun m=>by
   obtain ⟨j,ej⟩:=List.getElem?_of_mem m;exact (hq j yh ej).2.1 rfl
  refine ⟨_,rfl,k ⟨o,R1.dx,a2,qP,ur,tk2,yh,qs⟩ H6 ⟨ho6,W6,N6,K6,T6,aa3,ql,hq6, ?_, ?_⟩ (fun x hx=> ?_) (s5.free Fw) ho S6⟩
  ·show (a2::qP::ur::tk2::qs).Nodup
   rw [List.nodup_cons,List.nodup_cons,List.nodup_cons,List.nodup_cons];refine ⟨?_, ?_, ?_,nq Va,qnd⟩
   ·simp [x23,x24,x25,nq ea5]
   ·simp [x34,x35,nq Ve]
   ·simp [x45,nq Vf]
  ·show yh∉(a2::qP::ur::tk2::qs)
   have y1:yh≠a2:=(aB ea5 Fw).symm;have y2:yh≠qP:=(aB Ve Fw).symm;have y3:yh≠ur:=(aB Vf Fw).symm;have y4:yh≠tk2:=(aB Va Fw).symm;simp [y1,y2,y3,y4,q5]
  ·have hx:x∈(a2::qP::ur::tk2::qs):=hx
   simp only [List.mem_cons] at hx;rcases hx with rfl|rfl|rfl|rfl|hx
   ·exact fa2
   ·exact aiA
   ·exact aiC
   ·exact aiz
   ·obtain ⟨j,ej⟩:=List.getElem?_of_mem hx
    exact s5.free (hq j x ej).1
theorem pY {ws:List bM} {h:Int}:∀(n:Nat) {c:Int},0<=c->c<cnt (ws.take n) h -> ∃m x,ws[m]? = some x/\x.1=h/\cnt (ws.take m) h=c
 | 0,c,h0,h1=>by
   rw [List.take_zero] at h1;have:cnt [] h=0:=rfl;omega
 | n+1,c,h0,h1=>by
   cases e:ws[n]? with
   | none=>
     have:ws.take (n+1)=ws.take n:=by rw [List.take_add_one,e];simp
     rw [this] at h1;exact pY n h0 h1
   | some x=>
     have t:ws.take (n+1)=ws.take n++[x]:=by rw [List.take_add_one,e];rfl
     rw [t,iR] at h1
     by_cases q:h=x.1
     ·rw [if_pos q] at h1
      by_cases l:c<cnt (ws.take n) h
      ·exact pY n h0 l
      ·exact ⟨n,x,e,q.symm,by omega⟩
     ·rw [if_neg q] at h1
      exact pY n h0 h1
theorem Im {ws:List bM} {hn j:Nat} {g:Int->Int} {a:List Int} (k:qN ws j g) (g0:∀i,0<=g i) (r:rR ws hn a (fun m=>m=j\/wk ws j m) (j+1)) (h:Nat):g (h:Int)=gI a (h:Int):=by
 have b1:=k.2 (h:Int);have b2:=r.2.2 h;have p0:=g0 (h:Int);rcases Int.lt_trichotomy (g (h:Int)) (gI a (h:Int)) with l|l|l
 ·obtain ⟨m,x,ex,e,ec⟩:=pY (ws:=ws) (h:=(h:Int)) (j+1) p0 (Int.lt_of_lt_of_le l b2.2)
  have i1:=k.1 m x ex;have i2:=r.2.1 m x ex;rw [e,ec] at i1 i2;exact absurd (i1.mpr (i2.mp l)) (Int.lt_irrefl _)
 ·exact l
 ·obtain ⟨m,x,ex,e,ec⟩:=pY (ws:=ws) (h:=(h:Int)) (j+1) b2.1 (Int.lt_of_lt_of_le l b1)
  have i1:=k.1 m x ex;have i2:=r.2.1 m x ex;rw [e,ec] at i1 i2;exact absurd (i2.mpr (i1.mp l)) (Int.lt_irrefl _)
theorem qN.pre {j:Nat} {g:Int->Int}:∀(suf pre:List bM),qN pre j g->j<pre.length->qN (pre++suf) j g
 | [],pre,k,_=>by rw [List.append_nil];exact k
 | x::s,pre,k,h=>by
   rw [show pre++x::s=(pre++[x])++s by simp];exact qN.pre s _ (k.snoc h) (by rw [List.length_append];omega)
theorem qN.whole {ws:List bM} {n j:Nat} {g:Int->Int} (k:qN (ws.take n) j g) (h:j<(ws.take n).length):qN ws j g:=by
 have:=qN.pre (ws.drop n) _ k h;rwa [List.take_append_drop] at this
def jk (ws:List bM) (hn:Nat):List Int:=(List.range hn).map fun h:Nat=>cnt ws (h:Int)
theorem mZ (ws:List bM) (hn:Nat):(jk ws hn).length=hn:=by unfold jk;simp
theorem J_ {ws:List bM} {hn:Nat} {h:Int} (h0:0<=h) (h1:h<hn):gI (jk ws hn) h=cnt ws h:=by
 obtain ⟨m,rfl⟩:=Int.eq_ofNat_of_zero_le h0;refine yN ?_;unfold jk;rw [List.getElem?_map,List.getElem?_range (by omega)];rfl
def Zb (ws:List bM) (hn n:Nat):Hp->Nat->Addr->Prop:=fun H h r=>∃a:List Int,H r=some (.lst (a.map V.int))/\a.length=hn/\((lK (ws.take n) (h:Int)=[]/\a=List.replicate hn 0) \/ ∃j,(lK (ws.take n) (h:Int)).getLast?=some j/\rR ws hn a (fun m=>m=j\/wk ws j m) (j+1))
theorem Ma (ws:List bM) (hn n:Nat):Keeps (Zb ws hn n):=fun H H' j r ⟨a,h,q⟩=>⟨⟨_,h⟩,fun _ k=>⟨a,k _ h,q⟩⟩
theorem Mt {ws:List bM} {hn n h:Nat} {H:Hp} {r:Addr} {g:Int->Int} (d:Zb ws hn n H h r) (k:KnL (ws.take n) (h:Int) g):H r=some (.lst ((List.range hn).map fun i:Nat=>V.int (g (i:Int)))):=by
 obtain ⟨a,hr,al,q⟩:=d;rw [hr];congr 2;refine List.ext_getElem? fun i=> ?_
 by_cases hi:i<hn
 ·rw [List.getElem?_map,List.getElem?_map,List.getElem?_range hi,List.getElem?_eq_getElem (by omega)]
  show some (V.int a[i])=some (V.int (g (i:Int)));have ea:gI a (i:Int)=a[i]:=yN (List.getElem?_eq_getElem (by omega));rcases q with ⟨e1,e2⟩|⟨j,e1,e2⟩
  ·rw [k.1 e1,←ea,e2,Cz]
  ·obtain ⟨k1,k2⟩:=k.2 j e1
   have jl:j<(ws.take n).length:=by
    have:j∈lK (ws.take n) (h:Int):=List.mem_of_getLast? e1;unfold lK at this;exact List.mem_range.mp (List.mem_filter.mp this).1
   rw [Im (k1.whole jl) k2 e2 i,ea]
 ·rw [List.getElem?_eq_none (by simp;omega),List.getElem?_eq_none (by simp;omega)]
theorem I_ (ws:List bM) (h:Int):cnt ws h<=ws.length:=by
 unfold cnt;have:=List.length_filter_le (fun x:bM=>decide (x.1=h)) ws;omega
theorem vO {ws:List bM} {i:Nat} (h:i<ws.length):cnt (ws.take i) (hnd ws i)<cnt ws (hnd ws i):=by
 have ex:ws[i]? = some ws[i]:=List.getElem?_eq_getElem h;have t:ws.take (i+1)=ws.take i++[ws[i]]:=by rw [List.take_add_one,ex];rfl
 have m:=jE ws (hnd ws i) (i+1) (ws.length - (i+1));rw [show i+1+(ws.length - (i+1))=ws.length by omega,List.take_length,t,iR,if_pos (rM ex)] at m;omega
theorem Uj {ws:List bM} {hn:Nat} {e j:Nat} (ok:∀x∈ws,jF (hn:Int) x) (he:e<ws.length) (hj:j<ws.length) (ne:¬hnd ws e=hnd ws j):RJ (jk ws hn) (lu ws e j):=by
 have r:∀i,i<ws.length->0<=hnd ws i/\hnd ws i<hn:=fun i hi=>by
  have ex:ws[i]? = some ws[i]:=List.getElem?_eq_getElem hi;rw [rM ex];exact (ok _ (List.getElem_mem hi)).1
 obtain ⟨a0,a1⟩:=r e he;obtain ⟨b0,b1⟩:=r j hj;unfold lu;refine ⟨⟨a0,by rw [mZ];exact a1⟩,⟨jQ _ _, ?_⟩,⟨b0,by rw [mZ];exact b1⟩,⟨jQ _ _, ?_⟩,ne⟩
 ·show cnt (ws.take e) (hnd ws e)<gI (jk ws hn) (hnd ws e)
  rw [J_ a0 a1];exact vO he
 ·show cnt (ws.take j) (hnd ws j)<gI (jk ws hn) (hnd ws j)
  rw [J_ b0 b1];exact vO hj
theorem Vq {ws:List bM} {hn:Nat} (ok:∀x∈ws,jF (hn:Int) x) {n:Nat} (hn':n<=ws.length):∀x∈iU ws n,RJ (jk ws hn) x:=fun x hx=>by
 unfold iU at hx;obtain ⟨j,hj,hx⟩:=List.mem_flatMap.mp hx;have hj:=List.mem_range.mp hj;unfold cI at hx;obtain ⟨e,he,rfl⟩:=List.mem_map.mp hx;obtain ⟨h1,h2⟩:=List.mem_filter.mp he;exact Uj ok (zA (by omega) h1) (by omega) (of_decide_eq_true h2)
theorem O4 {ws:List bM} {hn:Nat} {ns:List Nt} (ok:∀x∈ws,jF (hn:Int) x) (h8:hn<=8) (wl:ws.length<=300) (pm:ns.Perm (iU ws ws.length)):rW (jk ws hn) ns:=by
 refine ⟨⟨by rw [mZ];exact h8,fun c hc=> ?_⟩, ?_,fun x hx=>Vq ok (Nat.le_refl _) x (pm.mem_iff.mp hx)⟩
 ·unfold jk at hc
  obtain ⟨h,_,rfl⟩:=List.mem_map.mp hc;have:=I_ ws (h:Int);exact ⟨jQ _ _,by omega⟩
 ·rw [pm.length_eq]
  have:=uh ws ws.length;have:ws.length*ws.length<=300*300:=Nat.mul_le_mul wl wl;omega
theorem RcAt.CG {C:Addr} {H:Hp} {R:Rc} {ws:List bM} {hn:Nat} (r:RcAt C H R ws hn) {b:Addr} (m:b∈R.fp):∃xs,H b=some (.lst xs):=by
 obtain ⟨_,w,_⟩:=r.web;obtain ⟨_,n,_⟩:=r.named;obtain ⟨_,k,_⟩:=r.Yd;obtain ⟨_,⟨_,t,_⟩,_⟩:=r.tkn;have m:b∈(R.a::R.nd::R.kn::R.tk::R.ps):=m;simp only [List.mem_cons] at m;rcases m with rfl|rfl|rfl|rfl|m
 ·exact ⟨_,w⟩
 ·exact ⟨_,n⟩
 ·exact ⟨_,k⟩
 ·exact ⟨_,t⟩
 ·obtain ⟨i,e⟩:=List.getElem?_of_mem m
  exact ⟨_,r.Zk i b e⟩
theorem JK {ns:List Int} (h:ns.length<=100000):Bg 2 (.list (ns.map PyData.int)):=by
 refine ⟨by rw [List.length_map];exact h,fun d hd=> ?_⟩;obtain ⟨x,_,rfl⟩:=List.mem_map.mp hd;exact True.intro
def lD (a:List Int):PyData:= .list (a.map PyData.int)
theorem dY.vW {H H':Hp} {r b:Addr} {n:Nat} (W:List Addr) (h:dY H r b n) (k:∀x u,H x=some u->x∉W->H' x=some u) (n1:r∉W) (n2:b∉W):dY H' r b n:=by
 obtain ⟨ns,i,f,c,t,e1,e2,q⟩:=h;exact ⟨ns,i,f,c,t,k _ _ e1 n1,k _ _ e2 n2,q⟩
theorem tZ {H:Hp} (p:bM->Bool):∀{vs:List V} {ns:List bM},aM H vs (ns.map tD)->aM H ((List.range vs.length).filterMap fun i=>(ns[i]?).bind fun x=>if p x then vs[i]? else none) ((ns.filter p).map tD)
 | [],[],_=>by simp [aM]
 | [],_::_,h=>by simp only [List.map_cons,aM] at h
 | _::_,[],h=>by simp only [List.map_nil,aM] at h
 | v::vs,n::ns,h=>by
   simp only [List.map_cons,aM] at h;have ih:=tZ p h.2
   have e:(List.range (v::vs).length).filterMap (fun i=>((n::ns)[i]?).bind fun x=>if p x then (v::vs)[i]? else none)=(if p n then [v] else [])++(List.range vs.length).filterMap fun i=>(ns[i]?).bind fun x=>if p x then vs[i]? else none:=by
    rw [List.length_cons,List.range_succ_eq_map,List.filterMap_cons,List.filterMap_map];cases q:p n
    ·simp [q];rfl
    ·simp [q];rfl
   rw [e,List.filter_cons];cases q:p n
   ·simpa using ih
   ·simp only [if_true,List.cons_append,List.nil_append,List.map_cons,aM]
    exact ⟨h.1,ih⟩
theorem za (y:Str):∀xs:List Str,cat (xs++[y])=cat xs++y
 | []=>by
   show y++Str.empty=Str.empty++y;rw [dZ];exact (Str.empty_append y).symm
 | x::xs=>by
   show cat (x::(xs++[y]))=cat (x::xs)++y;rw [cat,cat,za y xs,Str.append_assoc]
theorem yc {cs:List Int} (ok:∀c∈cs,0<=c/\c<=1000):(cat (cs.map fun c=>Str.ofString " " ++ num c)).length<=5*cs.length:=by
 rw [wO,List.map_map]
 exact sum_bound _ 5 cs fun c hc=>by
  have q:=ok c hc;have:=dh (i:=c) q.1 q.2;simp only [Function.comp,Str.length_append,lB,num];omega
theorem Ce {ns:List Nt} (ok:∀x∈ns,(0<=x.1/\x.1<=1000)/\(0<=x.2.1/\x.2.1<=1000)/\(0<=x.2.2.1/\x.2.2.1<=1000)/\(0<=x.2.2.2/\x.2.2.2<=1000)):(cat (ns.map fun x=>Str.ofString "\n" ++ nT x)).length<=20*ns.length:=by
 rw [wO,List.map_map]
 exact sum_bound _ 20 ns fun x hx=>by
  have:=Ql (ok x hx);simp only [Function.comp,Str.length_append,rH];omega
def xO (K:PySem.W.Frag):Sp:=fun vs H Q _=>∃(f c:Addr) (cs:List Int) (ns:List Nt),vs=[.ref f,.ref c]/\gD H f ns/\H c=some (.lst (cs.map V.int))/\rW cs ns/\Q (.str (rT cs ns)) H
theorem Ld {f:Addr} {fd:FuncData} (F:jW K "_law_text" "_law_text" j4 f fd) (Bt:oO mg):cj P w K mg base gZ 1 f fd ["ties","counts"] (xO K):=by
 refine F.ok gO (fun vs H Q E h=> ?_) (fun cdv A outer s H vs Q E hr h=> ?_)
 ·obtain ⟨f,c,cs,ns,rfl,_⟩:=h
  rfl
 ·obtain ⟨f,c,cs,ns,rfl,N,hc,ok,k⟩:=h
  obtain ⟨vs,hf,dv⟩:=id N;have vl:vs.length=ns.length:=by rw [dv.length,List.length_map]
  have nl:=ok.2.1;have c8:=ok.1.1;have csm:∀z∈cs,0<=z/\z<=1000:=fun z hz=>by have:=ok.1.2 z hz;exact ⟨this.1,by omega⟩
  have nsm:∀x∈ns,(0<=x.1/\x.1<=1000)/\(0<=x.2.1/\x.2.1<=1000)/\(0<=x.2.2.1/\x.2.2.1<=1000)/\(0<=x.2.2.2/\x.2.2.2<=1000):=fun x hx=>(ok.2.2 x hx).small ok.1
  refine ⟨_,(aD (bw (i:=2) gO.nd rfl (Or.inl rfl) cN)
   (aD (gK PassesOwn.never rfl (cJ (K:=K) rfl (pv 1)) (aX (i:=3) gO.nd rfl (Or.inl rfl))
   (aH (bw (i:=2) gO.nd rfl (Or.inl rfl) (bC eZ (bC eZ (pv 2) cN) (bW eY (by rfl) Bt.qT mF (ao (pv 3) aA))))))
   (aD (gK PassesOwn.never rfl (cJ (K:=K) rfl (pv 0)) (tM (K:=K) (n:=4) rfl rfl (d9 (aX (i:=4) gO.nd rfl (Or.inl rfl)) (d9 (aX (i:=5) gO.nd rfl (Or.inl rfl)) (d9 (aX (i:=6) gO.nd rfl (Or.inl rfl)) (d9 (aX (i:=7) gO.nd rfl (Or.inl rfl)) tK)))))
   (aD (bw (i:=2) gO.nd rfl (Or.inl rfl) (bC eZ (bC eZ (bC eZ (bC eZ (pv 2) cN) (bW eY (by rfl) Bt.qT mF (ao (pv 4) aA))) cN) (bW eY (by rfl) Bt.qT mF (ao (pv 5) aA))))
   (aH (bw (i:=2) gO.nd rfl (Or.inl rfl) (bC eZ (bC eZ (bC eZ (bC eZ (pv 2) cN) (bW eY (by rfl) Bt.qT mF (ao (pv 6) aA))) cN) (bW eY (by rfl) Bt.qT mF (ao (pv 7) aA)))))))
   (aH (bf (pv 2)))))), ?_⟩
  refine ⟨_,rfl,c,rfl,⟨_,aV.of hc⟩, ?_⟩
  refine jA (K:=K) (a:=c) (xs:=cs.map V.int) (fun i σ Hc=>Hc=H /\ ∃(v:Option V),σ=[some (.ref f),some (.ref c),some (.str (Str.ofString "counts" ++ cat ((cs.take i).map fun c=>Str.ofString " " ++ num c))),v,none,none,none,none])
   ⟨rfl,none,by rw [List.take_zero,List.map_nil,cat,dZ];rfl⟩ (fun i σ Hc _ ⟨e,_⟩=>by rw [e];exact aV.of hc) ?_ ?_
  ·rintro i x σ Hc hi ⟨rfl,v,rfl⟩
   rw [List.getElem?_map] at hi
   obtain ⟨z,ez,rfl⟩:∃z,cs[i]? = some z/\x = .int z:=by
    cases e:cs[i]? with
    | none=>rw [e] at hi;cases hi
    | some q=>rw [e] at hi;exact ⟨q,rfl,(Option.some.inj hi).symm⟩
   have q:=csm z (List.mem_of_getElem? ez);have il:=(List.getElem?_eq_some_iff.mp ez).1;have tk:cs.take (i+1)=cs.take i++[z]:=by rw [List.take_add_one,ez];rfl
   have l1:=yc (cs:=cs.take i) fun c hc=>csm c (List.mem_of_mem_take hc);have l2:(cs.take i).length<=8:=by rw [List.length_take];omega
   have l3:=dh (i:=z) q.1 q.2;have lc:(Str.ofString "counts" ++ cat ((cs.take i).map fun c=>Str.ofString " " ++ num c)).length<=46:=by rw [Str.length_append,nU];omega
   dsimp only [jz];refine ⟨_,rfl,_,_,rfl,rfl,by rw [lB,sizeLine_eq];omega,_,rfl,z,rfl,nR q.1 q.2,_,_,rfl,rfl,by rw [Str.length_append,lB,sizeLine_eq];omega, ?_⟩;refine ⟨rfl,some (.int z), ?_⟩;rw [tk,List.map_append,List.map_cons,List.map_nil,za];unfold num;simp only [Str.append_assoc];rfl
  rintro σ Hc ⟨rfl,v,rfl⟩;rw [List.length_map,List.take_length]
  have agU:(Str.ofString "counts" ++ cat (cs.map fun c=>Str.ofString " " ++ num c)).length<=46:=by
   have:=yc csm;rw [Str.length_append,nU];omega
  generalize er0:(Str.ofString "counts" ++ cat (cs.map fun c=>Str.ofString " " ++ num c))=row at agU ⊢;have YG:row++cat (ns.map fun x=>Str.ofString "\n" ++ nT x)=rT cs ns:=by rw [←er0];rfl
  refine ⟨_,rfl,f,rfl,⟨_,aV.of hf⟩, ?_⟩
  refine jA (K:=K) (a:=f) (xs:=vs) (fun i σ H2=>H2=Hc /\ ∃(v1 v2 v3 v4 v5:Option V),σ=[some (.ref f),some (.ref c),some (.str (row++cat ((ns.take i).map fun x=>Str.ofString "\n" ++ nT x))),v1,v2,v3,v4,v5])
   ⟨rfl,v,none,none,none,none,by rw [List.take_zero,List.map_nil,cat,dZ]⟩ (fun i σ H2 _ ⟨e,_⟩=>by rw [e];exact aV.of hf) ?_ ?_
  ·rintro i y σ H2 hi ⟨rfl,v1,v2,v3,v4,v5,rfl⟩
   obtain ⟨x,t,ex,rfl,ht⟩:=Ca dv hi;obtain ⟨qa,qb,qc,qd⟩:=nsm x (List.mem_of_getElem? ex);have il:=(List.getElem?_eq_some_iff.mp ex).1;have tk:ns.take (i+1)=ns.take i++[x]:=by rw [List.take_add_one,ex];rfl
   have l1:=Ce (ns:=ns.take i) fun z hz=>nsm z (List.mem_of_mem_take hz);have l2:(ns.take i).length<=100000:=by rw [List.length_take];omega
   have la:=dh (i:=x.1) qa.1 qa.2;have lb:=dh (i:=x.2.1) qb.1 qb.2;have lc:=dh (i:=x.2.2.1) qc.1 qc.2;have ld:=dh (i:=x.2.2.2) qd.1 qd.2;have lf:(row++cat ((ns.take i).map fun x=>Str.ofString "\n" ++ nT x)).length<=2000100:=by rw [Str.length_append];omega
   have aa8:row++cat ((ns.take i).map fun x=>Str.ofString "\n" ++ nT x)++Str.ofString "\n" ++ num x.1++Str.ofString "." ++ num x.2.1++Str.ofString " " ++ num x.2.2.1++Str.ofString "." ++ num x.2.2.2=row++cat ((ns.take (i+1)).map fun x=>Str.ofString "\n" ++ nT x):=by
    rw [tk,List.map_append,List.map_cons,List.map_nil,za];unfold nT;simp only [Str.append_assoc]
   rw [←aa8];clear aa8;generalize (row++cat ((ns.take i).map fun x=>Str.ofString "\n" ++ nT x))=fd0 at lf ⊢;refine ⟨t,_,rfl,fY.of ht,rfl,_,_,rfl,_,_,rfl,_,_,rfl,_,_,rfl,rfl, ?_⟩;refine ⟨_,rfl,_,_,rfl,rfl,by rw [rH,sizeLine_eq];omega,_,rfl,_,rfl,nR qa.1 qa.2,_,_,rfl,rfl,by rw [Str.length_append,rH,sizeLine_eq];omega,_,_,rfl,rfl,by rw [Str.length_append,Str.length_append,rH,lR,sizeLine_eq];omega,_,rfl,_,rfl,nR qb.1 qb.2,_,_,rfl,rfl,by rw [Str.length_append,Str.length_append,Str.length_append,rH,lR,sizeLine_eq];omega, ?_⟩
   have lg:(fd0++Str.ofString "\n" ++ Str.ofString (toString x.1)++Str.ofString "." ++ Str.ofString (toString x.2.1)).length<=2000200:=by
    simp only [Str.length_append,rH,lR];omega
   have eg:fd0++Str.ofString "\n" ++ num x.1++Str.ofString "." ++ num x.2.1=fd0++Str.ofString "\n" ++ Str.ofString (toString x.1)++Str.ofString "." ++ Str.ofString (toString x.2.1):=rfl;rw [eg];generalize (fd0++Str.ofString "\n" ++ Str.ofString (toString x.1)++Str.ofString "." ++ Str.ofString (toString x.2.1))=gd at lg ⊢;refine ⟨_,rfl,_,_,rfl,rfl,by rw [lB,sizeLine_eq];omega,_,rfl,_,rfl,nR qc.1 qc.2,_,_,rfl,rfl,by rw [Str.length_append,lB,sizeLine_eq];omega,_,_,rfl,rfl,by rw [Str.length_append,Str.length_append,lB,lR,sizeLine_eq];omega,_,rfl,_,rfl,nR qd.1 qd.2,_,_,rfl,rfl,by rw [Str.length_append,Str.length_append,Str.length_append,lB,lR,sizeLine_eq];omega, ?_⟩;exact ⟨rfl,v1,some (.int x.1),some (.int x.2.1),some (.int x.2.2.1),some (.int x.2.2.2),rfl⟩
  rintro σ H2 ⟨rfl,v1,v2,v3,v4,v5,rfl⟩;rw [vl,List.take_length];refine ⟨_,rfl, ?_⟩;rw [YG];exact k
theorem Fo {l:List V} {v:V} (h:l[l.length - 1]? = some v):ug l (-1)=some v:=by
 have hl:=(List.getElem?_eq_some_iff.mp h).1;unfold ug Nr;rw [if_neg (by decide),if_pos (by omega)];show l[_]? = _;rw [←h];congr 1;omega
theorem Rx {vs:List V} {i:Nat} {v:V} (h:vs[i]? = some v):ug vs (0+(i:Int))=some v:=by rw [Int.zero_add];exact aU h
theorem Ra (ws:List bM) (hn:Nat):(List.range hn).filterMap (fun h:Nat=>some (V.int (cnt ws (0+(h:Int)))))=(jk ws hn).map V.int:=by
 have e0:(fun h:Nat=>some (V.int (cnt ws (0+(h:Int)))))=fun h:Nat=>some (V.int (cnt ws (h:Int))):=by
  funext h;rw [Int.zero_add]
 unfold jk;rw [e0,List.map_map,←List.filterMap_eq_map];rfl
theorem Kq {ws:List bM} (wl:ws.length<=300):(iU ws ws.length).length<=90000:=by
 have:=uh ws ws.length;have:ws.length*ws.length<=300*300:=Nat.mul_le_mul wl wl;omega
def Bq (K:PySem.W.Frag):Sp:=fun vs H Q _=>∃(l:Addr) (ws:List bM) (hn:Nat),vs=[.ref l,.int hn]/\dX H l ws/\(∀x∈ws,jF (hn:Int) x)/\1<=hn/\hn<=8/\ws.length<=300 /\
 ∀(t c f:Addr) (ns:List Nt) (H':Hp),H' t=some (.tup [.ref c,.ref f])->H' c=some (.lst ((jk ws hn).map V.int))->gD H' f ns->ns.Perm (iU ws ws.length)->wu ns->Same H H'->Q (.ref t) H'
theorem PX {f:Addr} {fd:FuncData} (F:jW K "_law_shape" "_law_shape" iD f fd) (pZ:FnAt P w K mg base 1 "_law_table" ["touches","hands"] (oZ K)) (Dj:FnAt P w K mg base 1 "_law_flat" ["lists"] (BJ K)) (Bt:oO mg):cj P w K mg base gZ 2 f fd ["touches","hands"] (Bq K):=by
 refine F.ok Ae (fun vs H Q E h=> ?_) (fun cdv A outer s H vs Q E hr h=> ?_)
 ·obtain ⟨l,ws,hn,rfl,_⟩:=h
  rfl
 ·obtain ⟨w,ws,hn,rfl,W,Dy,h1,h8,wl,k⟩:=h
  refine ⟨_,(aD (DY (i:=2) rfl Ae.nd rfl (Or.inl rfl) (xc:= "hand") (N:=["hand","touches"]) (own:=["hand"]) (caps:=[0]) (bR.of (by kernel_rfl)) (d7 (by rfl) Bt.fP (ao (pv 1) aA)) (fun _ _ _ _=>(aX (i:=0) (show List.Nodup (["hand","touches"]:List Str) by decide +kernel) rfl (Or.inr rfl) (Or.inl yV))) (fun _ _ _ _=>eE) (fun _ _ _ _=>(aQ (aP (K:=K) rfl) (by rfl) Bt.dW cB (ao (eV rfl (N:=["one","hand"]) (own:=["one"]) (caps:=[0]) (bh.of (by kernel_rfl)) (cJ (K:=K) rfl (pv 1)) (fun _ _ _ _=>(aX (i:=0) (show List.Nodup (["one","hand"]:List Str) by decide +kernel) rfl (Or.inl rfl))) (fun _ _ _ _=>(tE (bB jV (aN (bL (K:=K) rfl) (pv 0) aG (fun _ _=>rfl)) (pv 1) (bx _)))) (fun _ _ _ _=>(pv 0))) aA))))
   (aH (bf (jN (ao (pv 2) (ao (bD Dj (hr.mono (by decide)) (by rfl) (ao (aN (bL (K:=K) rfl) (bD pZ (hr.mono (by decide)) (by rfl) (ao (pv 0) (ao (pv 1) aA))) aG (fun _ _=>rfl)) aA)) aA)))))), ?_⟩
  obtain ⟨v8,Uz,Nv⟩:=id W;have vl8:v8.length=ws.length:=by rw [Nv.length,List.length_map]
  refine ⟨_,rfl,hn,rfl,by omega,by omega,fun D hD=> ?_⟩;refine jj (fun (h:Nat)=>some (V.int (cnt ws (0+(h:Int))))) hD (by omega) (fun h H9 G F hh s9 kG kF=> ?_) (fun H9 s9 e9=> ?_)
  ·refine ⟨_,rfl,w,rfl,⟨_,aV.of (s9 _ _ Uz)⟩,fun D2 hD2=> ?_⟩
   refine jD (K:=K) (fun i=>(ws[i]?).bind fun x=>if decide (x.1=0+(h:Int)) then v8[i]? else none) hD2 (aV.of (s9 _ _ Uz)) (by omega) (fun i v qW G F hi uq kG kF=> ?_) (fun qW uq e10=> ?_)
   ·obtain ⟨dd,ed,dy⟩:=Nv.get hi
    rw [List.getElem?_map] at ed;cases ex:ws[i]? with
    | none=>rw [ex] at ed;cases ed
    | some x=>
      rw [ex] at ed;cases ed;obtain ⟨t,rfl,ht⟩:=jB dy;refine ⟨_,rfl,_,_,_,_,rfl,rfl,fY.of (uq _ _ (s9 _ _ ht)),rfl,_,rfl,rfl,_,rfl, ?_⟩
      by_cases c:x.1=0+(h:Int)
      ·rw [decide_eq_true (show V.int x.1=V.int (0+(h:Int)) by rw [c])]
       refine iY ?_;exact ⟨_,rfl,kF _ qW (Same.refl _) (by rw [ex];simp [c,hi])⟩
      ·rw [decide_eq_false (show ¬V.int x.1=V.int (0+(h:Int)) from fun q=>c (by injection q))]
       refine dJ ?_;exact kG qW (Same.refl _) (by rw [ex,Option.bind_some,decide_eq_false c];rfl)
   have dD:=tZ (H:=qW) (fun x=>decide (x.1=0+(h:Int))) (aM.keep (s9.trans uq).tups _ (bJ _ ji _) Nv);have lD:=dD.length;rw [List.length_map] at lD;refine ⟨D2,_,rfl,.inl (aV.of e10), ?_⟩;rw [lD];exact kF _ qW uq rfl
  rw [Int.toNat_natCast,Ra] at e9;refine ⟨_,rfl,_,rfl,_,rfl,w,hn,ws,rfl,W.same s9,Dy,by omega,by omega,wl,fun p t1 t2 H2 hp L1 L2 n1 n2 s2=> ?_⟩;refine ⟨_,_,_,_,rfl,rfl,fY.of hp,rfl,t2,ws.length,_,rfl,Wc L2,wl,by show (iU ws ws.length).length<=100000;have:=Kq wl;omega,fun f ns H4 hf N4 p4 sr4 s4=> ?_⟩;have s24:=s2.trans s4;refine ⟨(by show 2<=sizeLine;decide),fun t ht=> ?_⟩;have s5:=aF (o:=HO.tup [V.ref D,V.ref f]) ht;exact k t D f ns _ aq ((s24.trans s5) _ _ e9) (N4.same s5) p4 sr4 ((s9.trans s24).trans s5)
def Wx (C:Addr) (K:PySem.W.Frag):Sp:=fun vs H Q _=>∃(R:Rc) (l:Addr) (ws:List bM) (hn:Nat),vs=[.ref R.o,.ref l,.int hn]/\RcAt C H R ws hn/\dX H l ws/\(∀x∈ws,jF (hn:Int) x)/\1<=hn/\hn<=8/\ws.length<=300 /\ ∀H',Same H H'->Q (.bl true) H'
theorem Xa {ws:List bM} {h:Int} (ne:lK ws h≠[]):∃j,(lK ws h).getLast?=some j/\j<ws.length/\ug ((lK ws h).map fun i:Nat=>V.int (i:Int)) (-1)=some (.int (j:Int)):=by
 have e:(lK ws h).getLast?=some ((lK ws h).getLast ne):=List.getLast?_eq_some_getLast ne;generalize (lK ws h).getLast ne=j at e;have jm:j∈lK ws h:=List.mem_of_getLast? e;refine ⟨j,e,List.mem_range.mp (List.mem_filter.mp jm).1, ?_⟩;have l:0<(lK ws h).length:=List.length_pos_iff.mpr ne
 have hx:((lK ws h).map fun i:Nat=>V.int (i:Int))[(lK ws h).length - 1]? = some (.int (j:Int)):=by
  rw [List.getElem?_map];rw [List.getLast?_eq_getElem?] at e;rw [e];rfl
 refine Fo ?_;rw [List.length_map];exact hx
theorem W_ (ws:List bM) (h:Int):(List.range ws.length).filterMap (fun i=>if hnd ws i=h then some (V.int (0+(i:Int))) else none)=(lK ws h).map fun i:Nat=>V.int (i:Int):=by
 unfold lK
 induction List.range ws.length with
 | nil=>rfl
 | cons x l ih=>
   rw [List.filterMap_cons,List.filter_cons]
   by_cases e:hnd ws x=h
   ·simp only [e,if_true,decide_true,List.map_cons,ih]
    rw [Int.zero_add]
   ·simp only [e,if_false,decide_false,ih]
    rfl
theorem aan {ak:Addr} {f:Addr} {fd:FuncData} (F:jW K "_law_so" "_law_so" tu f fd) (au:bN K ak) (pZ:FnAt P w K mg base 1 "_law_table" ["touches","hands"] (oZ K)) (Dj:FnAt P w K mg base 1 "_law_flat" ["lists"] (BJ K)) (lJ:FnAt P w K mg base 6 "_law_alike" ["found","due"] (iy 5 K)) (cM:MethAt P w K mg base 1 ak "notes" ["self"] (mJ ak K)) (cu:MethAt P w K mg base 1 ak "counts" ["self"] (mK ak K)) (vA:MethAt P w K mg base 4 ak "known" ["self","hand"] (xQ ak K)) (rY:MethAt P w K mg base 1 ak "__len__" ["self"] (G8 ak K)) (gW:MethAt P w K mg base 4 ak "__str__" ["self"] (Br ak K)) (Vv:FnAt P w K mg base 1 "_law_text" ["ties","counts"] (xO K)) (Bt:oO mg):cj P w K mg base gZ 7 f fd ["recorder","touches","hands"] (Wx ak K):=by
 refine F.ok o9 (fun vs H Q E h=> ?_) (fun cdv A outer s H vs Q E hr h=> ?_)
 ·obtain ⟨R,l,ws,hn,rfl,_⟩:=h
  rfl
 ·obtain ⟨R,w,ws,hn,rfl,r,W,Dy,h1,h8,wl,k⟩:=h
  have g8:=hr.units
  refine ⟨_,(aD (bw (i:=3) o9.nd rfl (Or.inl rfl) (bD pZ (hr.mono (by decide)) (by rfl) (ao (pv 1) (ao (pv 2) aA))))
   (aD (bw (i:=4) o9.nd rfl (Or.inl rfl) (bD Dj (hr.mono (by decide)) (by rfl) (ao (aN (bL (K:=K) rfl) (pv 3) aG (fun _ _=>rfl)) aA)))
   (aD (DY (i:=5) rfl o9.nd rfl (Or.inl rfl) (xc:= "hand") (N:=["hand","touches"]) (own:=["hand"]) (caps:=[1]) (bR.of (by kernel_rfl)) (d7 (by rfl) Bt.fP (ao (pv 2) aA)) (fun _ _ _ _=>(aX (i:=0) (show List.Nodup (["hand","touches"]:List Str) by decide +kernel) rfl (Or.inr rfl) (Or.inl yV))) (fun _ _ _ _=>eE) (fun _ _ _ _=>(aQ (aP (K:=K) rfl) (by rfl) Bt.dW cB (ao (eV rfl (N:=["one","hand"]) (own:=["one"]) (caps:=[0]) (bh.of (by kernel_rfl)) (cJ (K:=K) rfl (pv 1)) (fun _ _ _ _=>(aX (i:=0) (show List.Nodup (["one","hand"]:List Str) by decide +kernel) rfl (Or.inl rfl))) (fun _ _ _ _=>(tE (bB jV (aN (bL (K:=K) rfl) (pv 0) aG (fun _ _=>rfl)) (pv 1) (bx _)))) (fun _ _ _ _=>(pv 0))) aA))))
   (aD (cW (PW.pt (jU (fZ (fB (bD lJ (hr.mono (by decide)) (by rfl) (ao (d8 cM au.cls (hr.mono (by decide)) (pv 0)) (ao (pv 4) aA))))) (jg (fZ (fB (bD lJ (hr.mono (by decide)) (by rfl) (ao (d8 cu au.cls (hr.mono (by decide)) (pv 0)) (ao (pv 5) aA)))))))) (aH (bf fj)) bF)
   (aD (cW (PW.pt (jU (bB k_ (aQ (M4 rY (hr.mono (by decide))) (by rfl) Bt.dW cB (ao (pv 0) aA)) (aQ (aP (K:=K) rfl) (by rfl) Bt.dW cB (ao (pv 4) aA)) (bx _)) (jg (bB k_ (bW (Ax gW (hr.mono (by decide))) (by rfl) Bt.qT mF (ao (pv 0) aA)) (bD Vv (hr.mono (by decide)) (by rfl) (ao (pv 4) (ao (pv 5) aA))) (bx _))))) (aH (bf fj)) bF)
   (aD (gK PassesOwn.never rfl (d7 (by rfl) Bt.fP (ao (pv 2) aA)) (aX (i:=6) o9.nd rfl (Or.inr rfl))
   (aD (wK (i:=7) rfl o9.nd rfl (Or.inl rfl) (N:=["at","hand","touches"]) (own:=["at"]) (caps:=[6,1]) (bh.of (by kernel_rfl)) (d7 (by rfl) Bt.fP (ao (aQ (aP (K:=K) rfl) (by rfl) Bt.dW cB (ao (pv 1) aA)) aA)) (fun _ _ _ _=>(aX (i:=0) (show List.Nodup (["at","hand","touches"]:List Str) by decide +kernel) rfl (Or.inl rfl))) (fun _ _ _ _=>(tE (bB jV (aN (bL (K:=K) rfl) (aN (aJ (K:=K) rfl) (pv 2) (pv 0) (fun _ _=>rfl)) aG (fun _ _=>rfl)) (pv 1) (bx _)))) (fun _ _ _ _=>(pv 0)))
   (aD (bw (i:=8) o9.nd rfl (Or.inl rfl) (bC Hy (bV (ao aG aA)) (pv 2)))
   (aD (cW (bB (TY (K:=K) rfl g8) (pv 7) (bV aA) (bx _)) (aH (bw (i:=8) o9.nd rfl (Or.inl rfl) (aN (aJ (K:=K) rfl) (aN (bL (K:=K) rfl) (pv 3) aG (fun _ _=>rfl)) (aN (aJ (K:=K) rfl) (pv 7) (yj qY aG) (fun _ _=>rfl)) (fun _ _=>rfl)))) bF)
   (aH (cW (fZ (fB (bD lJ (hr.mono (by decide)) (by rfl) (ao (tO vA au.cls (hr.mono (by decide)) (pv 0) (ao (pv 6) aA)) (ao (pv 8) aA))))) (aH (bf fj)) bF))))))
   (aH (bf fj)))))))), ?_⟩
  have a9:=Kq wl;refine ⟨_,rfl,_,rfl,w,hn,ws,rfl,W,Dy,by omega,by omega,wl,fun p t1 t2 H2 hp L1 L2 n1 n2 s2=> ?_⟩;refine ⟨_,rfl,_,_,_,_,rfl,rfl,fY.of hp,rfl,t2,ws.length,_,rfl,Wc L2,wl,by show (iU ws ws.length).length<=100000;omega,fun f ns H4 hf N4 p4 sr4 s4=> ?_⟩;have S4:=s2.trans s4;have Dq:=s4 _ _ hp;have L14:=L1.same (fW _ _) s4;have p4:ns.Perm (iU ws ws.length):=p4;have nsl:ns.length<=90000:=by rw [p4.length_eq];exact a9
  clear L1 L2 s2 s4 hp;obtain ⟨v8,Uz,Nv⟩:=id (W.same S4);have vl8:v8.length=ws.length:=by rw [Nv.length,List.length_map]
  refine ⟨_,rfl,hn,rfl,by omega,by omega,fun D hD=> ?_⟩;refine jj (fun (h:Nat)=>some (V.int (cnt ws (0+(h:Int))))) hD (by omega) (fun h H9 G F hh s9 kG kF=> ?_) (fun H9 s9 e9=> ?_)
  ·refine ⟨_,rfl,w,rfl,⟨_,aV.of (s9 _ _ Uz)⟩,fun D2 hD2=> ?_⟩
   refine jD (K:=K) (fun i=>(ws[i]?).bind fun x=>if decide (x.1=0+(h:Int)) then v8[i]? else none) hD2 (aV.of (s9 _ _ Uz)) (by omega) (fun i v qW G F hi uq kG kF=> ?_) (fun qW uq e10=> ?_)
   ·obtain ⟨dd,ed,dy⟩:=Nv.get hi
    rw [List.getElem?_map] at ed;cases ex:ws[i]? with
    | none=>rw [ex] at ed;cases ed
    | some x=>
      rw [ex] at ed;cases ed;obtain ⟨t,rfl,ht⟩:=jB dy;refine ⟨_,rfl,_,_,_,_,rfl,rfl,fY.of (uq _ _ (s9 _ _ ht)),rfl,_,rfl,rfl,_,rfl, ?_⟩
      by_cases c:x.1=0+(h:Int)
      ·rw [decide_eq_true (show V.int x.1=V.int (0+(h:Int)) by rw [c])]
       refine iY ?_;exact ⟨_,rfl,kF _ qW (Same.refl _) (by rw [ex];simp [c,hi])⟩
      ·rw [decide_eq_false (show ¬V.int x.1=V.int (0+(h:Int)) from fun q=>c (by injection q))]
       refine dJ ?_;exact kG qW (Same.refl _) (by rw [ex,Option.bind_some,decide_eq_false c];rfl)
   have dD:=tZ (H:=qW) (fun x=>decide (x.1=0+(h:Int))) (aM.keep (s9.trans uq).tups _ (bJ _ ji _) Nv);have lD:=dD.length;rw [List.length_map] at lD;refine ⟨D2,_,rfl,.inl (aV.of e10), ?_⟩;rw [lD];exact kF _ qW uq rfl
  rw [Int.toNat_natCast,Ra] at e9;have S9:=S4.trans s9;have cl:=mZ ws hn;have r9:=r.same S9;have N9:=N4.same s9;have hp9:=s9 _ _ Dq;have L19:=L14.same (fW _ _) s9;clear Uz Nv N4 Dq L14 s9 S4 vl8;refine ⟨_,rfl,R.o,R.dx,_,rfl,r9.o,rfl,R,ws,hn,rfl,r9,fun q1 Xu qW hq1 N1 p1 sr1 uq=> ?_⟩;have e1:Xu=ns:=kI (p1.trans p4.symm) sr1 sr4;subst e1;obtain ⟨va,ha,da⟩:=id N1;obtain ⟨vb,hb,db⟩:=id (N9.same uq);refine ⟨_,rfl,_,_,_,rfl,jC ha da,jC hb db,Bg.up (Bg.up (aaj Xu (by omega))),fun Zy WR=>⟨_,rfl,dJ ?_⟩⟩;have S11:=S9.trans (uq.trans WR);have Z4:=uq.trans WR;have r11:=r.same S11;refine ⟨_,rfl,R.o,R.dx,_,rfl,r11.o,rfl,R,ws,hn,rfl,r11,h8,fun c1 Kv hc1 e12 s12=> ?_⟩;have YS:Kv c1=some (.lst ((jk ws hn).map V.int)):=e12;refine ⟨_,rfl,_,_,_,rfl,iQ YS,iQ ((Z4.trans s12) _ _ e9),Bg.up (Bg.up (Bg.up (JK (by omega)))),fun H13 s13=>⟨_,rfl,dJ ?_⟩⟩;have WL:=Z4.trans (s12.trans s13);have S13:=S9.trans WL;have r13:=r.same S13;obtain ⟨vsf,aip,aiL⟩:=id (N9.same WL);have vfl:vsf.length=Xu.length:=by rw [aiL.length,List.length_map]
  refine ⟨_,rfl,R.o,R.dx,_,rfl,r13.o,⟨R,ws,hn,rfl,r13,_,rfl,by omega,by omega, ?_⟩⟩;refine ⟨_,rfl,f,_,rfl,.inl (aV.of aip),rfl,_,rfl, ?_⟩;rw [vfl,←p4.length_eq,show (!decide (V.int (Xu.length:Int)=V.int (Xu.length:Int)))=false by simp];refine dJ ?_;have rok:∀ns:List Nt,ns.Perm (iU ws ws.length)->rW (jk ws hn) ns:=fun ns pm=>O4 Dy h8 wl pm;refine ⟨_,rfl,R.o,R.dx,_,rfl,r13.o,⟨R,ws,hn,rfl,r13,h8,rok,fun ns2 H14 p2 sr2 Ox=>⟨_,rfl, ?_⟩⟩⟩;have e2:ns2=Xu:=kI (p2.trans p4.symm) sr2 sr4;subst e2;have Ow:=WL.trans Ox;refine ⟨_,rfl,_,rfl,f,D,jk ws hn,ns2,rfl,N9.same Ow,Ow _ _ e9,rok ns2 p4,rfl,_,rfl, ?_⟩;refine pP rfl ?_;refine ⟨_,rfl,(hn:Int),rfl,by omega,by omega, ?_⟩;rw [Int.toNat_natCast];have S14:=S9.trans Ow;have aii:=Ow _ _ hp9;have ak7:=L19.same (fW _ _) Ow;refine mW (lo:=0) (n:=hn) (fun i σ Hc=>∃(x1 x2 x3:Option V),σ=[some (.ref R.o),some (.ref w),some (.int hn),some (.ref p),some (.ref f),some (.ref D),x1,x2,x3]/\Same H14 Hc) ⟨none,none,none,rfl,Same.refl _⟩ ?_ ?_
  ·rintro h σ Hc hh ⟨x1,x2,x3,rfl,sc⟩
   have Sc:=S14.trans sc;obtain ⟨wv,hw,dw⟩:=id (W.same Sc);have vB:wv.length=ws.length:=by rw [dw.length,List.length_map]
   refine ⟨_,rfl,w,_,rfl,.inl (aV.of hw),_,rfl,by omega,by omega,fun Dp hDp=> ?_⟩;rw [show ((wv.length:Nat):Int).toNat=ws.length by omega];refine jj (fun (i:Nat)=>if hnd ws i=(h:Int) then some (V.int (0+(i:Int))) else none) hDp (by omega) (fun j H1 G F hj s1 kG kF=> ?_) (fun H1 s1 e1=> ?_)
   ·obtain ⟨x,ex⟩:∃x,ws[j]? = some x:=⟨ws[j],by simp [hj]⟩
    obtain ⟨wv',q,hw',eq,hq⟩:=qg ((W.same Sc).same s1) ex;refine ⟨_,rfl,_,rfl,_,_,_,_,rfl,rfl,aV.of hw',Rx eq,_,_,_,_,rfl,rfl,fY.of hq,rfl,_,rfl,rfl,_,rfl, ?_⟩;have hh':hnd ws j=x.1:=rM ex
    by_cases e:x.1=0+(h:Int)
    ·refine nW (fun _=>⟨_,rfl,kF _ H1 (Same.refl _) (if_pos (by rw [hh',e];omega))⟩) (fun z=>absurd (decide_eq_true (by rw [e])) z)
    ·refine nW (fun z=>absurd (of_decide_eq_true z) (fun w'=>e (by injection w'))) (fun _=>kG H1 (Same.refl _) (if_neg fun z=>e (by rw [←hh',z];omega)))
   rw [W_] at e1;refine ⟨(by show 1<=sizeLine;decide),fun q hq=>⟨_,rfl,q,_,_,rfl,rfl,aq,by omega,by omega,by rw [sizeLine_eq];simp;omega,fun rr hr0=> ?_⟩⟩;rw [WW,Int.toNat_natCast];have sq:=aF (o:=HO.lst [V.int 0]) hq;have sr:=aF (o:=HO.lst ((List.replicate hn (0:Int)).map V.int)) hr0;have s3:=sq.trans sr;have er:(upd (upd H1 q (HO.lst [V.int 0])) rr (HO.lst ((List.replicate hn (0:Int)).map V.int))) rr=some (.lst ((List.replicate hn (0:Int)).map V.int)):=aq;have e3:=s3 _ _ e1;generalize (upd (upd H1 q (HO.lst [V.int 0])) rr (HO.lst ((List.replicate hn (0:Int)).map V.int)))=H3 at s3 er e3 ⊢;have S3:=Sc.trans (s1.trans s3);dsimp only;refine qm (fun σ H4=>∃(d:Addr),σ=[some (.ref R.o),some (.ref w),some (.int hn),some (.ref p),some (.ref f),some (.ref D),some (.int (0+(h:Int))),some (.ref Dp),some (.ref d)]/\Same H3 H4/\Zb ws hn ws.length H4 h d) (fun D' hD' _=> ?_) ?_
   ·have pin:(lK ws (h:Int)).map (fun i:Nat=>V.int (i:Int))=((lK ws (h:Int)).map fun i:Nat=>(i:Int)).map V.int:=by rw [List.map_map];rfl
    refine ⟨_,rfl,(by show 0<=sizeLine;decide),fun q5 J9=> ?_⟩;have s5:=aF (o:=HO.lst []) J9;refine ⟨_,_,iQ (ns:=(lK ws (h:Int)).map fun i:Nat=>(i:Int)) (by rw [←pin];exact s5 _ _ e3),iQ (ns:=[]) aq,shaped_ints _,shaped_ints _,_,rfl, ?_⟩;rw [if_pos rfl,pW PyData.int CK]
    by_cases ne:lK ws (h:Int)=[]
    ·rw [ne]
     refine pP rfl ?_;exact hD' _ _ ⟨rr,rfl,s5,_,s5 _ _ er,by simp,.inl ⟨by rw [List.take_length];exact ne,rfl⟩⟩
    ·refine nW (fun _=> ?_) (fun z=>absurd (by simpa using ne) z)
     obtain ⟨j,ej,jl,aj⟩:=Xa ne;obtain ⟨rs1,ht1,rl1,rq1⟩:=ak7.same (fW _ _) (sc.trans ((s1.trans s3).trans s5));obtain ⟨r1,er1⟩:∃r1,rs1[j]? = some r1:=⟨_,List.getElem?_eq_getElem (by omega)⟩;obtain ⟨_,a1,ha1,rh1⟩:=rq1 j r1 er1;refine ⟨_,rfl,_,_,_,_,rfl,rfl,fY.of ((sc.trans ((s1.trans s3).trans s5)) _ _ aii),rfl,_,rfl,_,rfl,_,_,_,_,rfl,rfl,aV.of (s5 _ _ e3),aj,_,_,_,_,rfl,rfl,aV.of ht1,aU (by rw [List.getElem?_map,er1];rfl), ?_⟩;exact hD' _ _ ⟨r1,rfl,s5,a1,ha1,rh1.1,.inr ⟨j,by rw [List.take_length];exact ej,rh1⟩⟩
   rintro σ H4 ⟨d,rfl,s4,DC⟩;have S4:=S3.trans s4;have rc:=r.same S4;refine ⟨_,rfl,R.o,R.dx,_,rfl,rc.o,rfl,_,rfl,R,ws,hn,0+(h:Int),rfl,rc,by omega,by omega,h8,fun kr g H5 hkr ek kl s5=> ?_⟩;rw [Int.zero_add] at kl;have DC5:=(Ma ws hn ws.length H4 H5 h d DC).2 s5.tups (fun o e=>s5 _ _ e);have er5:=Mt DC5 (by rw [List.take_length];exact kl);have em:(List.range hn).map (fun i:Nat=>V.int (g (i:Int)))=((List.range hn).map fun i:Nat=>g (i:Int)).map V.int:=by rw [List.map_map];rfl
   rw [em] at er5 ek;refine ⟨_,rfl,_,_,_,rfl,iQ ek,iQ er5,Bg.up (Bg.up (Bg.up (JK (by simp;omega)))),fun H6 s6=>⟨_,rfl,dJ ?_⟩⟩;exact ⟨_,_,_,rfl,((sc.trans (s1.trans s3)).trans s4).trans (s5.trans s6)⟩
  ·rintro σ Hc ⟨x1,x2,x3,rfl,sc⟩
   exact k Hc (S14.trans sc)
theorem Qu (K:PySem.W.Frag) (C:Addr):PySem.W.kitOne K (.ref C) (.ref C)=some true:=by simp [PySem.W.kitOne]
def Vy (ws:List bM) (hn:Nat) (ws':List bM) (hn':Nat):Prop:=jk ws hn=jk ws' hn'/\(iU ws ws.length).Perm (iU ws' ws'.length)
def Ad (C:Addr) (K:PySem.W.Frag):Sp:=fun vs H Q _=>(∃(R R':Rc) (ws ws':List bM) (hn hn':Nat),vs=[.ref R.o,.ref R'.o]/\RcAt C H R ws hn/\RcAt C H R' ws' hn'/\hn<=8/\hn'<=8 /\
 ∀(b:Bool) H',(b=true↔Vy ws hn ws' hn')->Same H H'->Q (.bl b) H') \/ ∃(R:Rc) (y:V) (tb:Value),vs=[.ref R.o,y]/\oK K H y tb/\PySem.W.kitOne K tb (.ref C)=some false/\Q (.bl false) H
theorem Xo {ak:Addr} {f:Addr} {fd:FuncData} (F:jW K "__eq__" "Recorder.__eq__" bU f fd) (au:bN K ak) (n_:Zx K mg ak "Recorder") (cu:MethAt P w K mg base 1 ak "counts" ["self"] (mK ak K)) (cM:MethAt P w K mg base 1 ak "notes" ["self"] (mJ ak K)) (Bt:oO mg):cj P w K mg base gZ 2 f fd ["self","other"] (Ad ak K):=by
 refine F.ok rA (fun vs H Q E h=> ?_) (fun cdv A outer s H vs Q E hr h=> ?_)
 ·rcases h with ⟨R,R',ws,ws',hn,hn',rfl,_⟩|⟨R,y,tb,rfl,_⟩<;>rfl
 ·have g8:=hr.units
  refine ⟨_,(aD (cW (fZ (fB (aQ (fX (K:=K) (cv:= .ref ak) (c:= .ref ak) rfl rfl) (by rfl) Bt.cT cC (ao (pv 1) (ao (tQ (v:= .ref ak) (by rfl) n_.bd rfl) aA))))) (aH (bf fj)) bF)
   (aH (bf (rC (eX (B_ (K:=K) rfl g8) (d8 cu au.cls (hr.mono (by decide)) (pv 0)) (d8 cu au.cls (hr.mono (by decide)) (pv 1)) (bx _)) (pC (eX (B_ (K:=K) rfl g8) (d8 cM au.cls (hr.mono (by decide)) (pv 0)) (d8 cM au.cls (hr.mono (by decide)) (pv 1)) (bx _))))))), ?_⟩
  rcases h with ⟨R,R',ws,ws',hn,hn',rfl,r,r',h8,h8',k⟩|⟨R,y,tb,rfl,ty,ko,q⟩
  rotate_left
  ·exact ⟨_,rfl,_,_,false,rfl,ty,ko,_,rfl,iY q⟩
  refine ⟨_,rfl,_,_,true,rfl,n_.ty r'.o au.cls,Qu K _,_,rfl,dJ ?_⟩;unfold Ju;dsimp only;refine ⟨_,rfl,R.o,R.dx,_,rfl,r.o,rfl,R,ws,hn,rfl,r,h8,fun c1 H1 hc1 e1 s1=> ?_⟩;refine ⟨_,rfl,R'.o,R'.dx,_,rfl,(r'.same s1).o,rfl,R',ws',hn',rfl,r'.same s1,h8',fun c2 H2 hc2 e2 s2=> ?_⟩;refine ⟨_,_,iQ (s2 _ _ e1),iQ e2,shaped_ints _,shaped_ints _, ?_⟩;rw [if_neg Bool.false_ne_true,pW PyData.int CK];have s12:=s1.trans s2
  by_cases q:jk ws hn=jk ws' hn'
  ·rw [decide_eq_true (show ((List.range hn).map fun h:Nat=>cnt ws (h:Int))=((List.range hn').map fun h:Nat=>cnt ws' (h:Int)) from q)]
   refine ⟨_,rfl,iY ?_⟩;have r2:=r.same s12;refine ⟨_,rfl,R.o,R.dx,_,rfl,r2.o,rfl,R,ws,hn,rfl,r2,fun l1 ns H3 hl1 N1 p1 sr1 s3=> ?_⟩;have r3:=r'.same (s12.trans s3);refine ⟨_,rfl,R'.o,R'.dx,_,rfl,r3.o,rfl,R',ws',hn',rfl,r3,fun l2 ns' H4 hl2 N2 p2 sr2 s4=> ?_⟩;obtain ⟨v1,f1,d1⟩:=N1.same s4;obtain ⟨v2,f2,d2⟩:=N2;refine ⟨_,_,jC f1 d1,jC f2 d2,q_ _,q_ _, ?_⟩;rw [if_neg Bool.false_ne_true,pW nD QZ];refine k _ H4 ?_ ((s12.trans s3).trans s4);rw [decide_eq_true_iff];refine ⟨fun e=>⟨q, ?_⟩,fun z=>kI (p1.trans (z.2.trans p2.symm)) sr1 sr2⟩;rw [←e] at p2;exact p1.symm.trans p2
  ·rw [decide_eq_false (show ¬((List.range hn).map fun h:Nat=>cnt ws (h:Int))=((List.range hn').map fun h:Nat=>cnt ws' (h:Int)) from q)]
   refine ⟨_,rfl,dJ ?_⟩;exact k _ H2 ⟨fun z=>(by cases z),fun z=>absurd z.1 q⟩ s12
def KR (K:PySem.W.Frag):Sp:=fun _ _ _ _=>False
theorem Lk {f:Addr} {fd:FuncData} (F:jW K "cell_of" "cell_of" gG f fd):cj P w K mg base gZ 1 f fd ["row"] (KR K):=by
 exact F.ok Hq (fun vs H Q E h=>h.elim) (fun cdv A outer s H vs Q E hr h=>h.elim)
theorem Ue {f:Addr} {fd:FuncData} (F:jW K "do" "Hand.do" gH f fd):cj P w K mg base gZ 1 f fd ["self","row"] (KR K):=by
 exact F.ok Hr (fun vs H Q E h=>h.elim) (fun cdv A outer s H vs Q E hr h=>h.elim)
def hF (r:Addr) (b sy:Addr):List (Str×V):=[("rows",.ref r),("at",.int 0),("in_boxes",.ref b),("sayings",.ref sy),("state",.str "waits")]
def Bx (CH:Addr) (K:PySem.W.Frag):Sp:=fun vs H Q _=>∃(a r dx:Addr),vs=[.ref a,.ref r]/\H a=some (.ins CH dx []) /\ ∀(b sy:Addr) (H':Hp),H' a=some (.ins CH dx (hF r b sy))->Kp a H H'->Q .non H'
theorem Qe {bH:Addr} {f:Addr} {fd:FuncData} (F:jW K "__init__" "Hand.__init__" eU f fd) (cX:wW K bH) (wV:Gv mg "BOXES" (.str "abcdefgh")):cj P w K mg base gZ 1 f fd ["self","rows"] (Bx bH K):=by
 refine F.ok BR (fun vs H Q E h=> ?_) (fun cdv A outer s H vs Q E hr h=> ?_)
 ·obtain ⟨a,r,dx,rfl,_⟩:=h
  rfl
 ·obtain ⟨a,r,dx,rfl,ha,k⟩:=h
  refine ⟨_,(aD (dF (K:=K) rfl (pv 0) (pv 1) rfl)
   (aD (dF (K:=K) rfl (pv 0) aG rfl)
   (aD (dF (K:=K) rfl (pv 0) (eV rfl (N:=["box"]) (own:=["box"]) (caps:=[]) (bh.of (by kernel_rfl)) (Xc (tQ (by rfl) wV.choose_spec.1 wV.choose_spec.2)) (fun _ _ _ _=>(aX (i:=0) (show List.Nodup (["box"]:List Str) by decide +kernel) rfl (Or.inl rfl))) (fun _ _ _ _=>eE) (fun _ _ _ _=>aG)) rfl)
   (aD (dF (K:=K) rfl (pv 0) (bV aA) rfl)
   (aH (dF (K:=K) rfl (pv 0) cN rfl)))))), ?_⟩
  refine ⟨_,rfl,_,rfl,a,bH,dx,[],rfl,ha,cX.cls,cX.Ig,by decide, ?_⟩;refine ⟨_,rfl,a,bH,dx,_,rfl,aq,cX.cls,cX.XR,(by show 1<1000;decide), ?_⟩;refine ⟨_,rfl,fun D hD=> ?_⟩;refine MJ (fun _=>some (.int 0)) hD (by decide) (fun i c H1 G F hi s1 kG kF=>kF _ H1 (Same.refl _) rfl) (fun H1 s1 e1=> ?_);clear e1;refine ⟨_,rfl,a,bH,dx,_,rfl,s1 _ _ aq,cX.cls,cX.Ih,(by show 2<1000;decide), ?_⟩;refine ⟨(by show 0<=sizeLine;decide),fun q hq=> ?_⟩;have naq:a≠q:=aB aq hq;refine ⟨_,rfl,a,bH,dx,_,rfl,(by rw [aO naq];exact aq),cX.cls,cX.Ly,(by show 3<1000;decide), ?_⟩;refine ⟨_,rfl,a,bH,dx,_,rfl,aq,cX.cls,cX.JR,(by show 4<1000;decide), ?_⟩;refine k D q _ aq ?_;intro x u e n;have e1x:H1 x=some u:=s1 _ _ (by rw [aO n,aO n];exact e);have nq:x≠q:=aB (by rw [aO n];exact e1x) hq;rw [aO n,aO n,aO nq,aO n];exact e1x
def G9 (CH:Addr) (K:PySem.W.Frag):Sp:=fun vs H Q _=>∃(a r b sy dx:Addr),vs=[.ref a]/\H a=some (.ins CH dx (hF r b sy))/\H r=some (.lst []) /\ ∀H',Kp a H H'->Q .non H'
theorem Ub {bH:Addr} {f:Addr} {fd:FuncData} (F:jW K "lead_on" "Hand.lead_on" cR f fd) (Nk:FnAt P w K mg base 1 "cell_of" ["row"] (KR K)) (Nh:MethAt P w K mg base 1 bH "do" ["self","row"] (KR K)) (cX:wW K bH) (gq:Gv mg "MOST_UNTOUCHING" (.int 60)) (Bt:oO mg):cj P w K mg base gZ 2 f fd ["self"] (G9 bH K):=by
 refine F.ok jM (fun vs H Q E h=> ?_) (fun cdv A outer s H vs Q E hr h=> ?_)
 ·obtain ⟨a,r,b,sy,dx,rfl,_⟩:=h
  rfl
 ·obtain ⟨a,r,b,sy,dx,rfl,ha,hr0,k⟩:=h
  refine ⟨_,(aD (bw (i:=1) jM.nd rfl (Or.inl rfl) aG)
   (aD (Pb PassesOwn.never (PW.pt (BX (bB vI (bI (K:=K) rfl (pv 0) rfl) (aQ (aP (K:=K) rfl) (by rfl) Bt.dW cB (ao (bI (K:=K) rfl (pv 0) rfl) aA)) (bx _)) (wJ (bB Pz (bD Nk (hr.mono (by decide)) (by rfl) (ao (aN (aJ (K:=K) rfl) (bI (K:=K) rfl (pv 0) rfl) (bI (K:=K) rfl (pv 0) rfl) (fun _ _=>rfl)) aA)) Hw (bx _))))) (aD (cW (bB jV (pv 1) (tQ (by rfl) gq.choose_spec.1 gq.choose_spec.2) (bx _)) (aD (dF (K:=K) rfl (pv 0) cN rfl)
   (aH Tj)) bF)
   (aD (cg (tO Nh cX.cls (hr.mono (by decide)) (pv 0) (ao (aN (aJ (K:=K) rfl) (bI (K:=K) rfl (pv 0) rfl) (bI (K:=K) rfl (pv 0) rfl) (fun _ _=>rfl)) aA)))
   (aH (W9 (i:=1) jM.nd rfl (Or.inl rfl) aG Yn)))))
   (aH (dF (K:=K) rfl (pv 0) (Ed (bB vI (bI (K:=K) rfl (pv 0) rfl) (aQ (aP (K:=K) rfl) (by rfl) Bt.dW cB (ao (bI (K:=K) rfl (pv 0) rfl) aA)) (bx _)) cN cN) rfl)))), ?_⟩
  refine ⟨fun n σ H1=>σ=[some (.ref a),some (.int 0)]/\H1=H,⟨0,rfl,rfl⟩,fun n σ H1 hσ=> ?_⟩;obtain ⟨rfl,rfl⟩:=hσ;refine ⟨_,rfl,a,bH,dx,_,_,rfl,ha,cX.cls,cX.XR,rfl,_,rfl,a,bH,dx,_,_,rfl,ha,cX.cls,cX.Ig,rfl,r,_,rfl,.inl (aV.of hr0),_,_,rfl,rfl,_,rfl, ?_⟩;refine nW (fun q=>absurd q (by decide)) (fun _=> ?_);refine dJ ?_;refine ⟨_,rfl,a,bH,dx,_,_,rfl,ha,cX.cls,cX.XR,rfl,_,rfl,a,bH,dx,_,_,rfl,ha,cX.cls,cX.Ig,rfl,r,_,rfl,.inl (aV.of hr0),_,_,rfl,rfl,_,rfl, ?_⟩;refine nW (fun q=>absurd q (by decide)) (fun _=> ?_);refine ⟨_,rfl,a,bH,dx,_,rfl,ha,cX.cls,cX.JR,(by show 5<1000;decide), ?_⟩;exact k _ Kp.set
def qZ (K:PySem.W.Frag):Sp:=fun vs H Q _=>∃(cl:Addr),vs=[.ref cl,.int 1]/\H cl=some (.lst [.int 0]) /\ ∀H',Same H H'->Q .non H'
theorem Em {f:Addr} {fd:FuncData} (F:jW K "check_numbers" "check_numbers" cD f fd) (su:FnAt P w K mg base 2 "is_below" ["value","count"] (wF K)) (wU:Gv mg "ROUND" (.int 1000)) (Bt:oO mg):cj P w K mg base gZ 3 f fd ["cells","count"] (qZ K):=by
 refine F.ok uO (fun vs H Q E h=> ?_) (fun cdv A outer s H vs Q E hr h=> ?_)
 ·obtain ⟨cl,rfl,_⟩:=h
  rfl
 ·obtain ⟨cl,rfl,hc,k1⟩:=h
  refine ⟨_,(aD (cW (PW.pt (jU (fZ (fB (aQ (fX (K:=K) (cv:= .ty "list") (c:= .type "list") rfl rfl) (by rfl) Bt.cT cC (ao (pv 0) (ao (iK (v:= .ty "list") (by rfl) Bt.iT gn rfl) aA))))) (jg (bB k_ (aQ (aP (K:=K) rfl) (by rfl) Bt.dW cB (ao (pv 0) aA)) (pv 1) (bx _))))) (aH tG) bF)
   (aH (cW (fZ (fB (aQ (oG (K:=K) rfl rfl) (by rfl) Bt.Wh Rj (ao (eV rfl (N:=["number"]) (own:=["number"]) (caps:=[]) (bh.of (by kernel_rfl)) (cJ (K:=K) rfl (pv 0)) (fun _ _ _ _=>(aX (i:=0) (show List.Nodup (["number"]:List Str) by decide +kernel) rfl (Or.inl rfl))) (fun _ _ _ _=>eE) (fun _ _ _ _=>(bD su (hr.mono (by decide)) (by rfl) (ao (pv 0) (ao (tQ (by rfl) wU.choose_spec.1 wU.choose_spec.2) aA))))) aA)))) (aH tG) bF))), ?_⟩
  refine ⟨_,rfl,_,_,true,rfl,.lst hc,mz K,true,rfl, ?_⟩;refine dJ ?_;refine ⟨_,rfl,cl,_,rfl,.inl (aV.of hc),_,rfl,rfl,_,rfl, ?_⟩;refine pP rfl ?_;refine ⟨_,rfl,cl,rfl,⟨_,aV.of hc⟩,fun D hD=> ?_⟩;refine jD (K:=K) (fun i=>some (V.bl true)) hD (aV.of hc) (by decide) (fun i v H2 G F hi s2 kG kF=> ?_) (fun H2 s2 e2=> ?_)
  ·obtain rfl:v = .int 0:=by
    cases i with
    | zero=>exact (Option.some.inj hi).symm
    | succ i=>simp at hi
   exact ⟨_,rfl,0,1000,rfl,kF _ H2 (Same.refl _) rfl⟩
  refine ⟨D,[true],rfl,aV.of e2,_,rfl, ?_⟩;refine dJ ?_;exact k1 H2 s2
def wC (CW:Addr) (K:PySem.W.Frag):Sp:=fun vs H Q _=>∃(o dx p L0 r0:Addr),vs=[.ref o,.ref p,.non]/\H o=some (.ins CW dx [])/\H p=some (.tup [.int 1,.ref L0])/\H L0=some (.lst [.ref r0])/\H r0=some (.lst []) /\ ∀fs H',H' o=some (.ins CW dx fs)->Kp o H H'->Q .non H'
theorem HD {v x:V} {j:Nat} (h:[v][j]? = some x):j=0/\x=v:=by
 cases j with
 | zero=>exact ⟨rfl,(Option.some.inj h).symm⟩
 | succ j=>simp at h
theorem PK {aR bH:Addr} {f:Addr} {fd:FuncData} (F:Vt K "__init__" "Works.__init__" cF [.none] f fd) (eG:zL K aR) (cX:wW K bH) (wz:FnAt P w K mg base 3 "check_numbers" ["cells","count"] (qZ K)) (Y9:mG P w K mg base 1 bH "Hand" ["self","rows"] [] (Bx bH K)) (zG:MethAt P w K mg base 2 bH "lead_on" ["self"] (G9 bH K)) (Bt:oO mg):cj P w K mg base gZ 4 f fd ["self","program","cells"] (wC aR K):=by
 refine F.ok lZ (fun vs H Q E h=> ?_) (fun cdv A outer s H vs Q E hr h=> ?_)
 ·obtain ⟨o,dx,p,L0,r0,rfl,_⟩:=h
  rfl
 ·obtain ⟨o,dx,p,L0,r0,rfl,ho,hp,hL,hr0,k⟩:=h
  refine ⟨_,(aD (cW (bB Pz (pv 2) Hw (bx _)) (aH (wK (i:=2) rfl lZ.nd rfl (Or.inl rfl) (N:=["cell"]) (own:=["cell"]) (caps:=[]) (bh.of (by kernel_rfl)) (d7 (by rfl) Bt.fP (ao (aN (bL (K:=K) rfl) (pv 1) aG (fun _ _=>rfl)) aA)) (fun _ _ _ _=>(aX (i:=0) (show List.Nodup (["cell"]:List Str) by decide +kernel) rfl (Or.inl rfl))) (fun _ _ _ _=>eE) (fun _ _ _ _=>aG))) bF)
   (aD (cg (bD wz (hr.mono (by decide)) (by rfl) (ao (pv 2) (ao (aN (bL (K:=K) rfl) (pv 1) aG (fun _ _=>rfl)) aA))))
   (aD (dF (K:=K) rfl (pv 0) (jN (ao (aN (bL (K:=K) rfl) (pv 1) aG (fun _ _=>rfl)) (ao (eV rfl (N:=["rows"]) (own:=["rows"]) (caps:=[]) (bh.of (by kernel_rfl)) (cJ (K:=K) rfl (aN (bL (K:=K) rfl) (pv 1) aG (fun _ _=>rfl))) (fun _ _ _ _=>(aX (i:=0) (show List.Nodup (["rows"]:List Str) by decide +kernel) rfl (Or.inl rfl))) (fun _ _ _ _=>eE) (fun _ _ _ _=>(bW (cO (K:=K) rfl) (by rfl) Bt.iT gn (ao (pv 0) aA)))) aA))) rfl)
   (aD (dF (K:=K) rfl (pv 0) (bW (cO (K:=K) rfl) (by rfl) Bt.iT gn (ao (pv 2) aA)) rfl)
   (aD (dF (K:=K) rfl (pv 0) (eV rfl (N:=["rows"]) (own:=["rows"]) (caps:=[]) (bh.of (by kernel_rfl)) (cJ (K:=K) rfl (aN (bL (K:=K) rfl) (bI (K:=K) rfl (pv 0) rfl) aG (fun _ _=>rfl))) (fun _ _ _ _=>(aX (i:=0) (show List.Nodup (["rows"]:List Str) by decide +kernel) rfl (Or.inl rfl))) (fun _ _ _ _=>eE) (fun _ _ _ _=>(pF Y9 (hr.mono (by decide)) (by rfl) (ao (pv 0) aA)))) rfl)
   (aD (dF (K:=K) rfl (pv 0) (bV aA) rfl)
   (aH (gK PassesOwn.never rfl (cJ (K:=K) rfl (bI (K:=K) rfl (pv 0) rfl)) (aX (i:=3) lZ.nd rfl (Or.inl rfl))
   (aH (cg (d8 zG cX.cls (hr.mono (by decide)) (pv 3)))))))))))), ?_⟩
  refine qm (fun σ H1=>∃cl:Addr,σ=[some (.ref o),some (.ref p),some (.ref cl),none]/\H1 cl=some (.lst [.int 0])/\Same H H1) (fun D' hD' rt'=> ?_) ?_
  ·refine ⟨_,rfl,rfl,_,rfl, ?_⟩
   refine iY ?_;refine ⟨_,rfl,_,_,_,_,rfl,rfl,fY.of hp,rfl,_,rfl,by omega,by omega,fun D hD=> ?_⟩;refine jj (fun _=>some (.int 0)) hD (by decide) (fun i H1 G F hi s1 kG kF=>kF _ H1 (Same.refl _) rfl) (fun H1 s1 e1=> ?_);exact hD' _ _ ⟨D,rfl,e1,s1⟩
  rintro σ H1 ⟨cl,rfl,hcl,s1⟩;have hp1:=s1 _ _ hp;refine sW (fun R g=> ?_);refine ⟨_,rfl,_,rfl,_,_,_,_,rfl,rfl,fY.of hp1,rfl,cl,rfl,hcl,fun H2 s2=> ?_⟩;refine g _ _ ?_;have Oz:=s1.trans s2;have ho2:=Oz _ _ ho;have hp2:=Oz _ _ hp;have hL2:=Oz _ _ hL;have v7:=s2 _ _ hcl;have hr2:=Oz _ _ hr0;clear s1 s2 hp1 hcl;refine sW (fun R g=> ?_);refine ⟨_,rfl,_,_,_,_,rfl,rfl,fY.of hp2,rfl,_,rfl,_,_,_,_,rfl,rfl,fY.of hp2,rfl,L0,rfl,⟨_,aV.of hL2⟩,fun L hLn=> ?_⟩;have sL:=aF (o:=HO.lst []) hLn;refine mY (K:=K) (xs:=[V.ref r0]) (fun j σ Hc=>∃(v:Option V),σ=[v]/\Same H2 Hc/\(j=0->Hc L=some (.lst []))/\(j=1 -> ∃r,Hc L=some (.lst [.ref r])/\Hc r=some (.lst []))) ?_ ?_ ?_ ?_
  ·exact ⟨none,rfl,sL,fun _=>aq,fun z=>absurd z (by decide)⟩
  ·rintro j σ Hc hj ⟨v,rfl,sc,_⟩
   exact aV.of (sc _ _ hL2)
  ·rintro j x σ Hc hj ⟨v,rfl,sc,q0,_⟩
   obtain ⟨rfl,rfl⟩:=HD hj;have hLc:=q0 rfl;dsimp only [jz,Ot];rw [if_pos rfl];refine ⟨_,rfl,r0,_,rfl,.inl (aV.of (sc _ _ hr2)),fun r hrn=> ?_⟩;have sr:=aF (o:=HO.lst []) hrn;have nrL:r≠L:=(aB hLc hrn).symm;refine ⟨[],sr _ _ hLc,(by rw [sizeLine_eq];decide),some (.ref r0),rfl,fun y u e=> ?_,fun z=>absurd z (by decide),fun _=>⟨r,aq,by rw [aO nrL,aq]⟩⟩;rw [aO (aB e hLn)];exact sr _ _ (sc _ _ e)
  rintro σ H3 ⟨v,rfl,s23,_,q1⟩;obtain ⟨r,hL3,UJ⟩:=q1 rfl;have Iu:=s23 _ _ ho2;refine ⟨(by show 2<=sizeLine;decide),fun pg hpg=> ?_⟩;have spg:=aF (o:=HO.tup [V.int 1,V.ref L]) hpg;refine ⟨_,rfl,o,aR,dx,_,rfl,spg _ _ Iu,eG.cls,eG.Am,(by show 0<1000;decide), ?_⟩;refine g _ _ ?_;have agN:pg≠o:=(aB Iu hpg).symm;have Dr:(upd (upd H3 pg (.tup [V.int 1,V.ref L])) o (.ins aR dx (dI "program" (.ref pg) []))) o=some (.ins aR dx [("program",.ref pg)]):=aq;have UL:(upd (upd H3 pg (.tup [V.int 1,V.ref L])) o (.ins aR dx (dI "program" (.ref pg) []))) pg=some (.tup [V.int 1,V.ref L]):=by rw [aO agN,aq]
  have sE:Kp o H3 (upd (upd H3 pg (.tup [V.int 1,V.ref L])) o (.ins aR dx (dI "program" (.ref pg) []))):=(Kp.of_same spg).trans Kp.set;generalize (upd (upd H3 pg (.tup [V.int 1,V.ref L])) o (.ins aR dx (dI "program" (.ref pg) [])))=H4 at Dr UL sE ⊢;have hL4:=sE _ _ hL3 (jx hL3 Iu (by intro z;cases z));have yI:=sE _ _ UJ (jx UJ Iu (by intro z;cases z));have Fz:=sE _ _ (s23 _ _ v7) (jx v7 ho2 (by intro z;cases z));have K4:Kp o H H4:=(Kp.of_same (Oz.trans s23)).trans sE;clear sE spg hr2 v7 hL2 hp2 hL3 UJ sL hLn;refine sW (fun R g=> ?_);refine ⟨_,rfl,cl,_,rfl,.inl (aV.of Fz),fun nb hnb=> ?_⟩;have snb:=aF (o:=HO.lst [.int 0]) hnb;refine ⟨_,rfl,o,aR,dx,_,rfl,snb _ _ Dr,eG.cls,eG.Lz,(by show 1<1000;decide), ?_⟩;refine g _ _ ?_;have UW:(upd (upd H4 nb (.lst [.int 0])) o (.ins aR dx (dI "numbers" (.ref nb) [("program",.ref pg)]))) o=some (.ins aR dx [("program",.ref pg),("numbers",.ref nb)]):=aq;have Qt:Kp o H4 (upd (upd H4 nb (.lst [.int 0])) o (.ins aR dx (dI "numbers" (.ref nb) [("program",.ref pg)]))):=(Kp.of_same snb).trans Kp.set;generalize (upd (upd H4 nb (.lst [.int 0])) o (.ins aR dx (dI "numbers" (.ref nb) [("program",.ref pg)])))=H5 at UW Qt ⊢;have hL5:=Qt _ _ hL4 (jx hL4 Dr (by intro z;cases z));have hr5:=Qt _ _ yI (jx yI Dr (by intro z;cases z));have aif:=Qt _ _ UL (jx UL Dr (by intro z;cases z));have K5:=K4.trans Qt;clear Qt snb Fz hL4 yI UL;refine sW (fun R g=> ?_);refine ⟨_,rfl,o,aR,dx,_,_,rfl,UW,eG.cls,eG.Am,rfl,_,_,_,_,rfl,rfl,fY.of aif,rfl,L,rfl,⟨_,aV.of hL5⟩,fun hl hhl=> ?_⟩;have shl:=aF (o:=HO.lst []) hhl;refine mY (K:=K) (xs:=[V.ref r]) (fun j σ Hc=>∃(v:Option V),σ=[v]/\Same H5 Hc/\(j=0->Hc hl=some (.lst []))/\(j=1 -> ∃h hx b sy,Hc hl=some (.lst [.ref h])/\Hc h=some (.ins bH hx (hF r b sy))/\H5 h=none)) ?_ ?_ ?_ ?_
  ·exact ⟨none,rfl,shl,fun _=>aq,fun z=>absurd z (by decide)⟩
  ·rintro j σ Hc hj ⟨v,rfl,sc,_⟩
   exact aV.of (sc _ _ hL5)
  ·rintro j x σ Hc hj ⟨v,rfl,sc,q0,_⟩
   obtain ⟨rfl,rfl⟩:=HD hj;have hlc:=q0 rfl;dsimp only [jz,Ot];rw [if_pos rfl];refine ⟨_,rfl,fun h hx hn hxn nhx=> ?_⟩;have hn':(upd Hc hx (.own h)) h=none:=by rw [aO nhx.symm];exact hn
   have sm:Same Hc (upd (upd Hc hx (.own h)) h (.ins bH hx [])):=(aF hxn).trans (aF hn');refine ⟨h,r,hx,rfl,aq,fun b sy H7 h7 k7=>⟨rfl, ?_⟩⟩;have S7:Same Hc H7:=fun y u e=>k7 _ _ (sm _ _ e) (aB e hn);have nhl:hl≠h:=aB hlc hn;refine ⟨[],S7 _ _ hlc,(by rw [sizeLine_eq];decide),some (.ref r),rfl,fun y u e=> ?_,fun z=>absurd z (by decide),fun _=>⟨h,hx,b,sy,aq,by rw [aO nhl.symm];exact h7,sc.free hn⟩⟩;rw [aO (aB e hhl)];exact S7 _ _ (sc _ _ e)
  rintro σ H8 ⟨v,rfl,WM,_,q1⟩;obtain ⟨h,hx,b,sy,aaN,R8,fh⟩:=q1 rfl;have ho8:=WM _ _ UW;have hr8:=WM _ _ hr5;refine ⟨_,rfl,o,aR,dx,_,rfl,ho8,eG.cls,eG.JT,(by show 2<1000;decide), ?_⟩;refine g _ _ ?_;have noh:h≠o:=(aB UW fh).symm;have ho9:(upd H8 o (.ins aR dx (dI "hands" (.ref hl) [("program",.ref pg),("numbers",.ref nb)]))) o=some (.ins aR dx [("program",.ref pg),("numbers",.ref nb),("hands",.ref hl)]):=aq;have kp9:Kp o H8 (upd H8 o (.ins aR dx (dI "hands" (.ref hl) [("program",.ref pg),("numbers",.ref nb)]))):=Kp.set;generalize (upd H8 o (.ins aR dx (dI "hands" (.ref hl) [("program",.ref pg),("numbers",.ref nb)])))=H9 at ho9 kp9 ⊢;refine sW (fun R g=> ?_);refine ⟨(by show 0<=sizeLine;decide),fun tn htn=> ?_⟩;have stn:=aF (o:=HO.lst []) htn;refine ⟨_,rfl,o,aR,dx,_,rfl,stn _ _ ho9,eG.cls,eG.Um,(by show 3<1000;decide), ?_⟩;refine g _ _ ?_;have Yt:(upd (upd H9 tn (.lst [])) o (.ins aR dx (dI "turns" (.ref tn) [("program",.ref pg),("numbers",.ref nb),("hands",.ref hl)]))) o=some (.ins aR dx [("program",.ref pg),("numbers",.ref nb),("hands",.ref hl),("turns",.ref tn)]):=aq;have LQ:Kp o H8 (upd (upd H9 tn (.lst [])) o (.ins aR dx (dI "turns" (.ref tn) [("program",.ref pg),("numbers",.ref nb),("hands",.ref hl)]))):=kp9.trans ((Kp.of_same stn).trans Kp.set);generalize (upd (upd H9 tn (.lst [])) o (.ins aR dx (dI "turns" (.ref tn) [("program",.ref pg),("numbers",.ref nb),("hands",.ref hl)])))=qW at Yt LQ ⊢;have QG:=LQ _ _ aaN (jx aaN ho8 (by intro z;cases z));have Yu:=LQ _ _ R8 noh;have aie:=LQ _ _ hr8 (jx hr8 ho8 (by intro z;cases z));have K10:Kp o H qW:=(K5.trans (Kp.of_same WM)).trans LQ;clear kp9 LQ;refine ⟨_,rfl,o,aR,dx,_,_,rfl,Yt,eG.cls,eG.JT,rfl,hl,rfl,⟨_,aV.of QG⟩, ?_⟩;refine jA (xs:=[V.ref h]) (fun j σ Hc=>(∃v,σ=[some (.ref o),some (.ref p),some (.ref cl),v])/\Kp h qW Hc/\(j=0->Hc=qW)) ⟨⟨none,rfl⟩,Kp.of_same (Same.refl _),fun _=>rfl⟩ ?_ ?_ ?_
  ·rintro j σ Hc hj ⟨_,kc,_⟩
   exact aV.of (kc _ _ QG (jx QG Yu (by intro z;cases z)))
  ·rintro j x σ Hc hj ⟨⟨v,rfl⟩,kc,q0⟩
   obtain ⟨rfl,rfl⟩:=HD hj;obtain rfl:=q0 rfl;refine ⟨_,rfl,h,hx,_,rfl,Yu,rfl,h,r,b,sy,hx,rfl,Yu,aie,fun Zy k11=> ?_⟩;exact ⟨⟨_,rfl⟩,k11,fun z=>absurd z (by decide)⟩
  ·rintro σ Hc ⟨⟨v,rfl⟩,kc,_⟩
   refine k _ Hc (kc _ _ Yt noh.symm) (fun x u e n=>kc _ _ (K10 _ _ e n) (aB (K5 _ _ e n) fh))
structure En where
 l:Addr
 R:Rc
 ws:List bM
structure uo (C:Addr) (H:Hp) (hn:Nat) (e:En):Prop where
 rc:RcAt C H e.R e.ws hn
 web:dX H e.l e.ws
 ok:∀x∈e.ws,jF (hn:Int) x
 wl:e.ws.length<=300
theorem uo.same {C:Addr} {H H':Hp} {hn:Nat} {e:En} (h:uo C H hn e) (s:Same H H'):uo C H' hn e:=⟨h.rc.same s,h.web.same s,h.ok,h.wl⟩
structure RdL (C:Addr) (H:Hp) (S L:Addr) (hn:Nat) (es:List En):Prop where
 s:H S=some (.lst (es.map fun e=>V.ref e.R.o))
 l:H L=some (.lst (es.map fun e=>V.ref e.l))
 e:∀e∈es,uo C H hn e
 p:es.Pairwise fun a b=>a.R.o≠b.R.o
theorem RdL.same {C:Addr} {H H':Hp} {S L:Addr} {hn:Nat} {es:List En} (h:RdL C H S L hn es) (s:Same H H'):RdL C H' S L hn es:=⟨s _ _ h.s,s _ _ h.l,fun e m=>(h.e e m).same s,h.p⟩
noncomputable def jo (ws ws':List bM) (hn:Nat):Bool:=decide (jk ws hn=jk ws' hn)&&(iU ws ws.length).isPerm (iU ws' ws'.length)
theorem RG {ws ws':List bM} {hn:Nat}:jo ws ws' hn=true↔Vy ws hn ws' hn:=by
 unfold jo Vy;rw [Bool.and_eq_true,decide_eq_true_iff,List.isPerm_iff]
theorem Gn {ws ws':List bM} {hn hn':Nat}:Vy ws hn ws' hn'↔Vy ws' hn' ws hn:=⟨fun z=>⟨z.1.symm,z.2.symm⟩,fun z=>⟨z.1.symm,z.2.symm⟩⟩
theorem Dh {ws ws':List bM} {hn:Nat} {b:Bool} (h:b=true↔Vy ws hn ws' hn):b=jo ws ws' hn:=Bool.eq_iff_iff.mpr (h.trans RG.symm)
theorem Kr {ws ws':List bM} {hn:Nat} {b:Bool} (h:b=true↔Vy ws hn ws' hn):b=jo ws' ws hn:=Dh (h.trans Gn)
theorem Y5 {ws ws':List bM} {hn:Nat} {ns ns':List Nt} (p:ns.Perm (iU ws ws.length)) (s:wu ns) (p':ns'.Perm (iU ws' ws'.length)) (s':wu ns'):(decide (jk ws hn=jk ws' hn)&&decide (ns=ns'))=jo ws ws' hn:=by
 refine Dh ?_;rw [Bool.and_eq_true,decide_eq_true_iff,decide_eq_true_iff];refine ⟨fun z=>⟨z.1, ?_⟩,fun z=>⟨z.1,kI (p.trans (z.2.trans p'.symm)) s s'⟩⟩;have e:=z.2;subst e;exact p.symm.trans p'
theorem J5 {C l:Addr} {vs:List V} {e:En} {hn:Nat} (h8:hn<=8):∀(rest:List En) {H:Hp} {Q:VK},uo C H hn e->(∀x∈rest,uo C H hn x/\x.R.o≠e.R.o)->H l=some (.lst vs)->(∀H',Same H H'->Q (.bl (rest.any fun x=>jo x.ws e.ws hn)) H')->Wm K C (Ad C K) l e.R.o vs (rest.map fun x=>V.ref x.R.o) H Q
 | [],H,Q,E,q,hl,k=>k H (Same.refl _)
 | x::rest,H,Q,E,q,hl,k=>by
   obtain ⟨X,nx⟩:=q x (.head _);refine .inr (.inr ⟨x.R.o,x.R.dx,_,rfl,nx,X.rc.o,.inl ⟨x.R,e.R,x.ws,e.ws,hn,hn,rfl,X.rc,E.rc,h8,h8,fun b H' hb s'=>⟨b,rfl,fun hb1=> ?_,fun hb0=> ?_⟩⟩⟩)
   ·have:=k H' s'
    rw [List.any_cons,←Dh hb,hb1,Bool.true_or] at this;exact this
   ·refine ⟨aV.of (s' _ _ hl),⟨_,_,(E.rc.same s').o⟩,J5 h8 rest (E.same s') (fun y hy=>⟨(q y (.tail _ hy)).1.same s',(q y (.tail _ hy)).2⟩) (s' _ _ hl) (fun H2 s2=> ?_)⟩
    have:=k H2 (s'.trans s2);rw [List.any_cons,←Dh hb,hb0,Bool.false_or] at this;exact this
theorem Yo {α:Type} (f:α->Bool) (l:List α):inV (.bl true) (l.map fun x=>V.bl (f x))=l.any f:=by
 unfold inV;rw [List.any_map];congr 1;funext x;show (f x==true)=f x;cases f x<;>rfl
theorem U8 {α:Type} (f:α->Bool) (l:List α):(l.map fun x=>V.bl (f x)).all tY=true:=by
 rw [List.all_map,List.all_eq_true];intro x _;rfl
theorem vg (xs:List V) (i:Nat):mX xs (some ((i:Int)+1)) none=xs.drop (i+1):=Ga xs (i+1)
theorem XF {C D:Addr} (h:PySem.W.subIn K (.ref D) (.ref C)=some false):PySem.W.notFirst K C (.ref D)=true:=by
 unfold PySem.W.notFirst;rw [h];simp
theorem Aj {es:List En} {i:Nat} {e:En} (p:es.Pairwise fun a b=>a.R.o≠b.R.o) (ee:es[i]? = some e):∀x∈es.take i++es.drop (i+1),x∈es/\x.R.o≠e.R.o:=fun x hx=>by
 have hi:=(List.getElem?_eq_some_iff.mp ee).1;rw [List.pairwise_iff_getElem] at p;have ei:es[i]=e:=(List.getElem?_eq_some_iff.mp ee).2;rcases List.mem_append.mp hx with m|m
 ·obtain ⟨j,hj,rfl⟩:=List.mem_iff_getElem.mp m
  rw [List.length_take] at hj;rw [List.getElem_take];refine ⟨List.getElem_mem _, ?_⟩;rw [←ei];exact p j i (by omega) hi (by omega)
 ·obtain ⟨j,hj,rfl⟩:=List.mem_iff_getElem.mp m
  rw [List.length_drop] at hj;rw [List.getElem_drop];refine ⟨List.getElem_mem _,fun z=> ?_⟩;rw [←ei] at z;exact p i (i+1+j) hi (by omega) (by omega) z.symm
def BK (C CW:Addr) (K:PySem.W.Frag):Sp:=fun vs H Q _=>∃(S L:Addr) (hn:Nat) (es:List En),vs=[.ref S,.ref L,.int hn]/\RdL C H S L hn es/\es.length<=5/\1<=hn/\hn<=8 /\ ∀H',Same H H'->Q (.bl true) H'
theorem Qg {ak aR:Addr} {f:Addr} {fd:FuncData} (F:jW K "_law_equal" "_law_equal" iH f fd) (au:bN K ak) (eG:zL K aR) (wR:Zx K mg aR "Works") (jq:NeO K ak) (lF:PySem.W.subIn K (.ref ak) (.type "int")=some false) (jw:PySem.W.subIn K (.ref aR) (.ref ak)=some false) (mU:PySem.W.kitOne K (.type "int") (.ref ak)=some false) (pL:PySem.W.kitOne K (.type "NoneType") (.ref ak)=some false) (pN:PySem.W.kitOne K (.type "list") (.ref ak)=some false) (pK:PySem.W.kitOne K (.type "str") (.ref ak)=some false) (pJ:PySem.W.kitOne K (.type "tuple") (.ref ak)=some false) (pI:PySem.W.kitOne K (.ref aR) (.ref ak)=some false)
 (Gr:FnAt P w K mg base 2 "_law_shape" ["touches","hands"] (Bq K)) (bA:MethAt P w K mg base 2 ak "__eq__" ["self","other"] (Ad ak K)) (gW:MethAt P w K mg base 4 ak "__str__" ["self"] (Br ak K)) (cu:MethAt P w K mg base 1 ak "counts" ["self"] (mK ak K)) (cM:MethAt P w K mg base 1 ak "notes" ["self"] (mJ ak K)) (RK:mG P w K mg base 4 aR "Works" ["self","program","cells"] [.non] (wC aR K)) (Bt:oO mg):cj P w K mg base gZ 7 f fd ["some","lists","hands"] (BK ak aR K):=by
 refine F.ok jf (fun vs H Q E h=> ?_) (fun cdv A outer s H vs Q E hr h=> ?_)
 ·obtain ⟨S,L,hn,es,rfl,_⟩:=h
  rfl
 ·obtain ⟨S,L,hn,es,rfl,D0,el,h1,h8,k⟩:=h
  have g8:=hr.units
  refine ⟨_,(aD (gK PassesOwn.never rfl (d7 (by rfl) Bt.fP (ao (aQ (aP (K:=K) rfl) (by rfl) Bt.dW cB (ao (pv 0) aA)) aA)) (aX (i:=3) jf.nd rfl (Or.inl rfl))
   (aD (bw (i:=4) jf.nd rfl (Or.inr rfl) (bD Gr (hr.mono (by decide)) (by rfl) (ao (aN (aJ (K:=K) rfl) (pv 1) (pv 3) (fun _ _=>rfl)) (ao (pv 2) aA))))
   (aD (wK (i:=5) rfl jf.nd rfl (Or.inl rfl) (N:=["row","shape","hands"]) (own:=["row"]) (caps:=[4,2]) (bh.of (by kernel_rfl)) (cJ (K:=K) rfl (pv 1)) (fun _ _ _ _=>(aX (i:=0) (show List.Nodup (["row","shape","hands"]:List Str) by decide +kernel) rfl (Or.inl rfl))) (fun _ _ _ _=>eE) (fun _ _ _ _=>(eX (B_ (K:=K) rfl g8) (bD Gr (hr.mono (by decide)) (by rfl) (ao (pv 0) (ao (pv 2) aA))) (pv 1) (bx _))))
   (aD (gK PassesOwn.never rfl (d7 (by rfl) Bt.fP (ao (aQ (aP (K:=K) rfl) (by rfl) Bt.dW cB (ao (pv 0) aA)) aA)) (aX (i:=6) jf.nd rfl (Or.inl rfl))
   (aH (cW (PW.pt (jU (bB k_ (eX (BZ bA (hr.mono (by decide))) (aN (aJ (K:=K) rfl) (pv 0) (pv 3) (fun _ _=>rfl)) (aN (aJ (K:=K) rfl) (pv 0) (pv 6) (fun _ _=>rfl)) (bx _)) (aN (aJ (K:=K) rfl) (pv 5) (pv 6) (fun _ _=>rfl)) (bx _)) (jg (bB jV (eX (Px jq bA (hr.mono (by decide))) (aN (aJ (K:=K) rfl) (pv 0) (pv 3) (fun _ _=>rfl)) (aN (aJ (K:=K) rfl) (pv 0) (pv 6) (fun _ _=>rfl)) (bx _)) (aN (aJ (K:=K) rfl) (pv 5) (pv 6) (fun _ _=>rfl)) (bx _))))) (aH (bf fj)) bF)))
   (aD (cW (PW.pt (jU (bB (uT (K:=K) rfl bA (hr.mono (by decide))) (aN (aJ (K:=K) rfl) (pv 0) (pv 3) (fun _ _=>rfl)) aG (bx _)) (jU (bB (uT (K:=K) rfl bA (hr.mono (by decide))) (aN (aJ (K:=K) rfl) (pv 0) (pv 3) (fun _ _=>rfl)) Hw (bx _)) (jU (bB (uT (K:=K) rfl bA (hr.mono (by decide))) (aN (aJ (K:=K) rfl) (pv 0) (pv 3) (fun _ _=>rfl)) (aN (aJ (K:=K) rfl) (pv 1) (pv 3) (fun _ _=>rfl)) (bx _)) (jg (bB (uT (K:=K) rfl bA (hr.mono (by decide))) (aN (aJ (K:=K) rfl) (pv 0) (pv 3) (fun _ _=>rfl)) (bW (Ax gW (hr.mono (by decide))) (by rfl) Bt.qT mF (ao (aN (aJ (K:=K) rfl) (pv 0) (pv 3) (fun _ _=>rfl)) aA)) (bx _))))))) (aH (bf fj)) bF)
   (aD (cW (PW.pt (jU (bB (uT (K:=K) rfl bA (hr.mono (by decide))) (aN (aJ (K:=K) rfl) (pv 0) (pv 3) (fun _ _=>rfl)) (jN (ao (d8 cu au.cls (hr.mono (by decide)) (aN (aJ (K:=K) rfl) (pv 0) (pv 3) (fun _ _=>rfl))) (ao (d8 cM au.cls (hr.mono (by decide)) (aN (aJ (K:=K) rfl) (pv 0) (pv 3) (fun _ _=>rfl))) aA))) (bx _)) (jg (bB (uT (K:=K) rfl bA (hr.mono (by decide))) (aN (aJ (K:=K) rfl) (pv 0) (pv 3) (fun _ _=>rfl)) (pF RK (hr.mono (by decide)) (by rfl) (ao (jN (ao aG (ao (bV (ao (bV aA) aA)) aA))) aA)) (bx _))))) (aH (bf fj)) bF)
   (aD (bw (i:=7) jf.nd rfl (Or.inl rfl) (bC rE (bC rE (bV (ao aG aA)) (iJ (kZ (K:=K) rfl) (pv 0) j_ (j9 (pv 3)))) (iJ (kZ (K:=K) rfl) (pv 0) (j9 (bC gb (pv 3) aG)) j_)))
   (aD (bw (i:=8) jf.nd rfl (Or.inl rfl) (eX (HB (K:=K) rfl) fj (bC rE (iJ (kZ (K:=K) rfl) (pv 5) j_ (j9 (pv 3))) (iJ (kZ (K:=K) rfl) (pv 5) (j9 (bC gb (pv 3) aG)) j_)) (by with_unfolding_all rfl)))
   (aH (cW (bB k_ (eX (Xl (K:=K) rfl bA lF (hr.mono (by decide))) (aN (aJ (K:=K) rfl) (pv 0) (pv 3) (fun _ _=>rfl)) (pv 7) (by with_unfolding_all rfl)) (pv 8) (bx _)) (aH (bf fj)) bF))))))))))
   (aH (bf fj))), ?_⟩
  have sl:(es.map fun e=>V.ref e.R.o).length=es.length:=List.length_map _;have ll:(es.map fun e=>V.ref e.l).length=es.length:=List.length_map _;have zl:=sizeLine_eq;refine ⟨_,rfl,S,_,rfl,.inl (aV.of D0.s),_,rfl,by omega,by omega, ?_⟩;rw [show (((es.map fun e=>V.ref e.R.o).length:Nat):Int).toNat=es.length by omega];refine mW (lo:=0) (n:=es.length) (fun i σ Hc=>∃x3 x4 x5 x6 x7 x8:Option V,σ=[some (.ref S),some (.ref L),some (.int hn),x3,x4,x5,x6,x7,x8]/\Same H Hc) ⟨none,none,none,none,none,none,rfl,Same.refl _⟩ ?_ ?_
  rotate_left
  ·rintro σ Hc ⟨x3,x4,x5,x6,x7,x8,rfl,sc⟩
   exact k Hc sc
  rintro i σ Hc hi ⟨x3,x4,x5,x6,x7,x8,rfl,sc⟩;rw [Int.zero_add];obtain ⟨e,ee⟩:∃e,es[i]? = some e:=⟨_,List.getElem?_eq_getElem hi⟩;have em:=List.mem_of_getElem? ee;have eo:(es.map fun e=>V.ref e.R.o)[i]? = some (.ref e.R.o):=by rw [List.getElem?_map,ee];rfl
  have eL:(es.map fun e=>V.ref e.l)[i]? = some (.ref e.l):=by rw [List.getElem?_map,ee];rfl
  have D:=D0.same sc;have E:=D.e e em;refine ⟨_,rfl,_,rfl,_,_,_,_,rfl,rfl,aV.of D.l,aU eL,_,rfl,e.l,e.ws,hn,rfl,E.web,E.ok,h1,h8,E.wl,fun t c f ns H1 ht hc hN pm sr s1=> ?_⟩;have D1:=D.same s1;have Rt:RecAt H1 t c f (jk e.ws hn) ns:=⟨ht,hc,hN⟩;refine ⟨_,rfl,L,rfl,⟨_,aV.of D1.l⟩,fun A1 dM=> ?_⟩;refine jD (K:=K) (fun j=>(es[j]?).map fun x=>V.bl (jo x.ws e.ws hn)) dM (aV.of D1.l) (by omega) (fun j v H9 G F hj s9 kG kF=> ?_) (fun H9 s9 e9=> ?_)
  ·rw [List.getElem?_map] at hj
   cases ej:es[j]? with
   | none=>rw [ej] at hj;cases hj
   | some x=>
     rw [ej] at hj;cases hj;have X:=(D1.same s9).e x (List.mem_of_getElem? ej);refine ⟨_,rfl,_,rfl,x.l,x.ws,hn,rfl,X.web,X.ok,h1,h8,X.wl,fun t' c' f' ns' qW ht' hc' hN' pm' sr' uq=> ?_⟩;refine ⟨_,rfl,rD (jk x.ws hn) ns',rD (jk e.ws hn) ns,Ke ⟨ht',hc',hN'⟩,Ke (Rt.same (s9.trans uq)),xT _ _,xT _ _, ?_⟩;rw [if_neg Bool.false_ne_true,Vc,Y5 pm' sr' pm sr];exact kF _ qW uq (by rw [ej];rfl)
  rw [ll,CJ] at e9;have D9:=D1.same s9;have S9:=sc.trans (s1.trans s9);have al:(es.map fun x=>V.bl (jo x.ws e.ws hn)).length=es.length:=List.length_map _;clear D1 D E Rt ht hc hN s9 s1 sc;refine ⟨_,rfl,S,_,rfl,.inl (aV.of D9.s),_,rfl,by omega,by omega, ?_⟩;rw [show (((es.map fun e=>V.ref e.R.o).length:Nat):Int).toNat=es.length by omega];refine mW (lo:=0) (n:=es.length) (fun j σ Hc=>∃x6:Option V,σ=[some (.ref S),some (.ref L),some (.int hn),some (.int i),some (.ref t),some (.ref A1),x6,x7,x8]/\Same H9 Hc) ⟨x6,rfl,Same.refl _⟩ ?_ ?_
  ·rintro j σ Hc hj ⟨x6,rfl,sc⟩
   rw [Int.zero_add];obtain ⟨x,ex⟩:∃x,es[j]? = some x:=⟨_,List.getElem?_eq_getElem hj⟩;have xo:(es.map fun e=>V.ref e.R.o)[j]? = some (.ref x.R.o):=by rw [List.getElem?_map,ex];rfl
   have xa:(es.map fun x=>V.bl (jo x.ws e.ws hn))[j]? = some (.bl (jo x.ws e.ws hn)):=by rw [List.getElem?_map,ex];rfl
   have D:=D9.same sc;have E:=D.e e em;have X:=D.e x (List.mem_of_getElem? ex);refine ⟨_,rfl,_,rfl,_,_,_,_,rfl,rfl,aV.of D.s,aU eo,_,rfl,_,rfl,_,_,_,_,rfl,rfl,aV.of D.s,aU xo,e.R.o,x.R.o,e.R.dx,x.R.dx,_,_,rfl,rfl,E.rc.o,X.rc.o,.inl ⟨e.R,x.R,e.ws,x.ws,hn,hn,rfl,E.rc,X.rc,h8,h8,fun b1 H1 hb1 s1=>⟨b1,rfl, ?_⟩⟩⟩;have D1:=D.same s1;have E1:=E.same s1;have X1:=X.same s1;refine ⟨_,rfl,_,rfl,_,_,_,_,rfl,rfl,aV.of ((sc.trans s1) _ _ e9),aU xa,rfl,_,rfl, ?_⟩;rw [Kr hb1,show (!decide (V.bl (jo x.ws e.ws hn)=V.bl (jo x.ws e.ws hn)))=false by simp];refine dJ ?_;refine ⟨_,rfl,_,rfl,_,_,_,_,rfl,rfl,aV.of D1.s,aU eo,_,rfl,_,rfl,_,_,_,_,rfl,rfl,aV.of D1.s,aU xo,e.R.o,x.R.o,e.R.dx,x.R.dx,_,_,rfl,rfl,E1.rc.o,X1.rc.o,.inl ⟨e.R,x.R,e.ws,x.ws,hn,hn,rfl,E1.rc,X1.rc,h8,h8,fun b2 H2 hb2 s2=>⟨b2,rfl, ?_⟩⟩⟩;refine ⟨_,rfl,_,rfl,_,_,_,_,rfl,rfl,aV.of ((sc.trans (s1.trans s2)) _ _ e9),aU xa,rfl,_,rfl, ?_⟩;rw [Kr hb2,show (decide (V.bl (!jo x.ws e.ws hn)=V.bl (jo x.ws e.ws hn)))=false by cases jo x.ws e.ws hn<;>rfl];refine dJ ?_;exact ⟨_,rfl,sc.trans (s1.trans s2)⟩
  rintro σ Hc ⟨x6,rfl,sc⟩;have D:=D9.same sc;have E:=D.e e em;refine ⟨_,rfl,_,rfl,_,_,_,_,rfl,rfl,aV.of D.s,aU eo,e.R.o,e.R.dx,_,_,rfl,E.rc.o,(.int 5),(XM K _),.inr ⟨e.R,_,_,rfl,(.int 5),mU,false,rfl,_,rfl,dJ ?_⟩⟩;refine ⟨_,rfl,_,rfl,_,_,_,_,rfl,rfl,aV.of D.s,aU eo,e.R.o,e.R.dx,_,_,rfl,E.rc.o,.non,(XH K _),.inr ⟨e.R,_,_,rfl,.non,pL,false,rfl,_,rfl,dJ ?_⟩⟩;obtain ⟨wv,hw,_⟩:=id E.web;refine ⟨_,rfl,_,rfl,_,_,_,_,rfl,rfl,aV.of D.s,aU eo,_,rfl,_,rfl,_,_,_,_,rfl,rfl,aV.of D.l,aU eL,e.R.o,e.R.dx,_,_,rfl,E.rc.o,(.lst hw),(XJ K _),.inr ⟨e.R,_,_,rfl,(.lst hw),pN,false,rfl,_,rfl,dJ ?_⟩⟩;refine ⟨_,rfl,_,rfl,_,_,_,_,rfl,rfl,aV.of D.s,aU eo,_,rfl,_,rfl,_,_,_,_,rfl,rfl,aV.of D.s,aU eo,e.R.o,e.R.dx,_,rfl,E.rc.o,⟨e.R,e.ws,hn,rfl,E.rc,h8,fun ns pm=>O4 E.ok h8 E.wl pm,fun ns2 H2 p2 sr2 s2=>⟨_,rfl, ?_⟩⟩⟩;have D2:=D.same s2;have E2:=E.same s2;refine ⟨e.R.o,e.R.dx,_,_,rfl,E2.rc.o,(.str _),(XD K _),.inr ⟨e.R,_,_,rfl,(.str _),pK,false,rfl,_,rfl,dJ ?_⟩⟩;refine ⟨_,rfl,_,rfl,_,_,_,_,rfl,rfl,aV.of D2.s,aU eo,_,rfl,_,rfl,_,_,_,_,rfl,rfl,aV.of D2.s,aU eo,e.R.o,e.R.dx,_,rfl,E2.rc.o,rfl,e.R,e.ws,hn,rfl,E2.rc,h8,fun c1 H3 hc1 e1 s3=> ?_⟩;have D3:=D2.same s3;have E3:=E2.same s3;refine ⟨_,rfl,_,rfl,_,_,_,_,rfl,rfl,aV.of D3.s,aU eo,e.R.o,e.R.dx,_,rfl,E3.rc.o,rfl,e.R,e.ws,hn,rfl,E3.rc,fun q1 Xu H4 hq1 N1 p1 sr1 s4=> ?_⟩;refine ⟨(by show 2<=sizeLine;decide),fun tt htt=> ?_⟩;have s5:=aF (o:=HO.tup [V.ref c1,V.ref q1]) htt;have E5:=(E3.same s4).same s5;refine ⟨e.R.o,e.R.dx,_,_,rfl,E5.rc.o,(.tup aq),(XC K _),.inr ⟨e.R,_,_,rfl,(.tup aq),pJ,false,rfl,_,rfl,dJ ?_⟩⟩;have S5:Same H9 (upd H4 tt (HO.tup [V.ref c1,V.ref q1])):=sc.trans (s2.trans (s3.trans (s4.trans s5)));generalize (upd H4 tt (HO.tup [V.ref c1,V.ref q1]))=H5 at S5 s5 E5 ⊢;have D5:=D9.same S5;clear D3 D2 E2 E3 s2 s3 s4 s5 N1;refine ⟨_,rfl,_,rfl,_,_,_,_,rfl,rfl,aV.of D5.s,aU eo,(by show 0<=sizeLine;decide),fun r0 hr0=>⟨(by show 1<=sizeLine;decide),fun r1 hr1=>⟨(by show 2<=sizeLine;decide),fun r2 hr2=>fun o dx ho hdx XQ=> ?_⟩⟩⟩;have t0:=aF (o:=HO.lst []) hr0;have t1:=aF (o:=HO.lst [V.ref r0]) hr1;have t2:=aF (o:=HO.tup [V.int 1,V.ref r1]) hr2;have ho':(upd (upd (upd (upd H5 r0 (.lst [])) r1 (.lst [V.ref r0])) r2 (.tup [V.int 1,V.ref r1])) dx (.own o)) o=none:=by rw [aO XQ.symm];exact ho
  have t3:=(aF (o:=HO.own o) hdx).trans (aF (o:=HO.ins aR dx []) ho');refine ⟨o,dx,r2,r1,r0,rfl,aq,t3 _ _ aq,t3 _ _ (t2 _ _ aq),t3 _ _ (t2 _ _ (t1 _ _ aq)),fun fs H6 ho6 k6=>⟨rfl, ?_⟩⟩;have s56:Same H5 H6:=fun x u ex=>k6 _ _ (t3 _ _ (t2 _ _ (t1 _ _ (t0 _ _ ex)))) (aB (t2 _ _ (t1 _ _ (t0 _ _ ex))) ho);have E6:=E5.same s56;refine ⟨e.R.o,e.R.dx,_,_,rfl,E6.rc.o,(wR.ty ho6 eG.cls),(XF jw),.inr ⟨e.R,_,_,rfl,(wR.ty ho6 eG.cls),pI,false,rfl,_,rfl,dJ ?_⟩⟩;have D6:=D5.same s56;have S6:=S5.trans s56;have a6:=S6 _ _ e9;clear t0 t1 t2 t3 ho' ho hdx hr0 hr1 hr2 E5 D5 s56 k6 D E;refine ⟨(by show 1<=sizeLine;decide),fun q1 hq1=> ?_⟩;have u1:=aF (o:=HO.lst [V.int 5]) hq1;refine ⟨_,rfl,_,rfl,_,rfl,S,_,rfl,aV.of (u1 _ _ D6.s),fun q2 hq2=> ?_⟩;have c1:mX (es.map fun e=>V.ref e.R.o) none (some (i:Int))=(es.take i).map fun e=>V.ref e.R.o:=by rw [pX,List.map_take]
  have c2:mX (es.map fun e=>V.ref e.R.o) (some ((i:Int)+1)) none=(es.drop (i+1)).map fun e=>V.ref e.R.o:=by rw [vg,List.map_drop]
  have c3:mX (es.map fun x=>V.bl (jo x.ws e.ws hn)) none (some (i:Int))=(es.take i).map fun x=>V.bl (jo x.ws e.ws hn):=by rw [pX,List.map_take]
  have c4:mX (es.map fun x=>V.bl (jo x.ws e.ws hn)) (some ((i:Int)+1)) none=(es.drop (i+1)).map fun x=>V.bl (jo x.ws e.ws hn):=by rw [vg,List.map_drop]
  have lT:((es.take i).map fun e=>V.ref e.R.o).length<=5:=by rw [List.length_map,List.length_take];omega
  have lU:((es.drop (i+1)).map fun e=>V.ref e.R.o).length<=5:=by rw [List.length_map,List.length_drop];omega
  have lT':((es.take i).map fun x=>V.bl (jo x.ws e.ws hn)).length<=5:=by rw [List.length_map,List.length_take];omega
  have lU':((es.drop (i+1)).map fun x=>V.bl (jo x.ws e.ws hn)).length<=5:=by rw [List.length_map,List.length_drop];omega
  have cat:V.int 5::((es.take i++es.drop (i+1)).map fun e=>V.ref e.R.o)=([V.int 5]++(es.take i).map fun e=>V.ref e.R.o)++(es.drop (i+1)).map fun e=>V.ref e.R.o:=by rw [List.map_append];rfl
  have cat':((es.take i++es.drop (i+1)).map fun x=>V.bl (jo x.ws e.ws hn))=((es.take i).map fun x=>V.bl (jo x.ws e.ws hn))++(es.drop (i+1)).map fun x=>V.bl (jo x.ws e.ws hn):=List.map_append;rw [c1];clear c1;generalize ((es.take i).map fun e=>V.ref e.R.o)=T at lT cat ⊢;generalize ((es.drop (i+1)).map fun e=>V.ref e.R.o)=U at lU cat c2;generalize ((es.take i).map fun x=>V.bl (jo x.ws e.ws hn))=T' at lT' cat' c3;generalize ((es.drop (i+1)).map fun x=>V.bl (jo x.ws e.ws hn))=U' at lU' cat' c4;have u2:=aF (o:=HO.lst T) hq2;refine ⟨q1,q2,_,_,rfl,rfl,u2 _ _ aq,aq,by rw [List.length_singleton];omega,fun q3 hq3=> ?_⟩;have u3:=aF (o:=HO.lst ([V.int 5]++T)) hq3;refine ⟨_,rfl,_,rfl,_,_,rfl,rfl,_,rfl,S,_,rfl,aV.of (u3 _ _ (u2 _ _ (u1 _ _ D6.s))),fun q4 hq4=> ?_⟩;rw [c2];have u4:=aF (o:=HO.lst U) hq4;refine ⟨q3,q4,_,_,rfl,rfl,u4 _ _ aq,aq,by rw [List.length_append,List.length_singleton];omega,fun q5 J9=> ?_⟩;have u5:=aF (o:=HO.lst ([V.int 5]++T++U)) J9;have oth:(upd (upd (upd (upd (upd H6 q1 (.lst [V.int 5])) q2 (.lst T)) q3 (.lst ([V.int 5]++T))) q4 (.lst U)) q5 (.lst ([V.int 5]++T++U))) q5=some (.lst (V.int 5::((es.take i++es.drop (i+1)).map fun e=>V.ref e.R.o))):=by rw [aq,cat]
  have S7:Same H6 (upd (upd (upd (upd (upd H6 q1 (.lst [V.int 5])) q2 (.lst T)) q3 (.lst ([V.int 5]++T))) q4 (.lst U)) q5 (.lst ([V.int 5]++T++U))):=u1.trans (u2.trans (u3.trans (u4.trans u5)));generalize (upd (upd (upd (upd (upd H6 q1 (.lst [V.int 5])) q2 (.lst T)) q3 (.lst ([V.int 5]++T))) q4 (.lst U)) q5 (.lst ([V.int 5]++T++U)))=H7 at oth S7 ⊢;clear u1 u2 u3 u4 u5 hq1 hq2 hq3 hq4 J9 c2;have a7:=S7 _ _ a6;refine ⟨_,rfl,_,rfl,_,rfl,A1,_,rfl,aV.of a7,fun q6 hq6=> ?_⟩;rw [c3];have u1:=aF (o:=HO.lst T') hq6;refine ⟨_,rfl,_,rfl,_,_,rfl,rfl,_,rfl,A1,_,rfl,aV.of (u1 _ _ a7),fun q7 hq7=> ?_⟩;rw [c4];have u2:=aF (o:=HO.lst U') hq7;refine ⟨q6,q7,_,_,rfl,rfl,u2 _ _ aq,aq,by omega,fun q8 hq8=> ?_⟩;have u3:=aF (o:=HO.lst (T'++U')) hq8;refine ⟨q8,_,rfl,.inl (aV.of aq),rfl, ?_, ?_⟩
  ·rw [←cat']
   exact U8 _ _
  rw [if_neg Bool.false_ne_true,←cat',Yo];rw [←cat'] at u3;have S8:=S7.trans (u1.trans (u2.trans u3));have o8:=(u1.trans (u2.trans u3)) _ _ oth;generalize (upd (upd (upd H7 q6 (.lst T')) q7 (.lst U')) q8 (.lst ((es.take i++es.drop (i+1)).map fun x=>V.bl (jo x.ws e.ws hn))))=H8 at S8 o8 ⊢;have D8:=D6.same S8;have E8:=E6.same S8;refine ⟨_,rfl,_,rfl,_,_,_,_,rfl,rfl,aV.of D8.s,aU eo,_,rfl,e.R.o,q5,e.R.dx,_,_,rfl,rfl,E8.rc.o,aV.of o8, ?_⟩;refine .inr (.inl ⟨5,rfl,.inr ⟨e.R,_,_,rfl,.int 5,mU,false,rfl,fun z=>(by cases z),fun _=>⟨aV.of o8,⟨_,_,E8.rc.o⟩,J5 h8 _ E8 (fun x hx=>⟨D8.e x (Aj D8.p ee x hx).1,(Aj D8.p ee x hx).2⟩) o8 (fun Hz sz=> ?_)⟩⟩⟩);refine ⟨_,rfl,rfl,_,rfl, ?_⟩;rw [show ∀b:Bool,(!decide (V.bl b=V.bl b))=false from fun b=>by simp];refine dJ ?_;exact ⟨_,_,_,_,_,_,rfl,S9.trans (S6.trans (S8.trans sz))⟩
def wG (C:Addr) (K:PySem.W.Frag):Sp:=fun vs H Q _=>∃(l:Addr) (ws:List bM) (hn:Nat),vs=[.int hn,.ref l]/\dX H l ws/\(∀x∈ws,jF (hn:Int) x)/\ws.length<=300/\1<=hn/\hn<=8 /\ ∀(R:Rc) (H':Hp),RcAt C H' R ws hn->H R.o=none->Same H H'->Q (.ref R.o) H'
theorem Qh {ak:Addr} {f:Addr} {fd:FuncData} (F:jW K "_law_begun" "_law_begun" iI f fd) (au:bN K ak) (lG:mG P w K mg base 2 ak "Recorder" ["self","hands"] [] (sS ak K)) (lH:MethAt P w K mg base 4 ak "did" ["self","hand","kind","cell"] (Jz ak K)) (Bt:oO mg):cj P w K mg base gZ 5 f fd ["hands","touches"] (wG ak K):=by
 refine F.ok mO (fun vs H Q E h=> ?_) (fun cdv A outer s H vs Q E hr h=> ?_)
 ·obtain ⟨l,ws,hn,rfl,_⟩:=h
  rfl
 ·obtain ⟨l,ws,hn,rfl,W,Dy,wl,h1,h8,k⟩:=h
  have g8:=hr.units
  refine ⟨_,(aD (bw (i:=2) mO.nd rfl (Or.inl rfl) (pF lG (hr.mono (by decide)) (by rfl) (ao (pv 0) aA)))
   (aD (gK PassesOwn.never rfl (cJ (K:=K) rfl (pv 1)) (tM (K:=K) (n:=3) rfl rfl (d9 (aX (i:=3) mO.nd rfl (Or.inl rfl)) (d9 (aX (i:=4) mO.nd rfl (Or.inl rfl)) (d9 (aX (i:=5) mO.nd rfl (Or.inl rfl)) tK))))
   (aH (cg (tO lH au.cls (hr.mono (by decide)) (pv 2) (ao (pv 3) (ao (pv 4) (ao (pv 5) aA)))))))
   (aH (bf (pv 2))))), ?_⟩
  have VR:∀x∈ws,0<=x.1/\x.1<8:=fun x hx=>⟨(Dy x hx).1.1,by have:=(Dy x hx).1.2;omega⟩;refine ⟨_,rfl,fun o dx ho hdx XQ=> ?_⟩;have s6:Same H (upd (upd H dx (.own o)) o (.ins ak dx [])):=(aF hdx).trans (aF (by rw [aO (Ne.symm XQ)];exact ho));refine ⟨o,dx,hn,rfl,aq,by omega,by omega,fun R H7 ero RC fr Sd k7=>⟨rfl, ?_⟩⟩;rw [Int.toNat_natCast] at RC;have s7:Same H H7:=fun c u e=>k7 _ _ (s6 _ _ e) (aB e ho);have R_:∀c∈R.fp,H c=none:=fun c m=>s6.free (fr c m);subst ero;obtain ⟨vs,hv,dv⟩:=id W;have vl:vs.length=ws.length:=by rw [dv.length,List.length_map]
  clear k7 fr Sd s6;refine ⟨_,rfl,l,rfl,⟨_,aV.of (s7 _ _ hv)⟩, ?_⟩;refine jA (xs:=vs) (fun j σ Hc=>∃x1 x2 x3:Option V,σ=[some (.int hn),some (.ref l),some (.ref R.o),x1,x2,x3]/\Same H Hc/\RcAt ak Hc R (ws.take j) hn) ⟨none,none,none,rfl,s7,RC⟩ ?_ ?_ ?_
  ·rintro j σ Hc hj ⟨x1,x2,x3,rfl,sc,_⟩
   exact aV.of (sc _ _ hv)
  ·rintro j v σ Hc hj ⟨x1,x2,x3,rfl,sc,rc⟩
   have jl:j<ws.length:=by rw [←vl];exact (List.getElem?_eq_some_iff.mp hj).1
   obtain ⟨x,ex⟩:∃x,ws[j]? = some x:=⟨_,List.getElem?_eq_getElem jl⟩;obtain ⟨vs',t,hv',et,ht⟩:=qg (W.same sc) ex;obtain rfl:vs'=vs:=by rw [sc _ _ hv] at hv';cases hv';rfl
   obtain rfl:v = .ref t:=by rw [hj] at et;exact Option.some.inj et
   have ZD:=Dy x (List.mem_of_getElem? ex);refine ⟨t,_,rfl,fY.of ht,rfl,_,_,rfl,_,_,rfl,_,_,rfl,rfl, ?_⟩;refine ⟨_,rfl,R.o,R.dx,_,rfl,rc.o,rfl,_,rfl,_,rfl,_,rfl,R,ws.take j,hn,x.1,x.2.2,x.2.1,rfl,rc,by rw [List.length_take];omega,fun y hy=>VR y (List.mem_of_mem_take hy),ZD.1.1,ZD.1.2,by omega,fun fl ns2 He Yv NN pp ss R9 k9=> ?_⟩;rw [show ws.take j++[(x.1,x.2.1,x.2.2)]=ws.take (j+1) from take_snoc ex] at R9;exact ⟨_,_,_,rfl,qU.out sc R_ k9,R9⟩
  ·rintro σ Hc ⟨x1,x2,x3,rfl,sc,rc⟩
   rw [vl,List.take_length] at rc;exact ⟨_,rfl,k R Hc rc ho sc⟩
theorem Ng {ws ws':List bM} {hn hn':Nat} (n:hn≠hn'):¬Vy ws hn ws' hn':=fun z=>n (by have:=congrArg List.length z.1;rwa [mZ,mZ] at this)
def Bo (C:Addr) (K:PySem.W.Frag):Sp:=fun vs H Q _=>∃(S l:Addr) (hn:Nat) (es:List En) (ws:List bM),vs=[.ref S,.ref l,.int hn]/\H S=some (.lst (es.map fun e=>V.ref e.R.o))/\(∀e∈es,uo C H hn e)/\dX H l ws/\(∀x∈ws,jF (hn:Int) x)/\ws.length<=300/\1<=hn/\hn<=8 /\ ∀H',Same H H'->Q (.bl true) H'
theorem PL {ak:Addr} {f:Addr} {fd:FuncData} (F:jW K "_law_wider" "_law_wider" iz f fd) (au:bN K ak) (jq:NeO K ak) (zJ:FnAt P w K mg base 5 "_law_begun" ["hands","touches"] (wG ak K)) (bA:MethAt P w K mg base 2 ak "__eq__" ["self","other"] (Ad ak K)) (Bt:oO mg):cj P w K mg base gZ 6 f fd ["some","touches","hands"] (Bo ak K):=by
 refine F.ok qp (fun vs H Q E h=> ?_) (fun cdv A outer s H vs Q E hr h=> ?_)
 ·obtain ⟨S,l,hn,es,ws,rfl,_⟩:=h
  rfl
 ·obtain ⟨S,l,hn,es,ws,rfl,hS,hE,W,Dy,wl,h1,h8,k⟩:=h
  have g8:=hr.units
  refine ⟨_,(aD (bw (i:=3) qp.nd rfl (Or.inr rfl) (bC gb (bC lq (pv 2) aG) aG))
   (aD (bw (i:=4) qp.nd rfl (Or.inl rfl) (bD zJ (hr.mono (by decide)) (by rfl) (ao (pv 3) (ao (eV rfl (N:=["one","other"]) (own:=["one"]) (caps:=[3]) (bh.of (by kernel_rfl)) (cJ (K:=K) rfl (pv 1)) (fun _ _ _ _=>(aX (i:=0) (show List.Nodup (["one","other"]:List Str) by decide +kernel) rfl (Or.inl rfl))) (fun _ _ _ _=>(tE (bB vI (aN (bL (K:=K) rfl) (pv 0) aG (fun _ _=>rfl)) (pv 1) (bx _)))) (fun _ _ _ _=>(pv 0))) aA))))
   (aD (gK PassesOwn.never rfl (cJ (K:=K) rfl (pv 0)) (aX (i:=5) qp.nd rfl (Or.inl rfl))
   (aH (cW (PW.pt (jU (bB (BZ bA (hr.mono (by decide))) (pv 5) (pv 4) (bx _)) (jU (bB (BZ bA (hr.mono (by decide))) (pv 4) (pv 5) (bx _)) (jg (fZ (bB (Px jq bA (hr.mono (by decide))) (pv 5) (pv 4) (bx _))))))) (aH (bf fj)) bF)))
   (aH (bf fj))))), ?_⟩
  refine ⟨_,rfl,_,_,rfl,rfl,(by show (0:Int)<8;decide),_,_,rfl,rfl, ?_⟩;dsimp only;obtain ⟨ot,eot,o1,o8,one⟩:∃ot:Nat,(hn:Int) % 8+1=ot/\1<=ot/\ot<=8/\hn≠ot:=⟨hn % 8+1,by omega,by omega,by omega,by omega⟩;rw [eot];obtain ⟨v8,Uz,Nv⟩:=id W;have vl8:v8.length=ws.length:=by rw [Nv.length,List.length_map]
  refine ⟨_,rfl,_,rfl,l,rfl,⟨_,aV.of Uz⟩,fun D2 hD2=> ?_⟩;refine jD (K:=K) (fun i=>(ws[i]?).bind fun x=>if decide (x.1<(ot:Int)) then v8[i]? else none) hD2 (aV.of Uz) (by omega) (fun i v qW G F hi uq kG kF=> ?_) (fun qW uq e10=> ?_)
  ·obtain ⟨dd,ed,dy⟩:=Nv.get hi
   rw [List.getElem?_map] at ed;cases ex:ws[i]? with
   | none=>rw [ex] at ed;cases ed
   | some x=>
     rw [ex] at ed;cases ed;obtain ⟨t,rfl,ht⟩:=jB dy;refine ⟨_,rfl,_,_,_,_,rfl,rfl,fY.of (uq _ _ ht),rfl,_,rfl,_,_,rfl,rfl,_,rfl, ?_⟩
     by_cases c:x.1<(ot:Int)
     ·rw [decide_eq_true c]
      refine iY ?_;exact ⟨_,rfl,kF _ qW (Same.refl _) (by rw [ex];simp [c,hi])⟩
     ·rw [decide_eq_false c]
      refine dJ ?_;exact kG qW (Same.refl _) (by rw [ex,Option.bind_some,decide_eq_false c];rfl)
  have dD:=tZ (H:=qW) (fun x=>decide (x.1<(ot:Int))) (aM.keep uq.tups _ (bJ _ ji _) Nv);refine ⟨D2,_,ot,rfl,⟨_,e10,dD⟩, ?_,Nat.le_trans (List.length_filter_le _ _) wl,o1,o8,fun R H2 rc fo s2=> ?_⟩
  ·intro x hx
   obtain ⟨m,c⟩:=List.mem_filter.mp hx;have t:=Dy x m;exact ⟨⟨t.1.1,of_decide_eq_true c⟩,t.2⟩
  have S2:=uq.trans s2;refine ⟨_,rfl,S,rfl,⟨_,aV.of (S2 _ _ hS)⟩, ?_⟩;refine jA (xs:=es.map fun e=>V.ref e.R.o) (fun j σ Hc=>∃x1:Option V,σ=[some (.ref S),some (.ref l),some (.int hn),some (.int ot),some (.ref R.o),x1]/\Same H2 Hc) ⟨none,rfl,Same.refl _⟩ ?_ ?_ ?_
  ·rintro j σ Hc hj ⟨x1,rfl,sc⟩
   exact aV.of (sc _ _ (S2 _ _ hS))
  ·rintro j v σ Hc hj ⟨x1,rfl,sc⟩
   rw [List.getElem?_map] at hj;cases ej:es[j]? with
   | none=>rw [ej] at hj;cases hj
   | some x=>
     rw [ej] at hj;cases hj;have X:=(hE x (List.mem_of_getElem? ej)).same (S2.trans sc);have rc':=rc.same sc
     have no:∀{b:Bool},(b=true↔Vy x.ws hn (ws.filter fun x=>decide (x.1<(ot:Int))) ot)->b=false:=fun {b} h=>by
      cases b with
      | false=>rfl
      | true=>exact absurd (h.mp rfl) (Ng one)
     refine ⟨_,rfl,_,rfl,x.R.o,R.o,x.R.dx,R.dx,_,_,rfl,rfl,X.rc.o,rc'.o,.inl ⟨x.R,R,x.ws,_,hn,ot,rfl,X.rc,rc',h8,o8,fun b1 H3 hb1 s3=>⟨b1,rfl,_,rfl, ?_⟩⟩⟩;rw [no hb1];refine dJ ?_;have X3:=X.same s3;have WX:=rc'.same s3;refine ⟨_,rfl,_,rfl,R.o,x.R.o,R.dx,x.R.dx,_,_,rfl,rfl,WX.o,X3.rc.o,.inl ⟨R,x.R,_,x.ws,ot,hn,rfl,WX,X3.rc,o8,h8,fun b2 H4 hb2 s4=>⟨b2,rfl,_,rfl, ?_⟩⟩⟩;rw [no (hb2.trans Gn)];refine dJ ?_;have X4:=X3.same s4;have rc4:=WX.same s4;refine ⟨_,rfl,_,rfl,x.R.o,R.o,x.R.dx,R.dx,_,_,rfl,rfl,X4.rc.o,rc4.o,.inl ⟨x.R,R,x.ws,_,hn,ot,rfl,X4.rc,rc4,h8,o8,fun b3 H5 hb3 s5=>⟨b3,rfl,_,rfl, ?_⟩⟩⟩;rw [no hb3];refine dJ ?_;exact ⟨_,rfl,sc.trans (s3.trans (s4.trans s5))⟩
  ·rintro σ Hc ⟨x1,rfl,sc⟩
   exact k Hc (S2.trans sc)
theorem vf {α β:Type} (f:α->β):∀(l:List α) (z:Nat),(l.map f).eraseIdx z=(l.eraseIdx z).map f
 | [],_=>rfl
 | _::_,0=>rfl
 | a::l,z+1=>by
   show f a::(l.map f).eraseIdx z=f a::(l.eraseIdx z).map f;rw [vf f l z]
def Ni (H:Hp) (W:List Addr):Prop:=∀x∈W,∃ys,H x=some (.lst ys)
theorem Ni.ne {H:Hp} {W:List Addr} (l:Ni H W) {a:Addr} {o:HO} (e:H a=some o) (n:∀ys,o ≠ .lst ys):a∉W:=fun m=>by
 obtain ⟨ys,e'⟩:=l a m;rw [e] at e';exact n ys (Option.some.inj e')
theorem qU.tp {W:List Addr} {H H':Hp} (k:qU W H H') (l:Ni H W):∀a xs,H a=some (HO.tup xs)->H' a=some (HO.tup xs):=fun a xs e=>k _ _ e (l.ne e (by intro ys z;cases z))
theorem dX.vW {H H':Hp} {a:Addr} {ws:List bM} {W:List Addr} (h:dX H a ws) (k:qU W H H') (l:Ni H W) (n:a∉W):dX H' a ws:=by
 obtain ⟨vs,e,d⟩:=h;exact ⟨vs,k _ _ e n,aM.keep (k.tp l) _ (bJ _ ji ws) d⟩
theorem RcAt.vW {C:Addr} {H H':Hp} {R:Rc} {ws:List bM} {hn:Nat} {W:List Addr} (r:RcAt C H R ws hn) (k:qU W H H') (l:Ni H W) (d:∀x∈W,x∉R.pl::R.fp):RcAt C H' R ws hn:=by
 obtain ⟨ts,⟨tv,t1,t1'⟩,t2⟩:=r.tkn;obtain ⟨nv,n1,n2⟩:=r.named;obtain ⟨rs,e,kl,q⟩:=r.Yd;have na:R.a∉W:=fun z=>d _ z (.tail _ (.head _));have nn:R.nd∉W:=fun z=>d _ z (.tail _ (.tail _ (.head _)));have nk:R.kn∉W:=fun z=>d _ z (.tail _ (.tail _ (.tail _ (.head _))));have nt:R.tk∉W:=fun z=>d _ z (.tail _ (.tail _ (.tail _ (.tail _ (.head _)))));have np:∀p∈R.ps,p∉W:=fun p m z=>d _ z (.tail _ (.tail _ (.tail _ (.tail _ (.tail _ m)))));refine ⟨k _ _ r.o (l.ne r.o (by intro ys z;cases z)),r.web.vW k l na,⟨nv,k _ _ n1 nn,aM.keep (k.tp l) _ (bJ _ Cr _) n2⟩,⟨rs,k _ _ e nk,kl,fun j p hj=> ?_⟩,⟨ts,⟨tv,k _ _ t1 nt,aM.keep (k.tp l) _ (bJ _ lC _) t1'⟩,t2⟩,k _ _ r.pl (fun z=>d _ z (.head _)),r.Np,fun h p e=>k _ _ (r.Zk h p e) (np p (List.mem_of_getElem? e)),r.nd,r.wL⟩;obtain ⟨g,a,b⟩:=q j p hj;obtain ⟨hs,e',q'⟩:=a.ex;exact ⟨g,⟨⟨hs,k _ _ e' (l.ne e' (by intro ys z;cases z)),q'⟩,a.nn⟩,b⟩
def En.own (e:En):List Addr:=e.l::e.R.pl::e.R.fp
theorem uo.vW {C:Addr} {H H':Hp} {hn:Nat} {e:En} {W:List Addr} (h:uo C H hn e) (k:qU W H H') (l:Ni H W) (d:∀x∈W,x∉e.own):uo C H' hn e:=
 ⟨h.rc.vW k l (fun x m z=>d x m (.tail _ z)),h.web.vW k l (fun z=>d _ z (.head _)),h.ok,h.wl⟩
theorem uo.ls {C:Addr} {H:Hp} {hn:Nat} {e:En} (h:uo C H hn e) {a:Addr} (m:a∈e.own):∃ys,H a=some (.lst ys):=by
 rcases List.mem_cons.mp m with rfl|m
 ·obtain ⟨vs,e,_⟩:=h.web
  exact ⟨vs,e⟩
 ·rcases List.mem_cons.mp m with rfl|m
  ·exact ⟨_,h.rc.pl⟩
  ·exact h.rc.CG m
structure Fx where
 S:Addr
 L:Addr
 r:Addr
 b:Addr
 T:Addr
 tw:List bM
 hn:Nat
def Fx.all (x:Fx):List Addr:=[x.S,x.L,x.r,x.b,x.T]
def Apt (a b:En):Prop:=a.R.o≠b.R.o /\ ∀x∈a.own,x∉b.own
structure RL (C:Addr) (H:Hp) (x:Fx) (m n:Nat) (es:List En):Prop where
 s:H x.S=some (.lst (es.map fun e=>V.ref e.R.o))
 l:H x.L=some (.lst (es.map fun e=>V.ref e.l))
 bag:dY H x.r x.b n
 t:dX H x.T x.tw
 nd:x.all.Nodup
 e:∀e∈es,uo C H x.hn e/\e.ws.length<=m/\e.l∉e.R.pl::e.R.fp
 o:∀e∈es,∀a∈e.own,a∉x.all
 p:es.Pairwise Apt
 h:1<=x.hn/\x.hn<=8
section
variable {C:Addr} {H H':Hp} {x:Fx} {m n:Nat} {es:List En}
theorem RL.all (h:RL C H x m n es) {a:Addr} (q:a∈x.all):∃ys,H a=some (.lst ys):=by
 obtain ⟨tv,t,_⟩:=h.t;obtain ⟨ns,i,f,c,t',e1,e2,_⟩:=h.bag;simp only [Fx.all,List.mem_cons,List.not_mem_nil,or_false] at q;rcases q with rfl|rfl|rfl|rfl|rfl
 ·exact ⟨_,h.s⟩
 ·exact ⟨_,h.l⟩
 ·exact ⟨_,e1⟩
 ·exact ⟨_,e2⟩
 ·exact ⟨_,t⟩
theorem Fx.nds {x:Fx} (h:x.all.Nodup):(x.S≠x.L/\x.S≠x.r/\x.S≠x.b/\x.S≠x.T)/\(x.L≠x.r/\x.L≠x.b/\x.L≠x.T)/\(x.r≠x.b/\x.r≠x.T)/\x.b≠x.T:=by
 simp only [Fx.all,List.nodup_cons,List.mem_cons,List.not_mem_nil,or_false,not_or,not_false_eq_true,List.nodup_nil,and_true] at h;exact ⟨h.1,h.2.1,h.2.2.1,h.2.2.2⟩
theorem RL.vW {W:List Addr} (h:RL C H x m n es) (k:qU W H H') (l:Ni H W) (d:∀a∈W,a∉x.all) (d2:∀a∈W,∀e∈es,a∉e.own):RL C H' x m n es:=by
 have nw:∀a∈x.all,a∉W:=fun a q z=>d a z q;refine ⟨k _ _ h.s (nw _ (by simp [Fx.all])),k _ _ h.l (nw _ (by simp [Fx.all])),h.bag.vW W k (nw _ (by simp [Fx.all])) (nw _ (by simp [Fx.all])),h.t.vW k l (nw _ (by simp [Fx.all])),h.nd,fun e m=>⟨(h.e e m).1.vW k l (fun a q=>d2 a q e m),(h.e e m).2⟩,h.o,h.p,h.h⟩
theorem RL.same (h:RL C H x m n es) (s:Same H H'):RL C H' x m n es:=h.vW (W:=[]) (qU.same s) (fun _ z=>by cases z) (fun _ z=>by cases z) (fun _ z=>by cases z)
theorem RL.draw {n':Nat} (h:RL C H x m n es) (k:Kp x.r H H') (b:dY H' x.r x.b n'):RL C H' x m n' es:=by
 obtain ⟨ys,er⟩:=h.bag.lst
 have l:Ni H [x.r]:=fun a q=>by
  rw [List.mem_singleton.mp q];exact ⟨ys,er⟩
 have kl:qU [x.r] H H':=qU.kp k (.head _);obtain ⟨⟨n1,n2,n3,n4⟩,⟨n5,n6,n7⟩,⟨n8,n9⟩,n10⟩:=Fx.nds h.nd;exact ⟨k _ _ h.s n2,k _ _ h.l n5,b,h.t.vW kl l (fun z=>n9 (List.mem_singleton.mp z).symm),h.nd,fun e q=>⟨(h.e e q).1.vW kl l (fun a z w=>h.o e q a w (by rw [List.mem_singleton.mp z];simp [Fx.all])),(h.e e q).2⟩,h.o,h.p,h.h⟩
theorem RL.next (h:RL C H x m n es) (k:qU [x.S,x.L] H H') {z6 new:List En} (sub:z6.Sublist es) (pn:new.Pairwise Apt) (hS:H' x.S=some (.lst ((z6++new).map fun e=>V.ref e.R.o))) (hL:H' x.L=some (.lst ((z6++new).map fun e=>V.ref e.l)))
 (q:∀e∈new,uo C H' x.hn e/\e.ws.length<=m/\e.l∉e.R.pl::e.R.fp/\H e.R.o=none /\ ∀a∈e.own,H a=none):RL C H' x m n (z6++new):=by
 have l:Ni H [x.S,x.L]:=fun a z=>h.all (by simp only [List.mem_cons,List.not_mem_nil,or_false] at z;rcases z with rfl|rfl<;>simp [Fx.all]);obtain ⟨⟨n1,n2,n3,n4⟩,⟨n5,n6,n7⟩,⟨n8,n9⟩,n10⟩:=Fx.nds h.nd
 have out:∀a,a≠x.S->a≠x.L->a∉[x.S,x.L]:=fun a u v z=>by
  simp only [List.mem_cons,List.not_mem_nil,or_false] at z;rcases z with z|z
  ·exact u z
  ·exact v z
 refine ⟨hS,hL,h.bag.vW _ k (out _ n2.symm n5.symm) (out _ n3.symm n6.symm),h.t.vW k l (out _ n4.symm n7.symm),h.nd,fun e w=> ?_,fun e w a z y=> ?_,List.pairwise_append.mpr ⟨h.p.sublist sub,pn,fun a ha b hb=> ?_⟩,h.h⟩
 ·rcases List.mem_append.mp w with w|w
  ·have w:=sub.subset w
   refine ⟨(h.e e w).1.vW k l (fun a z y=>h.o e w a y ?_),(h.e e w).2⟩;simp only [List.mem_cons,List.not_mem_nil,or_false] at z;rcases z with rfl|rfl<;>simp [Fx.all]
  ·exact ⟨(q e w).1,(q e w).2.1,(q e w).2.2.1⟩
 ·rcases List.mem_append.mp w with w|w
  ·exact h.o e (sub.subset w) a z y
  ·obtain ⟨ys,e1⟩:=h.all y
   rw [(q e w).2.2.2.2 a z] at e1;cases e1
 ·have ha:=h.e a (sub.subset ha)
  obtain ⟨_,_,_,q1,q2⟩:=q b hb;refine ⟨fun z=> ?_,fun c y z=> ?_⟩
  ·have:=ha.1.rc.o
   rw [z,q1] at this;cases this
  ·obtain ⟨ys,e1⟩:=ha.1.ls y
   rw [q2 c z] at e1;cases e1
theorem RL.step {A B:List En} {e:En} {t:bM} (h:RL C H x m n (A++e::B)) (k:qU (e.l::e.R.fp) H H') (rc:RcAt C H' e.R (e.ws++[t]) x.hn) (w:dX H' e.l (e.ws++[t])) (Zi:jF (x.hn:Int) t) (m3:m<300):RL C H' x (m+1) n (A++⟨e.l,e.R,e.ws++[t]⟩::B):=by
 have me:e∈A++e::B:=List.mem_append_right _ (.head _);obtain ⟨E,el,ei⟩:=h.e e me
 have sub:∀a∈e.l::e.R.fp,a∈e.own:=fun a q=>by
  rcases List.mem_cons.mp q with rfl|q
  ·exact .head _
  ·exact .tail _ (.tail _ q)
 have l:Ni H (e.l::e.R.fp):=fun a q=>E.ls (sub a q);obtain ⟨pA,pB,pAB⟩:=List.pairwise_append.mp h.p;obtain ⟨pe,pB'⟩:=List.pairwise_cons.mp pB;have nw:∀a∈x.all,a∉e.l::e.R.fp:=fun a q z=>h.o e me a (sub a z) q;refine ⟨?_, ?_,h.bag.vW _ k (nw _ (by simp [Fx.all])) (nw _ (by simp [Fx.all])),h.t.vW k l (nw _ (by simp [Fx.all])),h.nd,fun c q=> ?_,fun c q a z=> ?_,List.pairwise_append.mpr ⟨pA,List.pairwise_cons.mpr ⟨fun b hb=>pe b hb,pB'⟩,fun a ha b hb=> ?_⟩,h.h⟩
 ·have:=k _ _ h.s (nw _ (by simp [Fx.all]))
  rw [List.map_append,List.map_cons] at this ⊢;exact this
 ·have:=k _ _ h.l (nw _ (by simp [Fx.all]))
  rw [List.map_append,List.map_cons] at this ⊢;exact this
 ·rcases List.mem_append.mp q with q|q
  ·have hc:=h.e c (List.mem_append_left _ q)
   exact ⟨hc.1.vW k l (fun a z y=>(pAB c q e (.head _)).2 a y (sub a z)),Nat.le_succ_of_le hc.2.1,hc.2.2⟩
  ·rcases List.mem_cons.mp q with rfl|q
   ·refine ⟨⟨rc,w,fun y hy=> ?_, ?_⟩, ?_,ei⟩
    ·rcases List.mem_append.mp hy with hy|hy
     ·exact E.ok y hy
     ·rw [List.mem_singleton.mp hy];exact Zi
    ·show (e.ws++[t]).length<=300
     rw [List.length_append,List.length_singleton];omega
    ·show (e.ws++[t]).length<=m+1
     rw [List.length_append,List.length_singleton];omega
   ·have hc:=h.e c (List.mem_append_right _ (.tail _ q))
    exact ⟨hc.1.vW k l (fun a z y=>(pe c q).2 a (sub a z) y),Nat.le_succ_of_le hc.2.1,hc.2.2⟩
 ·rcases List.mem_append.mp q with q|q
  ·exact h.o c (List.mem_append_left _ q) a z
  ·rcases List.mem_cons.mp q with rfl|q
   ·exact h.o e me a z
   ·exact h.o c (List.mem_append_right _ (.tail _ q)) a z
 ·rcases List.mem_cons.mp hb with rfl|hb
  ·exact pAB a ha e (.head _)
  ·exact pAB a ha b (.tail _ hb)
end
theorem Rw {α:Type} {l:List α} {z:Nat} {e:α} (h:l[z]? = some e):l=l.take z++e::l.drop (z+1):=by
 obtain ⟨hz,he⟩:=List.getElem?_eq_some_iff.mp h;have:=List.take_append_drop z l;rw [List.drop_eq_getElem_cons hz,he] at this;exact this.symm
theorem YH {α β:Type} (f:α->β) (v:β):∀(l:List α),l.length=4->(l.map f++[v]).eraseIdx 3=(l.take 3).map f++[v] /\ ∃y,(l.map f++[v])[3]? = some y
 | [a,b,c,d],_=>⟨rfl,_,rfl⟩
theorem aa' {α β:Type} (f:α->β):∀(l:List α),l.length=4->(l.map f).dropLast=(l.take 3).map f /\ ∃y,(l.map f)[(l.map f).length - 1]? = some y
 | [a,b,c,d],_=>⟨rfl,_,rfl⟩
def xK (C:Addr) (K:PySem.W.Frag):Sp:=fun vs H Q _=>∃(x:Fx) (m n:Nat) (es:List En),vs=[.ref x.r,.ref x.S,.ref x.L]/\RL C H x m n es/\1<=es.length/\es.length<=4/\n<1000000 /\ ∀es' H',RL C H' x m (n+1) es'->1<=es'.length->es'.length<=4->Q (.bl true) H'
theorem La {ak:Addr} {f:Addr} {fd:FuncData} (F:jW K "_law_twin" "_law_twin" jZ f fd) (au:bN K ak) (dg:FnAt P w K mg base 2 "_law_draw" ["bag","many"] (oY K)) (jR:MethAt P w K mg base 4 ak "twin" ["self"] (wD ak K)) (bA:MethAt P w K mg base 2 ak "__eq__" ["self","other"] (Ad ak K)) (Bt:oO mg):cj P w K mg base gZ 5 f fd ["bag","some","lists"] (xK ak K):=by
 refine F.ok xU (fun vs H Q E h=> ?_) (fun cdv A outer s H vs Q E hr h=> ?_)
 ·obtain ⟨x,m,n,es,rfl,_⟩:=h
  rfl
 ·obtain ⟨x,m,n,es,rfl,h,l1,l4,nb,k⟩:=h
  have g8:=hr.units
  refine ⟨_,(aD (bw (i:=3) xU.nd rfl (Or.inl rfl) (bD dg (hr.mono (by decide)) (by rfl) (ao (pv 0) (ao (aQ (aP (K:=K) rfl) (by rfl) Bt.dW cB (ao (pv 1) aA)) aA))))
   (aD (bw (i:=4) xU.nd rfl (Or.inl rfl) (d8 jR au.cls (hr.mono (by decide)) (aN (aJ (K:=K) rfl) (pv 1) (pv 3) (fun _ _=>rfl))))
   (aD (cW (bB TX (eX (BZ bA (hr.mono (by decide))) (pv 4) (aN (aJ (K:=K) rfl) (pv 1) (pv 3) (fun _ _=>rfl)) (bx _)) fj (bx _)) (aH (bf fj)) bF)
   (aD (cW (bB jV (aQ (aP (K:=K) rfl) (by rfl) Bt.dW cB (ao (pv 1) aA)) aG (bx _)) (aD (cg (JM (K:=K) rfl PySem.F.plainAttrs_list PySem.F.slot_list_pop PySem.F.type_list_pop X7 (pv 1)))
   (aD (cg (dz (K:=K) rfl (pv 2) (ao (bW (cO (K:=K) rfl) (by rfl) Bt.iT gn (ao (aN (aJ (K:=K) rfl) (pv 2) (pv 3) (fun _ _=>rfl)) aA)) aA)))
   (aH (cg (mj (K:=K) rfl PySem.F.plainAttrs_list PySem.F.slot_list_pop PySem.F.type_list_pop yw (pv 2) (ao aG aA)))))) (aH (cg (dz (K:=K) rfl (pv 2) (ao (bW (cO (K:=K) rfl) (by rfl) Bt.iT gn (ao (aN (aJ (K:=K) rfl) (pv 2) (pv 3) (fun _ _=>rfl)) aA)) aA)))))
   (aD (cg (dz (K:=K) rfl (pv 1) (ao (pv 4) aA)))
   (aH (bf fj))))))), ?_⟩
  have zl:=sizeLine_eq;refine ⟨_,rfl,_,rfl,x.S,_,rfl,.inl (aV.of h.s), ?_⟩;rw [List.length_map];refine ⟨x.r,x.b,_,n,rfl,h.bag,by omega,by omega,by omega,fun z H1 z0 z1 B1 k1=> ?_⟩;obtain ⟨z,rfl⟩:=Int.eq_ofNat_of_zero_le z0;have h1:=h.draw k1 B1;have ZC:z<es.length:=by omega
  obtain ⟨e,ee⟩:∃e,es[z]? = some e:=⟨_,List.getElem?_eq_getElem ZC⟩;have em:=List.mem_of_getElem? ee;have eo:(es.map fun e=>V.ref e.R.o)[z]? = some (.ref e.R.o):=by rw [List.getElem?_map,ee];rfl
  have eL:(es.map fun e=>V.ref e.l)[z]? = some (.ref e.l):=by rw [List.getElem?_map,ee];rfl
  obtain ⟨E1,elm,ei⟩:=h1.e e em;obtain ⟨hn1,hn8⟩:=h1.h;refine ⟨_,rfl,_,rfl,_,_,_,_,rfl,rfl,aV.of h1.s,aU eo,e.R.o,e.R.dx,_,rfl,E1.rc.o,rfl,e.R,e.ws,x.hn,rfl,E1.rc,hn1,hn8,fun R' H2 rc' ffp Sd fo s2=> ?_⟩;have E2:=E1.same s2;refine ⟨_,rfl,_,rfl,_,rfl,_,_,_,_,rfl,rfl,aV.of (s2 _ _ h1.s),aU eo,R'.o,e.R.o,R'.dx,e.R.dx,_,_,rfl,rfl,rc'.o,E2.rc.o,.inl ⟨R',e.R,e.ws,e.ws,x.hn,x.hn,rfl,rc',E2.rc,hn8,hn8,fun b1 H3 hb1 s3=>⟨b1,rfl,b1,true,rfl,rfl,_,rfl, ?_⟩⟩⟩;obtain rfl:b1=true:=hb1.mpr ⟨rfl,List.Perm.refl _⟩;refine dJ ?_;have S3:=s2.trans s3;have h3:=h1.same S3;have E3:=E2.same s3;have WX:=rc'.same s3;obtain ⟨wv,hw,dw⟩:=id E3.web;obtain ⟨⟨n1,n2,n3,n4⟩,⟨n5,n6,n7⟩,⟨n8,n9⟩,n10⟩:=Fx.nds h.nd;have nlS:e.l≠x.S:=fun q=>h1.o e em e.l (.head _) (by rw [q];simp [Fx.all]);have nlL:e.l≠x.L:=fun q=>h1.o e em e.l (.head _) (by rw [q];simp [Fx.all]);have sl:(es.map fun e=>V.ref e.R.o).length=es.length:=List.length_map _;have ll:(es.map fun e=>V.ref e.l).length=es.length:=List.length_map _;clear h hb1 s2 s3 E1 E2 rc' k1 B1;unfold Ju;dsimp only;refine qm (fun σ Hd=>∃(l':Addr) (z6:List En),σ=[some (.ref x.r),some (.ref x.S),some (.ref x.L),some (.int z),some (.ref R'.o)]/\Hd x.S=some (.lst (z6.map fun e=>V.ref e.R.o))/\Hd x.L=some (.lst (z6.map (fun e=>V.ref e.l)++[.ref l']))/\Hd l'=some (.lst wv)/\qU [x.S,x.L] H3 Hd/\z6.Sublist es/\z6.length<=3/\H3 l'=none) (fun D' hD' _=> ?_) ?_
  ·refine ⟨_,rfl,x.S,_,rfl,.inl (aV.of h3.s),rfl,_,rfl, ?_⟩
   by_cases q4:es.length=4
   ·refine nW (fun _=> ?_) (fun w=>absurd (by rw [sl,q4];rfl) w)
    obtain ⟨d1,y1,g1⟩:=aa' (fun e:En=>V.ref e.R.o) es q4;refine ⟨_,rfl,.inl ⟨rfl,_,aV.of h3.s⟩,x.S,_,y1,rfl,rfl,h3.s,g1, ?_⟩;rw [d1];have kS:Kp x.S H3 (upd H3 x.S (.lst ((es.take 3).map fun e=>V.ref e.R.o))):=Kp.set;have eS:(upd H3 x.S (.lst ((es.take 3).map fun e=>V.ref e.R.o))) x.S=some (.lst ((es.take 3).map fun e=>V.ref e.R.o)):=aq;generalize (upd H3 x.S (.lst ((es.take 3).map fun e=>V.ref e.R.o)))=Ha at kS eS ⊢;have lA:=kS _ _ h3.l n1.symm;have wA:=kS _ _ hw nlS;refine ⟨_,rfl,.inl ⟨rfl,_,aV.of lA⟩,_,rfl,_,rfl,_,_,_,_,rfl,rfl,aV.of lA,aU eL,e.l,_,rfl,.inl (aV.of wA),fun l' hl'=> ?_⟩;have sl':=aF (o:=HO.lst wv) hl';have nl':l'≠x.L:=(aB lA hl').symm;have Xx:l'≠x.S:=(aB eS hl').symm;refine ⟨x.L,_,_,rfl,rfl,sl' _ _ lA,by omega, ?_⟩;obtain ⟨d2,y2,g2⟩:=YH (fun e:En=>V.ref e.l) (.ref l') es q4;refine ⟨_,rfl,.inl ⟨rfl,_,aV.of aq⟩,x.L,_,3,3,y2,rfl,rfl,aq,by decide,by decide, ?_,g2, ?_⟩
    ·rw [List.length_append,ll,q4]
     rfl
    rw [d2];refine hD' _ _ ⟨l',es.take 3,rfl, ?_,aq, ?_, ?_,List.take_sublist _ _,by rw [List.length_take];omega, ?_⟩
    ·rw [aO n1,aO n1]
     exact sl' _ _ eS
    ·rw [aO nl',aO nl',aq]
    ·intro c u ec nc
     have c1:c≠x.S:=fun w=>nc (by rw [w];exact .head _);have c2:c≠x.L:=fun w=>nc (by rw [w];exact .tail _ (.head _));rw [aO c2,aO c2];exact sl' _ _ (kS _ _ ec c1)
    ·cases w:H3 l' with
     | none=>rfl
     | some u=>rw [kS _ _ w Xx] at hl';cases hl'
   ·refine nW (fun w=>absurd (of_decide_eq_true w) (fun w'=>q4 (by injection w' with w';omega))) (fun _=> ?_)
    refine ⟨_,rfl,.inl ⟨rfl,_,aV.of h3.l⟩,_,rfl,_,rfl,_,_,_,_,rfl,rfl,aV.of h3.l,aU eL,e.l,_,rfl,.inl (aV.of hw),fun l' hl'=> ?_⟩;have sl':=aF (o:=HO.lst wv) hl';have nl':l'≠x.L:=(aB h3.l hl').symm;refine ⟨x.L,_,_,rfl,rfl,sl' _ _ h3.l,by omega, ?_⟩;refine hD' _ _ ⟨l',es,rfl, ?_,aq, ?_, ?_,List.Sublist.refl _,by omega,hl'⟩
    ·rw [aO n1]
     exact sl' _ _ h3.s
    ·rw [aO nl',aq]
    ·intro c u ec nc
     have c2:c≠x.L:=fun w=>nc (by rw [w];exact .tail _ (.head _));rw [aO c2];exact sl' _ _ ec
  rintro σ Hd ⟨l',z6,rfl,eS,eL',ew,kd,sub,len0,fl'⟩;have s0:(z6.map fun e=>V.ref e.R.o).length=z6.length:=List.length_map _;refine ⟨_,rfl,.inl ⟨rfl,_,aV.of eS⟩,_,rfl,x.S,_,_,rfl,rfl,eS,by omega, ?_⟩;have Xx:l'≠x.S:=(aB h3.s fl').symm
  have kf:qU [x.S,x.L] H3 (upd Hd x.S (.lst (z6.map (fun e=>V.ref e.R.o)++[V.ref R'.o]))):=fun c u ec nc=>by
   rw [aO (fun w=>nc (by rw [w];exact .head _))];exact kd _ _ ec nc
  have tS:(upd Hd x.S (.lst (z6.map (fun e=>V.ref e.R.o)++[V.ref R'.o]))) x.S=some (.lst ((z6++[(⟨l',R',e.ws⟩:En)]).map fun e=>V.ref e.R.o)):=by rw [aq,List.map_append];rfl
  have tL:(upd Hd x.S (.lst (z6.map (fun e=>V.ref e.R.o)++[V.ref R'.o]))) x.L=some (.lst ((z6++[(⟨l',R',e.ws⟩:En)]).map fun e=>V.ref e.l)):=by rw [aO n1.symm,eL',List.map_append];rfl
  have tw:(upd Hd x.S (.lst (z6.map (fun e=>V.ref e.R.o)++[V.ref R'.o]))) l'=some (.lst wv):=by rw [aO Xx];exact ew
  generalize (upd Hd x.S (.lst (z6.map (fun e=>V.ref e.R.o)++[V.ref R'.o])))=He at kf tS tL tw ⊢;have lw:Ni H3 [x.S,x.L]:=fun a q=>h3.all (by simp only [List.mem_cons,List.not_mem_nil,or_false] at q;rcases q with rfl|rfl<;>simp [Fx.all])
  have fresh:∀a∈R'.pl::R'.fp,H1 a=none:=fun a q=>by
   rcases List.mem_cons.mp q with rfl|q
   ·exact Sd
   ·exact ffp a q
  refine k (z6++[⟨l',R',e.ws⟩]) He (h1.next ((qU.same S3).trans kf) sub (List.pairwise_singleton _ _) tS tL ?_) (by simp) (by simp;omega);intro e' q;obtain rfl:=List.mem_singleton.mp q;refine ⟨⟨WX.vW kf lw (fun a q w=> ?_),⟨wv,tw,aM.keep (kf.tp lw) _ (bJ _ ji _) dw⟩,E3.ok,E3.wl⟩,elm,fun w=> ?_,fo,fun a w=> ?_⟩
  ·obtain ⟨ys,e1⟩:=h1.all (a:=a) (by simp only [List.mem_cons,List.not_mem_nil,or_false] at q;rcases q with rfl|rfl<;>simp [Fx.all])
   rw [fresh a w] at e1;cases e1
  ·have:∃ys,H3 l'=some (.lst ys):=by
    rcases List.mem_cons.mp w with w|w
    ·have w:l'=R'.pl:=w
     rw [w];exact ⟨_,WX.pl⟩
    ·exact WX.CG w
   obtain ⟨ys,e1⟩:=this;rw [fl'] at e1;cases e1
  ·rcases List.mem_cons.mp w with w|w
   ·have w:a=l':=w
    rw [w];exact S3.free fl'
   ·exact fresh a w
def xP (C:Addr) (K:PySem.W.Frag):Sp:=fun vs H Q _=>∃(x:Fx) (m n:Nat) (es:List En) (t:Addr) (tc:bM),vs=[.ref x.r,.ref x.S,.ref x.L,.int x.hn,.ref t]/\RL C H x m n es/\1<=es.length/\es.length<=4/\n<1000000/\m<300/\H t=some (.tup [.int tc.1,.str tc.2.1,.int tc.2.2])/\jF (x.hn:Int) tc /\ ∀es' H',RL C H' x (m+1) (n+1) es'->es'.length=es.length->Q (.bl true) H'
theorem Lf {ak:Addr} {f:Addr} {fd:FuncData} (F:jW K "_law_step" "_law_step" j6 f fd) (au:bN K ak) (dg:FnAt P w K mg base 2 "_law_draw" ["bag","many"] (oY K)) (pZ:FnAt P w K mg base 1 "_law_table" ["touches","hands"] (oZ K)) (lJ:FnAt P w K mg base 6 "_law_alike" ["found","due"] (iy 5 K)) (lH:MethAt P w K mg base 4 ak "did" ["self","hand","kind","cell"] (Jz ak K)) (Bt:oO mg):cj P w K mg base gZ 7 f fd ["bag","some","lists","hands","told"] (xP ak K):=by
 refine F.ok sY (fun vs H Q E h=> ?_) (fun cdv A outer s H vs Q E hr h=> ?_)
 ·obtain ⟨x,m,n,es,t,tc,rfl,_⟩:=h
  rfl
 ·obtain ⟨x,m,n,es,t,tc,rfl,h,l1,l4,nb,m3,ht,Zi,k⟩:=h
  have g8:=hr.units
  refine ⟨_,(aD (bw (i:=5) sY.nd rfl (Or.inl rfl) (bD dg (hr.mono (by decide)) (by rfl) (ao (pv 0) (ao (aQ (aP (K:=K) rfl) (by rfl) Bt.dW cB (ao (pv 1) aA)) aA))))
   (aD (cg (dz (K:=K) rfl (aN (aJ (K:=K) rfl) (pv 2) (pv 5) (fun _ _=>rfl)) (ao (pv 4) aA)))
   (aD (bw (i:=6) sY.nd rfl (Or.inl rfl) (tO lH au.cls (hr.mono (by decide)) (aN (aJ (K:=K) rfl) (pv 1) (pv 5) (fun _ _=>rfl)) (ao (aN (bL (K:=K) rfl) (pv 4) aG (fun _ _=>rfl)) (ao (aN (bL (K:=K) rfl) (pv 4) aG (fun _ _=>rfl)) (ao (aN (bL (K:=K) rfl) (pv 4) aG (fun _ _=>rfl)) aA)))))
   (aD (bw (i:=7) sY.nd rfl (Or.inl rfl) (aN (aJ (K:=K) rfl) (aN (bL (K:=K) rfl) (bD pZ (hr.mono (by decide)) (by rfl) (ao (aN (aJ (K:=K) rfl) (pv 2) (pv 5) (fun _ _=>rfl)) (ao (pv 3) aA))) aG (fun _ _=>rfl)) (yj qY aG) (fun _ _=>rfl)))
   (aD (cW (fZ (fB (bD lJ (hr.mono (by decide)) (by rfl) (ao (pv 6) (ao (pv 7) aA))))) (aH (bf fj)) bF)
   (aD (cg (JM (K:=K) rfl PySem.F.plainAttrs_list PySem.F.slot_list_clear PySem.F.type_list_clear Qm (pv 6)))
   (aH (bf fj)))))))), ?_⟩
  have zl:=sizeLine_eq;refine ⟨_,rfl,_,rfl,x.S,_,rfl,.inl (aV.of h.s), ?_⟩;rw [List.length_map];refine ⟨x.r,x.b,_,n,rfl,h.bag,by omega,by omega,by omega,fun z H1 z0 z1 B1 k1=> ?_⟩;obtain ⟨z,rfl⟩:=Int.eq_ofNat_of_zero_le z0;have h1:=h.draw k1 B1;have ht1:=h.bag.tups k1 _ _ ht;have ZC:z<es.length:=by omega
  obtain ⟨e,ee⟩:∃e,es[z]? = some e:=⟨_,List.getElem?_eq_getElem ZC⟩;have em:=List.mem_of_getElem? ee;have eo:(es.map fun e=>V.ref e.R.o)[z]? = some (.ref e.R.o):=by rw [List.getElem?_map,ee];rfl
  have eL:(es.map fun e=>V.ref e.l)[z]? = some (.ref e.l):=by rw [List.getElem?_map,ee];rfl
  obtain ⟨E1,elm,ei⟩:=h1.e e em;obtain ⟨hn1,hn8⟩:=h1.h;obtain ⟨wv,hw,dw⟩:=id E1.web;have vB:wv.length=e.ws.length:=by rw [dw.length,List.length_map]
  have aoK:=E1.wl;refine ⟨_,rfl,_,rfl,_,_,_,_,rfl,rfl,aV.of h1.l,aU eL,.inl ⟨rfl,_,aV.of hw⟩,_,rfl,e.l,_,_,rfl,rfl,hw,by omega, ?_⟩;have kl:Kp e.l H1 (upd H1 e.l (.lst (wv++[V.ref t]))):=Kp.set;have lel:Ni H1 [e.l]:=fun a q=>by rw [List.mem_singleton.mp q];exact ⟨_,hw⟩
  have kll:qU [e.l] H1 (upd H1 e.l (.lst (wv++[V.ref t]))):=qU.kp kl (.head _)
  have w2:dX (upd H1 e.l (.lst (wv++[V.ref t]))) e.l (e.ws++[tc]):=by
   refine ⟨_,aq, ?_⟩;rw [List.map_append];exact aM.append (aM.keep (kll.tp lel) _ (bJ _ ji _) dw) (yS (CN (kl _ _ ht1 (jx ht1 hw (by intro z;cases z)))))
  generalize (upd H1 e.l (.lst (wv++[V.ref t])))=H2 at kl kll w2 ⊢;have nel:e.l∉x.all:=h1.o e em e.l (.head _);have agR:x.S≠e.l:=fun q=>nel (by rw [←q];simp [Fx.all]);have rc2:=E1.rc.vW kll lel (fun a q=>by rw [List.mem_singleton.mp q];exact ei);have Zr:=kll.tp lel _ _ ht1;have fls:Ni H2 e.R.fp:=fun a q=>rc2.CG q;refine ⟨_,rfl,_,rfl,_,_,_,_,rfl,rfl,aV.of (kl _ _ h1.s agR),aU eo,e.R.o,e.R.dx,_,rfl,rc2.o,rfl,_,rfl,_,_,_,_,rfl,rfl,fY.of Zr,rfl,_,rfl,_,_,_,_,rfl,rfl,fY.of Zr,rfl,_,rfl,_,_,_,_,rfl,rfl,fY.of Zr,rfl,e.R,e.ws,x.hn,tc.1,tc.2.2,tc.2.1,rfl,rc2,by omega,fun y hy=>⟨(E1.ok y hy).1.1,by have:=(E1.ok y hy).1.2;omega⟩,Zi.1.1,Zi.1.2,hn8,fun fl ns H3 Yv NN pp ss R9 k9=> ?_⟩;have w3:=w2.vW k9 fls (fun q=>ei (.tail _ q));have h3:=RL.step (m:=m) (t:=tc) (A:=es.take z) (B:=es.drop (z+1)) (e:=e) (by rw [←Rw ee];exact h1) (H':=H3) (fun c u ec nc=>k9 _ _ (kl _ _ ec (fun q=>nc (by rw [q];exact .head _))) (fun q=>nc (.tail _ q))) R9 w3 Zi m3;have lens:(es.take z++(⟨e.l,e.R,e.ws++[tc]⟩:En)::es.drop (z+1)).length=es.length:=by rw [List.length_append,List.length_cons,List.length_take,List.length_drop];omega
  have eL3:((es.take z++(⟨e.l,e.R,e.ws++[tc]⟩:En)::es.drop (z+1)).map fun e=>V.ref e.l)[z]? = some (.ref e.l):=by
   rw [List.getElem?_map,List.getElem?_append_right (by rw [List.length_take];omega),List.length_take,show z - min z es.length=0 by omega];rfl
  have fal:∀a,(∃ys,H1 a=some (.lst ys))->a≠fl:=fun a ⟨ys,ea⟩ q=>by
   by_cases q2:a=e.l
   ·obtain ⟨v2,hv2,_⟩:=w2
    rw [←q,q2,hv2] at Yv;cases Yv
   ·have:=kl _ _ ea q2
    rw [q,Yv] at this;cases this
  have fno:∀a∈[fl],a∉x.all:=fun a q w=>by
   rw [List.mem_singleton.mp q] at w;exact fal _ (h1.all w) rfl
  have aaP:∀a∈[fl],∀c∈(es.take z++(⟨e.l,e.R,e.ws++[tc]⟩:En)::es.drop (z+1)),a∉c.own:=fun a q c hc w=>by
   rw [List.mem_singleton.mp q] at w
   have:∃c'∈es,fl∈c'.own:=by
    rcases List.mem_append.mp hc with hc|hc
    ·exact ⟨c,List.mem_of_mem_take hc,w⟩
    ·rcases List.mem_cons.mp hc with rfl|hc
     ·exact ⟨e,em,w⟩
     ·exact ⟨c,List.mem_of_mem_drop hc,w⟩
   obtain ⟨c',hc',w'⟩:=this;exact fal _ ((h1.e c' hc').1.ls w') rfl
  generalize (es.take z++(⟨e.l,e.R,e.ws++[tc]⟩:En)::es.drop (z+1))=es' at h3 lens eL3 aaP;have l3:(e.ws++[tc]).length=e.ws.length+1:=by rw [List.length_append];rfl
  have ok3:∀y∈e.ws++[tc],jF (x.hn:Int) y:=fun y hy=>by
   rcases List.mem_append.mp hy with hy|hy
   ·exact E1.ok y hy
   ·rw [List.mem_singleton.mp hy];exact Zi
  refine ⟨_,rfl,_,rfl,_,_,_,_,rfl,rfl,aV.of h3.l,aU eL3,_,rfl,e.l,x.hn,e.ws++[tc],rfl,w3,ok3,by omega,by omega,by omega,fun p t1 t2 H4 hp L1 L2 n1 n2 s4=> ?_⟩;obtain ⟨rs,hrs,rl,rq⟩:=L2;obtain ⟨br,ebr⟩:∃br,rs[e.ws.length]? = some br:=⟨_,List.getElem?_eq_getElem (by omega)⟩;obtain ⟨_,ns3,N2,p2,ss2⟩:=rq _ br ebr;have e2:ns3=ns:=kI (p2.trans pp.symm) ss2 ss;subst e2
  have aaA:ug (rs.map V.ref) (-1)=some (.ref br):=by
   refine Fo ?_;rw [List.length_map,show rs.length - 1=e.ws.length by omega,List.getElem?_map,ebr];rfl
  refine ⟨_,_,_,_,rfl,rfl,fY.of hp,rfl,_,rfl,_,_,_,_,rfl,rfl,aV.of hrs,aaA, ?_⟩;obtain ⟨fv,hfv,dfv⟩:=id (NN.same s4);obtain ⟨bv,hbv,dbv⟩:=id N2
  have nl:ns3.length<=300:=by
   rw [p2.length_eq];have:=lO (e.ws++[tc]) e.ws.length (eN (e.ws++[tc]) e.ws.length e.ws.length);have:=m6 (e.ws++[tc]) e.ws.length e.ws.length;omega
  refine ⟨_,rfl,_,rfl,_,_,_,rfl,jC hfv dfv,jC hbv dbv,Bg.up (Bg.up (aaj ns3 (by omega))),fun H5 s5=>⟨_,rfl,dJ ?_⟩⟩;have h5:=(h3.same s4).same s5;have hf5:=s5 _ _ hfv;refine ⟨_,rfl,.inl ⟨rfl,_,aV.of hf5⟩,fl,_,rfl,rfl,hf5, ?_⟩;have kf:qU [fl] H5 (upd H5 fl (.lst [])):=qU.kp Kp.set (.head _);exact k es' _ (h5.vW kf (fun a q=>by rw [List.mem_singleton.mp q];exact ⟨_,hf5⟩) fno aaP) lens
theorem dX.cutAt {H:Hp} {sp:Addr} {vs:List V} {ws:List bM} {j:Nat} (dv:aM H vs (ws.map tD)) (hsp:H sp=none):dX (upd H sp (HO.lst (vs.take j))) sp (ws.take j)/\dX (upd H sp (HO.lst (vs.drop j))) sp (ws.drop j):=by
 constructor
 ·refine ⟨_,aq, ?_⟩
  rw [List.map_take];exact (aM.keep (aF hsp).tups _ (bJ _ ji _) dv).take j
 ·refine ⟨_,aq, ?_⟩
  rw [List.map_drop];exact (aM.keep (aF hsp).tups _ (bJ _ ji _) dv).drop j
def Jy (K:PySem.W.Frag):Sp:=fun vs H Q _=>∃(a:Addr) (ns:List Int),vs=[.ref a]/\aV K H a (ns.map V.int)/\ns.length<=63 /\ ∀H',Q (.bl true) H'
theorem Xp {ak aR:Addr} {f:Addr} {fd:FuncData} (F:jW K "law" "law" sZ f fd) (au:bN K ak) (Za:FnAt P w K mg base 1 "_law_bag" ["script"] (Ov K)) (dg:FnAt P w K mg base 2 "_law_draw" ["bag","many"] (oY K)) (RQ:FnAt P w K mg base 3 "_law_hands" ["bag"] (Bw K)) (Jo:FnAt P w K mg base 4 "_law_touches" ["bag","hands"] (uJ K)) (lG:mG P w K mg base 2 ak "Recorder" ["self","hands"] [] (sS ak K)) (jR:MethAt P w K mg base 4 ak "twin" ["self"] (wD ak K)) (Vu:FnAt P w K mg base 5 "_law_twin" ["bag","some","lists"] (xK ak K)) (Vw:FnAt P w K mg base 7 "_law_step" ["bag","some","lists","hands","told"] (xP ak K)) (zJ:FnAt P w K mg base 5 "_law_begun" ["hands","touches"] (wG ak K)) (RT:FnAt P w K mg base 7 "_law_equal" ["some","lists","hands"] (BK ak aR K)) (RN:FnAt P w K mg base 6 "_law_wider" ["some","touches","hands"] (Bo ak K)) (Wn:FnAt P w K mg base 7 "_law_so" ["recorder","touches","hands"] (Wx ak K)) (Bt:oO mg):cj P w K mg base gZ 8 f fd ["script"] (Jy K):=by
 refine F.ok jL (fun vs H Q E h=> ?_) (fun cdv A outer s H vs Q E hr h=> ?_)
 ·obtain ⟨a,ns,rfl,_⟩:=h
  rfl
 ·obtain ⟨sa,sns,rfl,hSa,hlen,k⟩:=h
  have g8:=hr.units;have zl:=sizeLine_eq
  refine ⟨_,(aD (bw (i:=1) jL.nd rfl (Or.inl rfl) (bD Za (hr.mono (by decide)) (by rfl) (ao (pv 0) aA)))
   (aD (bw (i:=2) jL.nd rfl (Or.inl rfl) (bD RQ (hr.mono (by decide)) (by rfl) (ao (pv 1) aA)))
   (aD (bw (i:=3) jL.nd rfl (Or.inl rfl) (iJ (kZ (K:=K) rfl) (bD Jo (hr.mono (by decide)) (by rfl) (ao (pv 1) (ao (pv 2) aA))) j_ (j9 aG)))
   (aD (bw (i:=4) jL.nd rfl (Or.inl rfl) (bV (ao (pF lG (hr.mono (by decide)) (by rfl) (ao (pv 2) aA)) aA)))
   (aD (bw (i:=5) jL.nd rfl (Or.inl rfl) (bV (ao (bV aA) aA)))
   (aD (gK PassesOwn.never rfl (d7 (by rfl) Bt.fP (ao (aQ (aP (K:=K) rfl) (by rfl) Bt.dW cB (ao (pv 3) aA)) aA)) (aX (i:=6) jL.nd rfl (Or.inl rfl))
   (aD (cW (PW.pt (jU (bB jV (pv 6) (bC tR (aQ (aP (K:=K) rfl) (by rfl) Bt.dW cB (ao (pv 3) aA)) aG) (bx _)) (jg (bB jV (bD dg (hr.mono (by decide)) (by rfl) (ao (pv 1) (ao aG aA))) aG (bx _))))) (aH (cW (fZ (fB (bD Vu (hr.mono (by decide)) (by rfl) (ao (pv 1) (ao (pv 4) (ao (pv 5) aA)))))) (aH (bf fj)) bF)) bF)
   (aH (cW (fZ (fB (bD Vw (hr.mono (by decide)) (by rfl) (ao (pv 1) (ao (pv 4) (ao (pv 5) (ao (pv 2) (ao (aN (aJ (K:=K) rfl) (pv 3) (pv 6) (fun _ _=>rfl)) aA)))))))) (aH (bf fj)) bF))))
   (aD (bw (i:=6) jL.nd rfl (Or.inl rfl) (bD dg (hr.mono (by decide)) (by rfl) (ao (pv 1) (ao (bC gb (aQ (aP (K:=K) rfl) (by rfl) Bt.dW cB (ao (aN (aJ (K:=K) rfl) (pv 5) aG (fun _ _=>rfl)) aA)) aG) aA))))
   (aD (bw (i:=7) jL.nd rfl (Or.inl rfl) (bC rE (iJ (kZ (K:=K) rfl) (aN (aJ (K:=K) rfl) (pv 5) aG (fun _ _=>rfl)) j_ (j9 (pv 6))) (iJ (kZ (K:=K) rfl) (aN (aJ (K:=K) rfl) (pv 5) aG (fun _ _=>rfl)) (j9 (bC gb (pv 6) aG)) j_)))
   (aD (cW (fZ (fB (bD RT (hr.mono (by decide)) (by rfl) (ao (bC rE (pv 4) (bV (ao (bD zJ (hr.mono (by decide)) (by rfl) (ao (pv 2) (ao (pv 7) aA))) aA))) (ao (bC rE (pv 5) (bV (ao (pv 7) aA))) (ao (pv 2) aA)))))) (aH (bf fj)) bF)
   (aD (bw (i:=6) jL.nd rfl (Or.inl rfl) (bD dg (hr.mono (by decide)) (by rfl) (ao (pv 1) (ao (aQ (aP (K:=K) rfl) (by rfl) Bt.dW cB (ao (pv 4) aA)) aA))))
   (aD (cW (PW.pt (jU (fZ (fB (bD RN (hr.mono (by decide)) (by rfl) (ao (pv 4) (ao (aN (aJ (K:=K) rfl) (pv 5) aG (fun _ _=>rfl)) (ao (pv 2) aA)))))) (jg (fZ (fB (bD Wn (hr.mono (by decide)) (by rfl) (ao (d8 jR au.cls (hr.mono (by decide)) (aN (aJ (K:=K) rfl) (pv 4) (pv 6) (fun _ _=>rfl))) (ao (aN (aJ (K:=K) rfl) (pv 5) (pv 6) (fun _ _=>rfl)) (ao (pv 2) aA))))))))) (aH (bf fj)) bF)
   (aD (gK PassesOwn.never rfl (d7 (by rfl) Bt.fP (ao (aQ (aP (K:=K) rfl) (by rfl) Bt.dW cB (ao (pv 4) aA)) aA)) (aX (i:=8) jL.nd rfl (Or.inl rfl))
   (aD (bw (i:=6) jL.nd rfl (Or.inl rfl) (bD dg (hr.mono (by decide)) (by rfl) (ao (pv 1) (ao (aQ (aP (K:=K) rfl) (by rfl) Bt.dW cB (ao (pv 4) aA)) aA))))
   (aH (cW (fZ (fB (bD Wn (hr.mono (by decide)) (by rfl) (ao (mj (K:=K) rfl PySem.F.plainAttrs_list PySem.F.slot_list_pop PySem.F.type_list_pop yw (pv 4) (ao (pv 6) aA)) (ao (mj (K:=K) rfl PySem.F.plainAttrs_list PySem.F.slot_list_pop PySem.F.type_list_pop yw (pv 5) (ao (pv 6) aA)) (ao (pv 2) aA)))))) (aH (bf fj)) bF))))
   (aH (bf fj)))))))))))))), ?_⟩
  refine ⟨_,rfl,sa,sns,rfl,hSa,hlen,fun r b H1 hr1 hb1 B1 sm1=> ?_⟩;refine ⟨_,rfl,r,b,0,rfl,B1,by decide,fun hn H3 hn0 hn1 B3 k3=> ?_⟩;refine ⟨_,rfl,_,rfl,r,b,_,hn,rfl,B3,by decide,hn0,hn1,fun w ws H4 hw0 W Dy wl B4 k4=> ?_⟩;obtain ⟨hn,rfl⟩:=Int.eq_ofNat_of_zero_le (show 0<=hn by omega);obtain ⟨wv,hw,dw⟩:=id W;refine ⟨_,rfl,w,_,rfl,aV.of hw,fun T hT=> ?_⟩;rw [show mX wv none (some (100:Int))=wv.take 100 from pX wv 100];have WT:=(dX.cutAt (j:=100) dw hT).1;have B5:=B4.keep (aF (o:=HO.lst (wv.take 100)) hT);have nTr:=B4.ne hT;generalize (upd H4 T (HO.lst (wv.take 100)))=H5 at WT B5 ⊢;have tok:∀x∈ws.take 100,jF (hn:Int) x:=fun x hx=>Dy x (List.mem_of_mem_take hx);have tl:(ws.take 100).length<=100:=by rw [List.length_take];omega
  generalize ws.take 100=tw at WT tok tl;clear W Dy wl B4 k4 hw dw hw0 B1 B3 k3 sm1 hT;refine ⟨_,rfl,fun o dx ho hdx XQ=> ?_⟩;have s6:Same H5 (upd (upd H5 dx (.own o)) o (.ins ak dx [])):=(aF hdx).trans (aF (by rw [aO (Ne.symm XQ)];exact ho));refine ⟨o,dx,hn,rfl,aq,hn0,hn1,fun R H7 ero RC fr Sd k7=>⟨rfl, ?_⟩⟩;rw [Int.toNat_natCast] at RC;have s7:Same H5 H7:=fun c u e=>k7 _ _ (s6 _ _ e) (aB e ho)
  have R_:∀c∈R.pl::R.fp,H5 c=none:=fun c m=>by
   rcases List.mem_cons.mp m with rfl|m
   ·exact s6.free Sd
   ·exact s6.free (fr c m)
  subst ero;clear s6 k7 fr Sd;refine ⟨(by show 1<=sizeLine;decide),fun S hS=> ?_⟩;have s8:=aF (o:=HO.lst [V.ref R.o]) hS;have eS:(upd H7 S (.lst [V.ref R.o])) S=some (.lst [V.ref R.o]):=aq;generalize (upd H7 S (.lst [V.ref R.o]))=H8 at s8 eS ⊢;refine ⟨(by show 0<=sizeLine;decide),fun l0 hl0=> ?_⟩;have s9:=aF (o:=HO.lst []) hl0;have el0:(upd H8 l0 (.lst [])) l0=some (.lst []):=aq;generalize (upd H8 l0 (.lst []))=H9 at s9 el0 ⊢;refine ⟨(by show 1<=sizeLine;decide),fun L hL=> ?_⟩;have uq:=aF (o:=HO.lst [V.ref l0]) hL;have eL:(upd H9 L (.lst [V.ref l0])) L=some (.lst [V.ref l0]):=aq;generalize (upd H9 L (.lst [V.ref l0]))=qW at uq eL ⊢;have S10:=s7.trans (s8.trans (s9.trans uq))
  have rcl:∀c∈R.pl::R.fp,∃ys,H7 c=some (.lst ys):=fun c m=>by
   rcases List.mem_cons.mp m with rfl|m
   ·exact ⟨_,RC.pl⟩
   ·exact RC.CG m
  obtain ⟨yr,er⟩:=B5.lst
  obtain ⟨yb,eb⟩:∃yb,H5 b=some (.lst yb):=by
   obtain ⟨_,_,_,_,_,_,e,_⟩:=id B5;exact ⟨_,e⟩
  have nbr:r≠b:=by
   obtain ⟨_,_,_,_,_,_,_,q,_⟩:=id B5;exact q.symm
  obtain ⟨yT,eT,_⟩:=id WT
  have R0:RL ak qW ⟨S,L,r,b,T,tw,hn⟩ 0 20000 [⟨l0,R,[]⟩]:=by
   have n1:S≠L:=aB (s9 _ _ eS) hL;have n2:S≠r:=(aB (s7 _ _ er) hS).symm;have n3:S≠b:=(aB (s7 _ _ eb) hS).symm;have n4:S≠T:=(aB (s7 _ _ eT) hS).symm;have s59:=s7.trans (s8.trans s9);have n5:L≠r:=(aB (s59 _ _ er) hL).symm;have n6:L≠b:=(aB (s59 _ _ eb) hL).symm;have n7:L≠T:=(aB (s59 _ _ eT) hL).symm;have WM:=s7.trans s8;have m1:l0≠S:=(aB eS hl0).symm;have m2:l0≠L:=aB el0 hL;have m3:l0≠r:=(aB (WM _ _ er) hl0).symm;have m4:l0≠b:=(aB (WM _ _ eb) hl0).symm;have m5:l0≠T:=(aB (WM _ _ eT) hl0).symm;refine ⟨uq _ _ (s9 _ _ eS),eL,(B5.keep S10).mono (by decide),WT.same S10, ?_,fun e q=> ?_,fun e q a z y=> ?_,List.pairwise_singleton _ _,⟨(by show 1<=hn;omega),(by show hn<=8;omega)⟩⟩
   ·simp only [Fx.all,List.nodup_cons,List.mem_cons,List.not_mem_nil,or_false,not_or,not_false_eq_true,List.nodup_nil,and_true]
    exact ⟨⟨n1,n2,n3,n4⟩,⟨n5,n6,n7⟩,⟨nbr,nTr.1.symm⟩,nTr.2.symm⟩
   ·obtain rfl:=List.mem_singleton.mp q
    refine ⟨⟨RC.same (s8.trans (s9.trans uq)),⟨_,uq _ _ el0,by simp [aM]⟩,(fun x hx=>by cases hx),(by show 0<=300;decide)⟩,Nat.le_refl _,fun z=> ?_⟩;obtain ⟨ys,e1⟩:=rcl _ z;rw [s8 _ _ e1] at hl0;cases hl0
   ·obtain rfl:=List.mem_singleton.mp q
    simp only [Fx.all,List.mem_cons,List.not_mem_nil,or_false] at y;rcases List.mem_cons.mp z with z|z
    ·have z:a=l0:=z
     subst z;rcases y with y|y|y|y|y
     ·exact m1 y
     ·exact m2 y
     ·exact m3 y
     ·exact m4 y
     ·exact m5 y
    ·obtain ⟨ys,e1⟩:=rcl _ z
     have f:=R_ _ z;rcases y with rfl|rfl|rfl|rfl|rfl
     ·rw [hS] at e1;cases e1
     ·rw [s9 _ _ (s8 _ _ e1)] at hL;cases hL
     ·rw [f] at er;cases er
     ·rw [f] at eb;cases eb
     ·rw [f] at eT;cases eT
  clear RC R_ rcl eS el0 eL s7 s8 s9 uq hS hl0 hL B5 er eb WT eT S10 nTr
  have tv:∀{Hc:Hp} {m n:Nat} {es:List En},RL ak Hc ⟨S,L,r,b,T,tw,hn⟩ m n es -> ∃vs,Hc T=some (.lst vs)/\vs.length=tw.length:=fun h=>by
   obtain ⟨vs,e,d⟩:=h.t;exact ⟨vs,e,by rw [d.length,List.length_map]⟩
  obtain ⟨v0,hv0,vl0⟩:=tv R0;refine ⟨_,rfl,T,_,rfl,.inl (aV.of hv0),_,rfl,by omega,by omega, ?_⟩;rw [show ((v0.length:Nat):Int).toNat=tw.length by omega];refine mW (lo:=0) (n:=tw.length) (fun j σ Hc=>∃(x6 x7 x8:Option V) (n:Nat) (es:List En),σ=[some (.ref sa),some (.ref r),some (.int hn),some (.ref T),some (.ref S),some (.ref L),x6,x7,x8]/\RL ak Hc ⟨S,L,r,b,T,tw,hn⟩ j n es/\n<=20000+3*j/\1<=es.length/\es.length<=4) ⟨none,none,none,20000,_,rfl,R0,Nat.le_refl _,Nat.le_refl _,(by show 1<=4;decide)⟩ ?_ ?_
  ·rintro j σ Hc hj ⟨x6,x7,x8,n,es,rfl,h,nb,l1,l4⟩
   rw [Int.zero_add];dsimp only [jz];refine qm (fun σ Hd=>∃(n':Nat) (es':List En),σ=[some (.ref sa),some (.ref r),some (.int hn),some (.ref T),some (.ref S),some (.ref L),some (.int j),x7,x8]/\RL ak Hd ⟨S,L,r,b,T,tw,hn⟩ j n' es'/\n'<=n+2/\1<=es'.length/\es'.length<=4) (fun D' hD' _=> ?_) ?_
   ·obtain ⟨v1,hv1,vl1⟩:=tv h
    refine ⟨_,rfl,_,rfl,T,_,rfl,.inl (aV.of hv1),_,_,rfl,rfl,(by show Nm _ 2;exact ⟨by decide,by decide⟩),rfl,_,rfl, ?_⟩;refine nW (fun _=> ?_) (fun _=> ?_)
    ·refine iY ?_
     refine ⟨_,rfl,_,rfl,_,rfl,⟨S,L,r,b,T,tw,hn⟩,j,n,es,rfl,h,l1,l4,by omega,fun es' H' h' a1 a4=>⟨_,rfl,dJ ?_⟩⟩;exact hD' _ _ ⟨n+1,es',rfl,h',by omega,a1,a4⟩
    ·refine ⟨_,rfl,r,b,8,n,rfl,h.bag,by omega,by decide,by decide,fun z Ha z0 z1 Ba ka=> ?_⟩
     have ha:=h.draw ka Ba;refine ⟨rfl,_,rfl, ?_⟩;refine nW (fun _=> ?_) (fun _=> ?_)
     ·refine ⟨_,rfl,_,rfl,_,rfl,⟨S,L,r,b,T,tw,hn⟩,j,n+1,es,rfl,ha,l1,l4,by omega,fun es' H' h' a1 a4=>⟨_,rfl,dJ ?_⟩⟩
      exact hD' _ _ ⟨n+1+1,es',rfl,h',by omega,a1,a4⟩
     ·exact hD' _ _ ⟨n+1,es,rfl,ha,by omega,l1,l4⟩
   rintro σ Hd ⟨n',es',rfl,h',nb',a1,a4⟩;obtain ⟨x,ex⟩:∃x,tw[j]? = some x:=⟨_,List.getElem?_eq_getElem hj⟩;obtain ⟨vs',t,hv',et,ht⟩:=qg h'.t ex;refine ⟨_,rfl,_,rfl,_,rfl,_,rfl,_,rfl,_,rfl,_,_,_,_,rfl,rfl,aV.of hv',aU et,⟨S,L,r,b,T,tw,hn⟩,j,n',es',t,x,rfl,h',a1,a4,by omega,by omega,ht,tok x (List.mem_of_getElem? ex),fun es2 H2 h2 el2=>⟨_,rfl,dJ ?_⟩⟩;exact ⟨_,_,_,n'+1,es2,rfl,h2,by omega,by omega,by omega⟩
  rintro σ Hc ⟨x6,x7,x8,n,es,rfl,h,nb,l1,l4⟩;clear R0 v0 hv0 vl0
  obtain ⟨e0,rest,rfl⟩:∃e0 rest,es=e0::rest:=by
   cases es with
   | nil=>exact absurd l1 (by decide)
   | cons a t=>exact ⟨a,t,rfl⟩
  generalize hes:e0::rest=es at h l1 l4;have em0:e0∈es:=by rw [←hes];exact .head _
  have z0L:ug (es.map fun e=>V.ref e.l) 0=some (.ref e0.l):=by rw [←hes];exact aU (j:=0) rfl
  obtain ⟨E0',el0,_⟩:=h.e e0 em0;obtain ⟨wv,hw,dw⟩:=id E0'.web;have vB:wv.length=e0.ws.length:=by rw [dw.length,List.length_map]
  have amx:=E0'.wl;obtain ⟨hh1,R8⟩:=h.h;have hh1:1<=hn:=hh1;have R8:hn<=8:=R8;refine ⟨_,rfl,_,rfl,_,_,_,_,rfl,rfl,aV.of h.l,z0L,e0.l,_,rfl,.inl (aV.of hw),_,_,rfl,rfl,r,b,_,n,rfl,h.bag,by omega,by omega,by omega,fun z Ha z0 z1 Ba ka=> ?_⟩;obtain ⟨z,rfl⟩:=Int.eq_ofNat_of_zero_le z0;have ha:=h.draw ka Ba;obtain ⟨Ea,_,_⟩:=ha.e e0 em0;obtain ⟨wv,hw,dw⟩:=id Ea.web;have vB:wv.length=e0.ws.length:=by rw [dw.length,List.length_map]
  refine ⟨_,rfl,_,_,_,_,rfl,rfl,aV.of ha.l,z0L,_,rfl,_,rfl,e0.l,_,rfl,aV.of hw,fun p1 hp1=> ?_⟩;rw [pX];have u1:=aF (o:=HO.lst (wv.take z)) hp1;refine ⟨_,rfl,_,_,_,_,rfl,rfl,aV.of (u1 _ _ ha.l),z0L,_,rfl,_,_,rfl,rfl,_,rfl,e0.l,_,rfl,aV.of (u1 _ _ hw),fun p2 hp2=> ?_⟩;rw [vg];have u2:=aF (o:=HO.lst (wv.drop (z+1))) hp2;refine ⟨p1,p2,_,_,rfl,rfl,u2 _ _ aq,aq,by rw [List.length_take,List.length_drop];omega,fun D hD=> ?_⟩;have u3:=aF (o:=HO.lst (wv.take z++wv.drop (z+1))) hD
  have WD:dX (upd (upd (upd Ha p1 (.lst (wv.take z))) p2 (.lst (wv.drop (z+1)))) D (.lst (wv.take z++wv.drop (z+1)))) D (e0.ws.take z++e0.ws.drop (z+1)):=by
   refine ⟨_,aq, ?_⟩;rw [List.map_append,List.map_take,List.map_drop];have d:=aM.keep (u1.trans (u2.trans u3)).tups _ (bJ _ ji _) dw;exact aM.append (d.take z) (d.drop (z+1))
  have hb:=ha.same (u1.trans (u2.trans u3));generalize (upd (upd (upd Ha p1 (.lst (wv.take z))) p2 (.lst (wv.drop (z+1)))) D (.lst (wv.take z++wv.drop (z+1))))=Hb at WD hb ⊢
  have bok:∀x∈e0.ws.take z++e0.ws.drop (z+1),jF (hn:Int) x:=fun x hx=>by
   rcases List.mem_append.mp hx with hx|hx
   ·exact Ea.ok x (List.mem_of_mem_take hx)
   ·exact Ea.ok x (List.mem_of_mem_drop hx)
  have bl:(e0.ws.take z++e0.ws.drop (z+1)).length<=300:=by rw [List.length_append,List.length_take,List.length_drop];omega
  generalize e0.ws.take z++e0.ws.drop (z+1)=wb at WD bok bl;clear u1 u2 u3 hp1 hp2 hD ha hw dw vB Ea E0' ka Ba h;refine ⟨_,rfl,_,rfl,_,rfl,D,wb,hn,rfl,WD,bok,bl,hh1,R8,fun Rb Hd rcb fo sb=>⟨(by show 1<=sizeLine;decide),fun q1 hq1=> ?_⟩⟩;have u1:=aF (o:=HO.lst [V.ref Rb.o]) hq1;have hd:=hb.same sb;have sl:(es.map fun e=>V.ref e.R.o).length=es.length:=List.length_map _;have ll:(es.map fun e=>V.ref e.l).length=es.length:=List.length_map _;refine ⟨S,q1,_,_,rfl,rfl,u1 _ _ hd.s,aq,by rw [List.length_singleton];omega,fun S2 hS2=> ?_⟩;have u2:=aF (o:=HO.lst ((es.map fun e=>V.ref e.R.o)++[V.ref Rb.o])) hS2;refine ⟨_,rfl,_,rfl,(by show 1<=sizeLine;decide),fun q2 hq2=> ?_⟩;have u3:=aF (o:=HO.lst [V.ref D]) hq2;refine ⟨L,q2,_,_,rfl,rfl,u3 _ _ (u2 _ _ (u1 _ _ hd.l)),aq,by rw [List.length_singleton];omega,fun L2 hL2=> ?_⟩;have u4:=aF (o:=HO.lst ((es.map fun e=>V.ref e.l)++[V.ref D])) hL2;have ZF:=u1.trans (u2.trans (u3.trans u4))
  have RD:RdL ak (upd (upd (upd (upd Hd q1 (.lst [V.ref Rb.o])) S2 (.lst ((es.map fun e=>V.ref e.R.o)++[V.ref Rb.o]))) q2 (.lst [V.ref D])) L2 (.lst ((es.map fun e=>V.ref e.l)++[V.ref D]))) S2 L2 hn (es++[⟨D,Rb,wb⟩]):=by
   refine ⟨(u3.trans u4) _ _ (by rw [aq,List.map_append];rfl),(by rw [aq,List.map_append];rfl),fun e q=> ?_,List.pairwise_append.mpr ⟨hd.p.imp (fun a=>a.1),List.pairwise_singleton _ _,fun a ha c hc=> ?_⟩⟩
   ·rcases List.mem_append.mp q with q|q
    ·exact (hd.e e q).1.same ZF
    ·obtain rfl:=List.mem_singleton.mp q
     exact ⟨rcb.same ZF,WD.same (sb.trans ZF),bok,bl⟩
   ·obtain rfl:=List.mem_singleton.mp hc
    exact aB (hb.e a ha).1.rc.o fo
  refine ⟨_,rfl,S2,L2,hn,_,rfl,RD,by rw [List.length_append,List.length_singleton];omega,hh1,R8,fun He se=>⟨_,rfl,dJ ?_⟩⟩;have he:=(hd.same ZF).same se;clear RD u1 u2 u3 u4 ZF hq1 hS2 hq2 hL2 hd rcb WD hb;refine ⟨_,rfl,_,rfl,S,_,rfl,.inl (aV.of he.s), ?_⟩;rw [List.length_map];refine ⟨r,b,_,n+1,rfl,he.bag,by omega,by omega,by omega,fun z2 Hf z20 z21 Bf kf=> ?_⟩;obtain ⟨z2,rfl⟩:=Int.eq_ofNat_of_zero_le z20;have hf:=he.draw kf Bf;obtain ⟨e,ee⟩:∃e,es[z2]? = some e:=⟨_,List.getElem?_eq_getElem (by omega)⟩;have em:=List.mem_of_getElem? ee;have eo:(es.map fun e=>V.ref e.R.o)[z2]? = some (.ref e.R.o):=by rw [List.getElem?_map,ee];rfl
  have eLq:(es.map fun e=>V.ref e.l)[z2]? = some (.ref e.l):=by rw [List.getElem?_map,ee];rfl
  obtain ⟨Ef0,_,_⟩:=hf.e e0 em0;refine ⟨_,rfl,_,rfl,_,_,_,_,rfl,rfl,aV.of hf.l,z0L,_,rfl,S,e0.l,hn,es,e0.ws,rfl,hf.s,fun e q=>(hf.e e q).1,Ef0.web,Ef0.ok,Ef0.wl,hh1,R8,fun Hg sg=>⟨_,rfl,dJ ?_⟩⟩;have hg:=hf.same sg;obtain ⟨Eg,_,_⟩:=hg.e e em;refine ⟨_,rfl,_,rfl,_,_,_,_,rfl,rfl,aV.of hg.s,aU eo,e.R.o,e.R.dx,_,rfl,Eg.rc.o,rfl,e.R,e.ws,hn,rfl,Eg.rc,hh1,R8,fun R' Hh rc' ffp Sd fo' sh=> ?_⟩;have hh:=hg.same sh;have Eh:=Eg.same sh;refine ⟨_,rfl,_,rfl,_,_,_,_,rfl,rfl,aV.of hh.l,aU eLq,_,rfl,R',e.l,e.ws,hn,rfl,rc',Eh.web,Eh.ok,hh1,R8,Eh.wl,fun Hi si=>⟨_,rfl,dJ ?_⟩⟩;have hi:=hh.same si;clear hh Eh Eg hg hf he Ef0 rc' ffp Sd fo';refine ⟨_,rfl,S,_,rfl,.inl (aV.of hi.s),_,rfl,by omega,by omega, ?_⟩;rw [show (((es.map fun e=>V.ref e.R.o).length:Nat):Int).toNat=es.length by omega];refine mW (lo:=0) (n:=es.length) (fun j σ Hc=>∃(x6 x7 x8:Option V) (n':Nat) (es':List En),σ=[some (.ref sa),some (.ref r),some (.int hn),some (.ref T),some (.ref S),some (.ref L),x6,x7,x8]/\RL ak Hc ⟨S,L,r,b,T,tw,hn⟩ tw.length n' es'/\n'<=n+2+j/\es'.length+j=es.length) ⟨_,_,_,n+1+1,es,rfl,hi,by omega,rfl⟩ ?_ ?_
  rotate_left
  ·rintro σ Hc ⟨x6,x7,x8,n',es',rfl,_⟩
   exact k Hc
  rintro j σ Hc hj ⟨x6,x7,x8,n',es',rfl,h,nb',le⟩;refine ⟨_,rfl,_,rfl,S,_,rfl,.inl (aV.of h.s), ?_⟩;rw [List.length_map];refine ⟨r,b,_,n',rfl,h.bag,by omega,by omega,by omega,fun y H1 y0 y1 B1 k1=> ?_⟩;obtain ⟨y,rfl⟩:=Int.eq_ofNat_of_zero_le y0;have h1:=h.draw k1 B1;obtain ⟨e,ee⟩:∃e,es'[y]? = some e:=⟨_,List.getElem?_eq_getElem (by omega)⟩;have em:=List.mem_of_getElem? ee;have nSL:S≠L:=(Fx.nds h.nd).1.1;refine ⟨_,rfl,.inl ⟨rfl,_,aV.of h1.s⟩,_,rfl,S,_,y,y,.ref e.R.o,rfl,rfl,h1.s,by omega,by omega,by rw [List.length_map,PySem.StrLaws.seqIndex_nonneg (by omega) (by omega),Int.toNat_natCast],by rw [List.getElem?_map,ee];rfl, ?_⟩;rw [vf];have k2:Kp S H1 (upd H1 S (.lst ((es'.eraseIdx y).map fun e=>V.ref e.R.o))):=Kp.set;have e2:(upd H1 S (.lst ((es'.eraseIdx y).map fun e=>V.ref e.R.o))) S=some (.lst ((es'.eraseIdx y).map fun e=>V.ref e.R.o)):=aq;generalize (upd H1 S (.lst ((es'.eraseIdx y).map fun e=>V.ref e.R.o)))=H2 at k2 e2 ⊢;have l2:=k2 _ _ h1.l nSL.symm;refine ⟨_,rfl,.inl ⟨rfl,_,aV.of l2⟩,_,rfl,L,_,y,y,.ref e.l,rfl,rfl,l2,by omega,by omega,by rw [List.length_map,PySem.StrLaws.seqIndex_nonneg (by omega) (by omega),Int.toNat_natCast],by rw [List.getElem?_map,ee];rfl, ?_⟩;rw [vf];have k3:Kp L H2 (upd H2 L (.lst ((es'.eraseIdx y).map fun e=>V.ref e.l))):=Kp.set;have e3:(upd H2 L (.lst ((es'.eraseIdx y).map fun e=>V.ref e.l))) L=some (.lst ((es'.eraseIdx y).map fun e=>V.ref e.l)):=aq;generalize (upd H2 L (.lst ((es'.eraseIdx y).map fun e=>V.ref e.l)))=H3 at k3 e3 ⊢;have kk:qU [S,L] H1 H3:=fun c u ec nc=>k3 _ _ (k2 _ _ ec (fun q=>nc (by rw [q];exact .head _))) (fun q=>nc (by rw [q];exact .tail _ (.head _)));have h3:=h1.next (H':=H3) kk (z6:=es'.eraseIdx y) (new:=[]) (List.eraseIdx_sublist _ _) List.Pairwise.nil (by rw [List.append_nil];exact k3 _ _ e2 nSL) (by rw [List.append_nil];exact e3) (fun e q=>by cases q);rw [List.append_nil] at h3;have E3:=(h1.e e em).1.vW kk (fun a q=>h1.all (by simp only [List.mem_cons,List.not_mem_nil,or_false] at q;rcases q with rfl|rfl<;>simp [Fx.all])) (fun a q w=>h1.o e em a w (by simp only [List.mem_cons,List.not_mem_nil,or_false] at q;rcases q with rfl|rfl<;>simp [Fx.all]));refine ⟨_,rfl,e.R,e.l,e.ws,hn,rfl,E3.rc,E3.web,E3.ok,hh1,R8,E3.wl,fun H4 s4=>⟨_,rfl,dJ ?_⟩⟩;refine ⟨_,_,_,n'+1,es'.eraseIdx y,rfl,h3.same s4,by omega, ?_⟩;rw [List.length_eraseIdx_of_lt (by omega)];omega
end
theorem len0 {us:List Value} (h:us.length=0):us=[]:=List.eq_nil_of_length_eq_zero h
theorem bG {us:List Value} {n:Nat} (h:us.length=n+1):∃a vs,us=a::vs/\vs.length=n:=by
 cases us with
 | nil=>cases h
 | cons a t=>exact ⟨a,t,rfl,Nat.succ.inj h⟩
theorem Vl (kV doc pm:Value) (an:Option Addr) (cdv ct:Value) (us:List Value) (hl:us.length=(["script"]:List Str).length):bindArgs (PySem.W.fnOf "_law_bag" "_law_bag" (aL nQ) (aK nQ) (aC nQ) .none kV doc pm an cdv ct) ⟨us,[]⟩=pure ((["script"]:List Str).zip us):=by obtain ⟨_,_,rfl,h1⟩:=bG hl;cases len0 h1;rfl
theorem Ro (kV doc pm:Value) (an:Option Addr) (cdv ct:Value) (us:List Value) (hl:us.length=(["number","place"]:List Str).length):bindArgs (PySem.W.fnOf "_law_stir" "_law_stir" (aL j5) (aK j5) (aC j5) .none kV doc pm an cdv ct) ⟨us,[]⟩=pure ((["number","place"]:List Str).zip us):=by obtain ⟨_,_,rfl,h1⟩:=bG hl;obtain ⟨_,_,rfl,h2⟩:=bG h1;cases len0 h2;rfl
theorem Rr (kV doc pm:Value) (an:Option Addr) (cdv ct:Value) (us:List Value) (hl:us.length=(["bag","many"]:List Str).length):bindArgs (PySem.W.fnOf "_law_draw" "_law_draw" (aL j8) (aK j8) (aC j8) .none kV doc pm an cdv ct) ⟨us,[]⟩=pure ((["bag","many"]:List Str).zip us):=by obtain ⟨_,_,rfl,h1⟩:=bG hl;obtain ⟨_,_,rfl,h2⟩:=bG h1;cases len0 h2;rfl
theorem M_ (kV doc pm:Value) (an:Option Addr) (cdv ct:Value) (us:List Value) (hl:us.length=(["bag"]:List Str).length):bindArgs (PySem.W.fnOf "_law_hands" "_law_hands" (aL iG) (aK iG) (aC iG) .none kV doc pm an cdv ct) ⟨us,[]⟩=pure ((["bag"]:List Str).zip us):=by obtain ⟨_,_,rfl,h1⟩:=bG hl;cases len0 h1;rfl
theorem M7 (kV doc pm:Value) (an:Option Addr) (cdv ct:Value) (us:List Value) (hl:us.length=(["bag","hands","cells","loads","apart"]:List Str).length):bindArgs (PySem.W.fnOf "_law_touch" "_law_touch" (aL iB) (aK iB) (aC iB) .none kV doc pm an cdv ct) ⟨us,[]⟩=pure ((["bag","hands","cells","loads","apart"]:List Str).zip us):=by obtain ⟨_,_,rfl,h1⟩:=bG hl;obtain ⟨_,_,rfl,h2⟩:=bG h1;obtain ⟨_,_,rfl,h3⟩:=bG h2;obtain ⟨_,_,rfl,h4⟩:=bG h3;obtain ⟨_,_,rfl,h5⟩:=bG h4;cases len0 h5;rfl
theorem Gj (kV doc pm:Value) (an:Option Addr) (cdv ct:Value) (us:List Value) (hl:us.length=(["bag","hands"]:List Str).length):bindArgs (PySem.W.fnOf "_law_touches" "_law_touches" (aL fM) (aK fM) (aC fM) .none kV doc pm an cdv ct) ⟨us,[]⟩=pure ((["bag","hands"]:List Str).zip us):=by obtain ⟨_,_,rfl,h1⟩:=bG hl;obtain ⟨_,_,rfl,h2⟩:=bG h1;cases len0 h2;rfl
theorem v9 (kV doc pm:Value) (an:Option Addr) (cdv ct:Value) (us:List Value) (hl:us.length=(["one","other"]:List Str).length):bindArgs (PySem.W.fnOf "touches_meet" "touches_meet" (aL cP) (aK cP) (aC cP) .none kV doc pm an cdv ct) ⟨us,[]⟩=pure ((["one","other"]:List Str).zip us):=by obtain ⟨_,_,rfl,h1⟩:=bG hl;obtain ⟨_,_,rfl,h2⟩:=bG h1;cases len0 h2;rfl
theorem Je (kV doc pm:Value) (an:Option Addr) (cdv ct:Value) (us:List Value) (hl:us.length=(["web","place","later"]:List Str).length):bindArgs (PySem.W.fnOf "is_step" "is_step" (aL gF) (aK gF) (aC gF) .none kV doc pm an cdv ct) ⟨us,[]⟩=pure ((["web","place","later"]:List Str).zip us):=by obtain ⟨_,_,rfl,h1⟩:=bG hl;obtain ⟨_,_,rfl,h2⟩:=bG h1;obtain ⟨_,_,rfl,h3⟩:=bG h2;cases len0 h3;rfl
theorem Gh (kV doc pm:Value) (an:Option Addr) (cdv ct:Value) (us:List Value) (hl:us.length=(["name","known"]:List Str).length):bindArgs (PySem.W.fnOf "is_known" "is_known" (aL fK) (aK fK) (aC fK) .none kV doc pm an cdv ct) ⟨us,[]⟩=pure ((["name","known"]:List Str).zip us):=by obtain ⟨_,_,rfl,h1⟩:=bG hl;obtain ⟨_,_,rfl,h2⟩:=bG h1;cases len0 h2;rfl
theorem Rk (kV doc pm:Value) (an:Option Addr) (cdv ct:Value) (us:List Value) (hl:us.length=(["known","more"]:List Str).length):bindArgs (PySem.W.fnOf "learn" "learn" (aL jY) (aK jY) (aC jY) .none kV doc pm an cdv ct) ⟨us,[]⟩=pure ((["known","more"]:List Str).zip us):=by obtain ⟨_,_,rfl,h1⟩:=bG hl;obtain ⟨_,_,rfl,h2⟩:=bG h1;cases len0 h2;rfl
theorem z9 (kV doc pm:Value) (an:Option Addr) (cdv ct:Value) (us:List Value) (hl:us.length=(["web","named","knowns","place"]:List Str).length):bindArgs (PySem.W.fnOf "bare_steps" "bare_steps" (aL dR) (aK dR) (aC dR) .none kV doc pm an cdv ct) ⟨us,[]⟩=pure ((["web","named","knowns","place"]:List Str).zip us):=by obtain ⟨_,_,rfl,h1⟩:=bG hl;obtain ⟨_,_,rfl,h2⟩:=bG h1;obtain ⟨_,_,rfl,h3⟩:=bG h2;obtain ⟨_,_,rfl,h4⟩:=bG h3;cases len0 h4;rfl
theorem Gf (kV doc pm:Value) (an:Option Addr) (cdv ct:Value) (us:List Value) (hl:us.length=(["named","bare","name"]:List Str).length):bindArgs (PySem.W.fnOf "notes_to" "notes_to" (aL fH) (aK fH) (aC fH) .none kV doc pm an cdv ct) ⟨us,[]⟩=pure ((["named","bare","name"]:List Str).zip us):=by obtain ⟨_,_,rfl,h1⟩:=bG hl;obtain ⟨_,_,rfl,h2⟩:=bG h1;obtain ⟨_,_,rfl,h3⟩:=bG h2;cases len0 h3;rfl
theorem M8 (kV doc pm:Value) (an:Option Addr) (cdv ct:Value) (us:List Value) (hl:us.length=(["touches","hands"]:List Str).length):bindArgs (PySem.W.fnOf "_law_table" "_law_table" (aL iC) (aK iC) (aC iC) .none kV doc pm an cdv ct) ⟨us,[]⟩=pure ((["touches","hands"]:List Str).zip us):=by obtain ⟨_,_,rfl,h1⟩:=bG hl;obtain ⟨_,_,rfl,h2⟩:=bG h1;cases len0 h2;rfl
theorem Gg (kV doc pm:Value) (an:Option Addr) (cdv ct:Value) (us:List Value) (hl:us.length=(["value"]:List Str).length):bindArgs (PySem.W.fnOf "is_whole" "is_whole" (aL fJ) (aK fJ) (aC fJ) .none kV doc pm an cdv ct) ⟨us,[]⟩=pure ((["value"]:List Str).zip us):=by obtain ⟨_,_,rfl,h1⟩:=bG hl;cases len0 h1;rfl
theorem Gi (kV doc pm:Value) (an:Option Addr) (cdv ct:Value) (us:List Value) (hl:us.length=(["value","count"]:List Str).length):bindArgs (PySem.W.fnOf "is_below" "is_below" (aL fL) (aK fL) (aC fL) .none kV doc pm an cdv ct) ⟨us,[]⟩=pure ((["value","count"]:List Str).zip us):=by obtain ⟨_,_,rfl,h1⟩:=bG hl;obtain ⟨_,_,rfl,h2⟩:=bG h1;cases len0 h2;rfl
theorem Jf (kV doc pm:Value) (an:Option Addr) (cdv ct:Value) (us:List Value) (hl:us.length=(["row"]:List Str).length):bindArgs (PySem.W.fnOf "cell_of" "cell_of" (aL gG) (aK gG) (aC gG) .none kV doc pm an cdv ct) ⟨us,[]⟩=pure ((["row"]:List Str).zip us):=by obtain ⟨_,_,rfl,h1⟩:=bG hl;cases len0 h1;rfl
theorem Jg (kV doc pm:Value) (an:Option Addr) (cdv ct:Value) (us:List Value) (hl:us.length=(["self","row"]:List Str).length):bindArgs (PySem.W.fnOf "do" "Hand.do" (aL gH) (aK gH) (aC gH) .none kV doc pm an cdv ct) ⟨us,[]⟩=pure ((["self","row"]:List Str).zip us):=by obtain ⟨_,_,rfl,h1⟩:=bG hl;obtain ⟨_,_,rfl,h2⟩:=bG h1;cases len0 h2;rfl
theorem CZ (kV doc pm:Value) (an:Option Addr) (cdv ct:Value) (us:List Value) (hl:us.length=(["self","rows"]:List Str).length):bindArgs (PySem.W.fnOf "__init__" "Hand.__init__" (aL eU) (aK eU) (aC eU) .none kV doc pm an cdv ct) ⟨us,[]⟩=pure ((["self","rows"]:List Str).zip us):=by obtain ⟨_,_,rfl,h1⟩:=bG hl;obtain ⟨_,_,rfl,h2⟩:=bG h1;cases len0 h2;rfl
theorem wj (kV doc pm:Value) (an:Option Addr) (cdv ct:Value) (us:List Value) (hl:us.length=(["self"]:List Str).length):bindArgs (PySem.W.fnOf "lead_on" "Hand.lead_on" (aL cR) (aK cR) (aC cR) .none kV doc pm an cdv ct) ⟨us,[]⟩=pure ((["self"]:List Str).zip us):=by obtain ⟨_,_,rfl,h1⟩:=bG hl;cases len0 h1;rfl
theorem vo (kV doc pm:Value) (an:Option Addr) (cdv ct:Value) (us:List Value) (hl:us.length=(["cells","count"]:List Str).length):bindArgs (PySem.W.fnOf "check_numbers" "check_numbers" (aL cD) (aK cD) (aC cD) .none kV doc pm an cdv ct) ⟨us,[]⟩=pure ((["cells","count"]:List Str).zip us):=by obtain ⟨_,_,rfl,h1⟩:=bG hl;obtain ⟨_,_,rfl,h2⟩:=bG h1;cases len0 h2;rfl
theorem zx {K:PySem.W.Frag} {T:Addr} {tc:Value} {td:Option Addr} {tn:Nat} {Zh:Array (Option Value)} (d:K.lookup T=some ⟨tc,td,.seq #[.none] tn,Zh⟩) {kV doc pm:Value} {an:Option Addr} {cdv ct:Value}:Binds K (PySem.W.fnOf "__init__" "Works.__init__" (aL cF) (aK cF) (aC cF) (.ref T) kV doc pm an cdv ct) ["self","program","cells"] []:=by
 intro s us KX hl;have hl:us.length=3:=by simpa using hl
 obtain ⟨_,_,rfl,h1⟩:=bG hl;obtain ⟨_,_,rfl,h2⟩:=bG h1;obtain ⟨_,_,rfl,h3⟩:=bG h2;cases len0 h3;exact PySem.W.binds_K KX rfl d rfl rfl rfl
theorem zu {K:PySem.W.Frag} {T:Addr} {tc:Value} {td:Option Addr} {tn:Nat} {Zh:Array (Option Value)} (d:K.lookup T=some ⟨tc,td,.seq #[.none] tn,Zh⟩) {kV doc pm:Value} {an:Option Addr} {cdv ct:Value}:Binds K (PySem.W.fnOf "__init__" "Works.__init__" (aL cF) (aK cF) (aC cF) (.ref T) kV doc pm an cdv ct) ["self","program","cells"] [.none]:=by
 intro s us KX hl;have hl:us.length=2:=by simpa using hl
 obtain ⟨_,_,rfl,h1⟩:=bG hl;obtain ⟨_,_,rfl,h2⟩:=bG h1;cases len0 h2;exact PySem.W.binds_K KX rfl d rfl rfl rfl
theorem z8 (kV doc pm:Value) (an:Option Addr) (cdv ct:Value) (us:List Value) (hl:us.length=(["places","hand"]:List Str).length):bindArgs (PySem.W.fnOf "check_hand" "check_hand" (aL dO) (aK dO) (aC dO) .none kV doc pm an cdv ct) ⟨us,[]⟩=pure ((["places","hand"]:List Str).zip us):=by obtain ⟨_,_,rfl,h1⟩:=bG hl;obtain ⟨_,_,rfl,h2⟩:=bG h1;cases len0 h2;rfl
theorem vq (kV doc pm:Value) (an:Option Addr) (cdv ct:Value) (us:List Value) (hl:us.length=(["self","hands"]:List Str).length):bindArgs (PySem.W.fnOf "__init__" "Recorder.__init__" (aL cH) (aK cH) (aC cH) .none kV doc pm an cdv ct) ⟨us,[]⟩=pure ((["self","hands"]:List Str).zip us):=by obtain ⟨_,_,rfl,h1⟩:=bG hl;obtain ⟨_,_,rfl,h2⟩:=bG h1;cases len0 h2;rfl
theorem wg (kV doc pm:Value) (an:Option Addr) (cdv ct:Value) (us:List Value) (hl:us.length=(["self","hand","kind","cell"]:List Str).length):bindArgs (PySem.W.fnOf "did" "Recorder.did" (aL cQ) (aK cQ) (aC cQ) .none kV doc pm an cdv ct) ⟨us,[]⟩=pure ((["self","hand","kind","cell"]:List Str).zip us):=by obtain ⟨_,_,rfl,h1⟩:=bG hl;obtain ⟨_,_,rfl,h2⟩:=bG h1;obtain ⟨_,_,rfl,h3⟩:=bG h2;obtain ⟨_,_,rfl,h4⟩:=bG h3;cases len0 h4;rfl
theorem uc (kV doc pm:Value) (an:Option Addr) (cdv ct:Value) (us:List Value) (hl:us.length=(["self"]:List Str).length):bindArgs (PySem.W.fnOf "notes" "Recorder.notes" (aL bZ) (aK bZ) (aC bZ) .none kV doc pm an cdv ct) ⟨us,[]⟩=pure ((["self"]:List Str).zip us):=by obtain ⟨_,_,rfl,h1⟩:=bG hl;cases len0 h1;rfl
theorem ud (kV doc pm:Value) (an:Option Addr) (cdv ct:Value) (us:List Value) (hl:us.length=(["self","hand"]:List Str).length):bindArgs (PySem.W.fnOf "known" "Recorder.known" (aL b_) (aK b_) (aC b_) .none kV doc pm an cdv ct) ⟨us,[]⟩=pure ((["self","hand"]:List Str).zip us):=by obtain ⟨_,_,rfl,h1⟩:=bG hl;obtain ⟨_,_,rfl,h2⟩:=bG h1;cases len0 h2;rfl
theorem rP (kV doc pm:Value) (an:Option Addr) (cdv ct:Value) (us:List Value) (hl:us.length=(["self"]:List Str).length):bindArgs (PySem.W.fnOf "counts" "Recorder.counts" (aL bT) (aK bT) (aC bT) .none kV doc pm an cdv ct) ⟨us,[]⟩=pure ((["self"]:List Str).zip us):=by obtain ⟨_,_,rfl,h1⟩:=bG hl;cases len0 h1;rfl
theorem qM (kV doc pm:Value) (an:Option Addr) (cdv ct:Value) (us:List Value) (hl:us.length=(["self"]:List Str).length):bindArgs (PySem.W.fnOf "__len__" "Recorder.__len__" (aL bQ) (aK bQ) (aC bQ) .none kV doc pm an cdv ct) ⟨us,[]⟩=pure ((["self"]:List Str).zip us):=by obtain ⟨_,_,rfl,h1⟩:=bG hl;cases len0 h1;rfl
theorem z7 (kV doc pm:Value) (an:Option Addr) (cdv ct:Value) (us:List Value) (hl:us.length=(["touch"]:List Str).length):bindArgs (PySem.W.fnOf "touch_text" "touch_text" (aL dN) (aK dN) (aC dN) .none kV doc pm an cdv ct) ⟨us,[]⟩=pure ((["touch"]:List Str).zip us):=by obtain ⟨_,_,rfl,h1⟩:=bG hl;cases len0 h1;rfl
theorem CV (kV doc pm:Value) (an:Option Addr) (cdv ct:Value) (us:List Value) (hl:us.length=(["note"]:List Str).length):bindArgs (PySem.W.fnOf "note_text" "note_text" (aL eO) (aK eO) (aC eO) .none kV doc pm an cdv ct) ⟨us,[]⟩=pure ((["note"]:List Str).zip us):=by obtain ⟨_,_,rfl,h1⟩:=bG hl;cases len0 h1;rfl
theorem zq (kV doc pm:Value) (an:Option Addr) (cdv ct:Value) (us:List Value) (hl:us.length=(["record"]:List Str).length):bindArgs (PySem.W.fnOf "record_text" "record_text" (aL dB) (aK dB) (aC dB) .none kV doc pm an cdv ct) ⟨us,[]⟩=pure ((["record"]:List Str).zip us):=by obtain ⟨_,_,rfl,h1⟩:=bG hl;cases len0 h1;rfl
theorem qL (kV doc pm:Value) (an:Option Addr) (cdv ct:Value) (us:List Value) (hl:us.length=(["self"]:List Str).length):bindArgs (PySem.W.fnOf "__str__" "Recorder.__str__" (aL bO) (aK bO) (aC bO) .none kV doc pm an cdv ct) ⟨us,[]⟩=pure ((["self"]:List Str).zip us):=by obtain ⟨_,_,rfl,h1⟩:=bG hl;cases len0 h1;rfl
theorem vp (kV doc pm:Value) (an:Option Addr) (cdv ct:Value) (us:List Value) (hl:us.length=(["self"]:List Str).length):bindArgs (PySem.W.fnOf "twin" "Recorder.twin" (aL cG) (aK cG) (aC cG) .none kV doc pm an cdv ct) ⟨us,[]⟩=pure ((["self"]:List Str).zip us):=by obtain ⟨_,_,rfl,h1⟩:=bG hl;cases len0 h1;rfl
theorem rQ (kV doc pm:Value) (an:Option Addr) (cdv ct:Value) (us:List Value) (hl:us.length=(["self","other"]:List Str).length):bindArgs (PySem.W.fnOf "__eq__" "Recorder.__eq__" (aL bU) (aK bU) (aC bU) .none kV doc pm an cdv ct) ⟨us,[]⟩=pure ((["self","other"]:List Str).zip us):=by obtain ⟨_,_,rfl,h1⟩:=bG hl;obtain ⟨_,_,rfl,h2⟩:=bG h1;cases len0 h2;rfl
theorem kJ (kV doc pm:Value) (an:Option Addr) (cdv ct:Value) (us:List Value) (hl:us.length=(["found","due"]:List Str).length):bindArgs (PySem.W.fnOf "_law_alike" "_law_alike" (aL gP) (aK gP) (aC gP) .none kV doc pm an cdv ct) ⟨us,[]⟩=pure ((["found","due"]:List Str).zip us):=by obtain ⟨_,_,rfl,h1⟩:=bG hl;obtain ⟨_,_,rfl,h2⟩:=bG h1;cases len0 h2;rfl
theorem Rq (kV doc pm:Value) (an:Option Addr) (cdv ct:Value) (us:List Value) (hl:us.length=(["lists"]:List Str).length):bindArgs (PySem.W.fnOf "_law_flat" "_law_flat" (aL j7) (aK j7) (aC j7) .none kV doc pm an cdv ct) ⟨us,[]⟩=pure ((["lists"]:List Str).zip us):=by obtain ⟨_,_,rfl,h1⟩:=bG hl;cases len0 h1;rfl
theorem Rn (kV doc pm:Value) (an:Option Addr) (cdv ct:Value) (us:List Value) (hl:us.length=(["ties","counts"]:List Str).length):bindArgs (PySem.W.fnOf "_law_text" "_law_text" (aL j4) (aK j4) (aC j4) .none kV doc pm an cdv ct) ⟨us,[]⟩=pure ((["ties","counts"]:List Str).zip us):=by obtain ⟨_,_,rfl,h1⟩:=bG hl;obtain ⟨_,_,rfl,h2⟩:=bG h1;cases len0 h2;rfl
theorem M9 (kV doc pm:Value) (an:Option Addr) (cdv ct:Value) (us:List Value) (hl:us.length=(["touches","hands"]:List Str).length):bindArgs (PySem.W.fnOf "_law_shape" "_law_shape" (aL iD) (aK iD) (aC iD) .none kV doc pm an cdv ct) ⟨us,[]⟩=pure ((["touches","hands"]:List Str).zip us):=by obtain ⟨_,_,rfl,h1⟩:=bG hl;obtain ⟨_,_,rfl,h2⟩:=bG h1;cases len0 h2;rfl
theorem Y4 (kV doc pm:Value) (an:Option Addr) (cdv ct:Value) (us:List Value) (hl:us.length=(["recorder","touches","hands"]:List Str).length):bindArgs (PySem.W.fnOf "_law_so" "_law_so" (aL tu) (aK tu) (aC tu) .none kV doc pm an cdv ct) ⟨us,[]⟩=pure ((["recorder","touches","hands"]:List Str).zip us):=by obtain ⟨_,_,rfl,h1⟩:=bG hl;obtain ⟨_,_,rfl,h2⟩:=bG h1;obtain ⟨_,_,rfl,h3⟩:=bG h2;cases len0 h3;rfl
theorem Nb (kV doc pm:Value) (an:Option Addr) (cdv ct:Value) (us:List Value) (hl:us.length=(["some","lists","hands"]:List Str).length):bindArgs (PySem.W.fnOf "_law_equal" "_law_equal" (aL iH) (aK iH) (aC iH) .none kV doc pm an cdv ct) ⟨us,[]⟩=pure ((["some","lists","hands"]:List Str).zip us):=by obtain ⟨_,_,rfl,h1⟩:=bG hl;obtain ⟨_,_,rfl,h2⟩:=bG h1;obtain ⟨_,_,rfl,h3⟩:=bG h2;cases len0 h3;rfl
theorem Nf (kV doc pm:Value) (an:Option Addr) (cdv ct:Value) (us:List Value) (hl:us.length=(["hands","touches"]:List Str).length):bindArgs (PySem.W.fnOf "_law_begun" "_law_begun" (aL iI) (aK iI) (aC iI) .none kV doc pm an cdv ct) ⟨us,[]⟩=pure ((["hands","touches"]:List Str).zip us):=by obtain ⟨_,_,rfl,h1⟩:=bG hl;obtain ⟨_,_,rfl,h2⟩:=bG h1;cases len0 h2;rfl
theorem M6 (kV doc pm:Value) (an:Option Addr) (cdv ct:Value) (us:List Value) (hl:us.length=(["some","touches","hands"]:List Str).length):bindArgs (PySem.W.fnOf "_law_wider" "_law_wider" (aL iz) (aK iz) (aC iz) .none kV doc pm an cdv ct) ⟨us,[]⟩=pure ((["some","touches","hands"]:List Str).zip us):=by obtain ⟨_,_,rfl,h1⟩:=bG hl;obtain ⟨_,_,rfl,h2⟩:=bG h1;obtain ⟨_,_,rfl,h3⟩:=bG h2;cases len0 h3;rfl
theorem Rm (kV doc pm:Value) (an:Option Addr) (cdv ct:Value) (us:List Value) (hl:us.length=(["bag","some","lists"]:List Str).length):bindArgs (PySem.W.fnOf "_law_twin" "_law_twin" (aL jZ) (aK jZ) (aC jZ) .none kV doc pm an cdv ct) ⟨us,[]⟩=pure ((["bag","some","lists"]:List Str).zip us):=by obtain ⟨_,_,rfl,h1⟩:=bG hl;obtain ⟨_,_,rfl,h2⟩:=bG h1;obtain ⟨_,_,rfl,h3⟩:=bG h2;cases len0 h3;rfl
theorem Rp (kV doc pm:Value) (an:Option Addr) (cdv ct:Value) (us:List Value) (hl:us.length=(["bag","some","lists","hands","told"]:List Str).length):bindArgs (PySem.W.fnOf "_law_step" "_law_step" (aL j6) (aK j6) (aC j6) .none kV doc pm an cdv ct) ⟨us,[]⟩=pure ((["bag","some","lists","hands","told"]:List Str).zip us):=by obtain ⟨_,_,rfl,h1⟩:=bG hl;obtain ⟨_,_,rfl,h2⟩:=bG h1;obtain ⟨_,_,rfl,h3⟩:=bG h2;obtain ⟨_,_,rfl,h4⟩:=bG h3;obtain ⟨_,_,rfl,h5⟩:=bG h4;cases len0 h5;rfl
theorem all_mk {l:PySem.W.OpenLaw} {w:World} {K:PySem.W.Frag} {h:Heap} {mg:Str->Option Value} {fa f0 f1 f2 f3 f4 f5 f6 f7 f8 f9 f10 f11 f12 f13 f14 f15 f16 f17 f18 f19 YD f21 f22 f23 f24 f25 f26 f27 f28 f29 f30 f31 f32 f33 U9 f35 f36 f37 f38 f39 f40 f41 f42 f43 f44 ak bH aR:Addr} (X:K.In h) (G:h.Ns mainGlobals mg) (hfa:mg "law" = some (.ref fa))
 {od0 an0 od1 an1 od2 an2 od3 an3 od4 an4 od5 an5 od6 an6 od7 an7 od8 an8 od9 an9 af7 akW af6 akV af5 akU af4 akT af3 akS af2 akR af0 akQ afZ akP afY akO afX akN afW akM afV akL afU akK afT akJ afS akI afR akH afQ akG afP akF afO akE afN akD afM akC afL akB afK akA afJ akz afI aky afH akx afG akv afF aku afE akt afD aks afC akr afB akq afA akp afz ako afy abU:Option Addr} {sl0 sl1 sl2 sl3 sl4 sl5 sl6 sl7 sl8 sl9 aeD aeC aeB aeA aez aey aex aew aev aeu aes aer aep aeo aen aem ael aek aej aei aeh aeg aef aee aed aec aeb aea ad' ad_ ad9 ad8 ad7 ad6 ad5:Array (Option Value)} {oc0 kV0 dc0 pm0 cd0 ct0 oc1 kV1 dc1 pm1 cd1 ct1 oc2 kV2 dc2 pm2 cd2 ct2 oc3 kV3 dc3 pm3 cd3 ct3 oc4 kV4 dc4 pm4 cd4 ct4 oc5 kV5 dc5 pm5 cd5 ct5 oc6 kV6 dc6 pm6 cd6 ct6 oc7 kV7 dc7 pm7 cd7 ct7 oc8 kV8 dc8 pm8 cd8 ct8 oc9 kV9 dc9 pm9 cd9 ct9 agF ah3 ajh afs abS ajP agE ah2 ajg afr abR ajO agD ah1 ajf afq abQ ajN agC ah0 aje afp abP ajM agB ahZ ajd afo abO ajL agA ahY ajc afn abN ajK agz ahX ajb afm abM ajJ agy ahW aja afl abL ajI agx ahV ai' afk abK ajH agw ahU ai_ afj abJ ajG agv ahT ai9 afi abI ajF agu ahS ai8 afh abH ajE agt ahR ai7 afg abG ajD ags ahQ ai6 afe abF ajC agr ahP ai5 afd abE ajB agq ahO ai4 afc abD ajA agp ahN ai3 afb abC ajz ago ahM ai2 afa abB ajy agn ahL ai1 ae' abA ajx agm ahK ai0 ae_ abz ajw agl ahJ aiZ ae9 aby ajv agk ahI aiY ae8 abx aju agj ahH aiX ae7 abw ajt agi ahG aiW ae6 abv ajs agh ahF aiV ae5 abu ajr agg ahE aiU ae4 abt ajq agf ahD aiT ae3 abr ajp agd ahC aiS ae2 abq ajo agc ahB aiR ae1 abp ajn agb ahA aiQ ae0 abo ajm aga ahz aiP aeZ abn ajl af' ahy aiO aeY abm ajk af_ ahx aiN aeX abl ajj af9 ahw aiM aeW abk aji af8 aaC abb aai YZ abg:Value}
 (a0:PySem.W.nsIn K mainGlobals "_law_bag" = some (some (.ref f0))) (l0:K.lookup f0=some ⟨oc0,od0,.func (PySem.W.fnOf "_law_bag" "_law_bag" (aL nQ) (aK nQ) (aC nQ) .none kV0 dc0 pm0 an0 cd0 ct0),sl0⟩) (c0:PySem.W.codeIn K cd0 "_law_bag" = true) (k0:PySem.W.keepIn K (.ref f0)=true)
 (a1:PySem.W.nsIn K mainGlobals "_law_stir" = some (some (.ref f1))) (l1:K.lookup f1=some ⟨oc1,od1,.func (PySem.W.fnOf "_law_stir" "_law_stir" (aL j5) (aK j5) (aC j5) .none kV1 dc1 pm1 an1 cd1 ct1),sl1⟩) (c1:PySem.W.codeIn K cd1 "_law_stir" = true) (k1:PySem.W.keepIn K (.ref f1)=true)
 (a2:PySem.W.nsIn K mainGlobals "_law_draw" = some (some (.ref f2))) (l2:K.lookup f2=some ⟨oc2,od2,.func (PySem.W.fnOf "_law_draw" "_law_draw" (aL j8) (aK j8) (aC j8) .none kV2 dc2 pm2 an2 cd2 ct2),sl2⟩) (c2:PySem.W.codeIn K cd2 "_law_draw" = true) (k2:PySem.W.keepIn K (.ref f2)=true)
 (a3:PySem.W.nsIn K mainGlobals "_law_hands" = some (some (.ref f3))) (l3:K.lookup f3=some ⟨oc3,od3,.func (PySem.W.fnOf "_law_hands" "_law_hands" (aL iG) (aK iG) (aC iG) .none kV3 dc3 pm3 an3 cd3 ct3),sl3⟩) (c3:PySem.W.codeIn K cd3 "_law_hands" = true) (k3:PySem.W.keepIn K (.ref f3)=true)
 (a4:PySem.W.nsIn K mainGlobals "_law_touch" = some (some (.ref f4))) (l4:K.lookup f4=some ⟨oc4,od4,.func (PySem.W.fnOf "_law_touch" "_law_touch" (aL iB) (aK iB) (aC iB) .none kV4 dc4 pm4 an4 cd4 ct4),sl4⟩) (c4:PySem.W.codeIn K cd4 "_law_touch" = true) (k4:PySem.W.keepIn K (.ref f4)=true)
 (a5:PySem.W.nsIn K mainGlobals "_law_touches" = some (some (.ref f5))) (l5:K.lookup f5=some ⟨oc5,od5,.func (PySem.W.fnOf "_law_touches" "_law_touches" (aL fM) (aK fM) (aC fM) .none kV5 dc5 pm5 an5 cd5 ct5),sl5⟩) (c5:PySem.W.codeIn K cd5 "_law_touches" = true) (k5:PySem.W.keepIn K (.ref f5)=true)
 (a6:PySem.W.nsIn K mainGlobals "touches_meet" = some (some (.ref f6))) (l6:K.lookup f6=some ⟨oc6,od6,.func (PySem.W.fnOf "touches_meet" "touches_meet" (aL cP) (aK cP) (aC cP) .none kV6 dc6 pm6 an6 cd6 ct6),sl6⟩) (c6:PySem.W.codeIn K cd6 "touches_meet" = true) (k6:PySem.W.keepIn K (.ref f6)=true)
 (a7:PySem.W.nsIn K mainGlobals "is_step" = some (some (.ref f7))) (l7:K.lookup f7=some ⟨oc7,od7,.func (PySem.W.fnOf "is_step" "is_step" (aL gF) (aK gF) (aC gF) .none kV7 dc7 pm7 an7 cd7 ct7),sl7⟩) (c7:PySem.W.codeIn K cd7 "is_step" = true) (k7:PySem.W.keepIn K (.ref f7)=true)
 (a8:PySem.W.nsIn K mainGlobals "is_known" = some (some (.ref f8))) (l8:K.lookup f8=some ⟨oc8,od8,.func (PySem.W.fnOf "is_known" "is_known" (aL fK) (aK fK) (aC fK) .none kV8 dc8 pm8 an8 cd8 ct8),sl8⟩) (c8:PySem.W.codeIn K cd8 "is_known" = true) (k8:PySem.W.keepIn K (.ref f8)=true)
 (a9:PySem.W.nsIn K mainGlobals "learn" = some (some (.ref f9))) (l9:K.lookup f9=some ⟨oc9,od9,.func (PySem.W.fnOf "learn" "learn" (aL jY) (aK jY) (aC jY) .none kV9 dc9 pm9 an9 cd9 ct9),sl9⟩) (c9:PySem.W.codeIn K cd9 "learn" = true) (k9:PySem.W.keepIn K (.ref f9)=true)
 (a10:PySem.W.nsIn K mainGlobals "bare_steps" = some (some (.ref f10))) (l10:K.lookup f10=some ⟨agF,af7,.func (PySem.W.fnOf "bare_steps" "bare_steps" (aL dR) (aK dR) (aC dR) .none ah3 ajh afs akW abS ajP),aeD⟩) (c10:PySem.W.codeIn K abS "bare_steps" = true) (k10:PySem.W.keepIn K (.ref f10)=true)
 (a11:PySem.W.nsIn K mainGlobals "notes_to" = some (some (.ref f11))) (l11:K.lookup f11=some ⟨agE,af6,.func (PySem.W.fnOf "notes_to" "notes_to" (aL fH) (aK fH) (aC fH) .none ah2 ajg afr akV abR ajO),aeC⟩) (c11:PySem.W.codeIn K abR "notes_to" = true) (k11:PySem.W.keepIn K (.ref f11)=true)
 (a12:PySem.W.nsIn K mainGlobals "_law_table" = some (some (.ref f12))) (l12:K.lookup f12=some ⟨agD,af5,.func (PySem.W.fnOf "_law_table" "_law_table" (aL iC) (aK iC) (aC iC) .none ah1 ajf afq akU abQ ajN),aeB⟩) (c12:PySem.W.codeIn K abQ "_law_table" = true) (k12:PySem.W.keepIn K (.ref f12)=true)
 (a13:PySem.W.nsIn K mainGlobals "is_whole" = some (some (.ref f13))) (l13:K.lookup f13=some ⟨agC,af4,.func (PySem.W.fnOf "is_whole" "is_whole" (aL fJ) (aK fJ) (aC fJ) .none ah0 aje afp akT abP ajM),aeA⟩) (c13:PySem.W.codeIn K abP "is_whole" = true) (k13:PySem.W.keepIn K (.ref f13)=true)
 (a14:PySem.W.nsIn K mainGlobals "is_below" = some (some (.ref f14))) (l14:K.lookup f14=some ⟨agB,af3,.func (PySem.W.fnOf "is_below" "is_below" (aL fL) (aK fL) (aC fL) .none ahZ ajd afo akS abO ajL),aez⟩) (c14:PySem.W.codeIn K abO "is_below" = true) (k14:PySem.W.keepIn K (.ref f14)=true)
 (a15:PySem.W.nsIn K mainGlobals "cell_of" = some (some (.ref f15))) (l15:K.lookup f15=some ⟨agA,af2,.func (PySem.W.fnOf "cell_of" "cell_of" (aL gG) (aK gG) (aC gG) .none ahY ajc afn akR abN ajK),aey⟩) (c15:PySem.W.codeIn K abN "cell_of" = true) (k15:PySem.W.keepIn K (.ref f15)=true)
 (a16:PySem.W.findIn K (.ref bH) "do" = some (some (.ref f16))) (l16:K.lookup f16=some ⟨agz,af0,.func (PySem.W.fnOf "do" "Hand.do" (aL gH) (aK gH) (aC gH) .none ahX ajb afm akQ abM ajJ),aex⟩) (c16:PySem.W.codeIn K abM "Hand.do" = true) (k16:PySem.W.keepIn K (.ref f16)=true) (n16:PySem.W.isFn K (.ref f16)=true)
 (a17:PySem.W.findIn K (.ref bH) "__init__" = some (some (.ref f17))) (l17:K.lookup f17=some ⟨agy,afZ,.func (PySem.W.fnOf "__init__" "Hand.__init__" (aL eU) (aK eU) (aC eU) .none ahW aja afl akP abL ajI),aew⟩) (c17:PySem.W.codeIn K abL "Hand.__init__" = true) (k17:PySem.W.keepIn K (.ref f17)=true) (n17:PySem.W.isFn K (.ref f17)=true)
 (a18:PySem.W.findIn K (.ref bH) "lead_on" = some (some (.ref f18))) (l18:K.lookup f18=some ⟨agx,afY,.func (PySem.W.fnOf "lead_on" "Hand.lead_on" (aL cR) (aK cR) (aC cR) .none ahV ai' afk akO abK ajH),aev⟩) (c18:PySem.W.codeIn K abK "Hand.lead_on" = true) (k18:PySem.W.keepIn K (.ref f18)=true) (n18:PySem.W.isFn K (.ref f18)=true)
 (a19:PySem.W.nsIn K mainGlobals "check_numbers" = some (some (.ref f19))) (l19:K.lookup f19=some ⟨agw,afX,.func (PySem.W.fnOf "check_numbers" "check_numbers" (aL cD) (aK cD) (aC cD) .none ahU ai_ afj akN abJ ajG),aeu⟩) (c19:PySem.W.codeIn K abJ "check_numbers" = true) (k19:PySem.W.keepIn K (.ref f19)=true)
 {T20:Addr} {adT:Value} {adS:Option Addr} {adQ:Nat} {ZG:Array (Option Value)} (a20:PySem.W.findIn K (.ref aR) "__init__" = some (some (.ref YD))) (l20:K.lookup YD=some ⟨agv,afW,.func (PySem.W.fnOf "__init__" "Works.__init__" (aL cF) (aK cF) (aC cF) (.ref T20) ahT ai9 afi akM abI ajF),aes⟩) (c20:PySem.W.codeIn K abI "Works.__init__" = true) (k20:PySem.W.keepIn K (.ref YD)=true) (n20:PySem.W.isFn K (.ref YD)=true) (d20:K.lookup T20=some ⟨adT,adS,.seq #[.none] adQ,ZG⟩)
 (a21:PySem.W.nsIn K mainGlobals "check_hand" = some (some (.ref f21))) (l21:K.lookup f21=some ⟨agu,afV,.func (PySem.W.fnOf "check_hand" "check_hand" (aL dO) (aK dO) (aC dO) .none ahS ai8 afh akL abH ajE),aer⟩) (c21:PySem.W.codeIn K abH "check_hand" = true) (k21:PySem.W.keepIn K (.ref f21)=true)
 (a22:PySem.W.findIn K (.ref ak) "__init__" = some (some (.ref f22))) (l22:K.lookup f22=some ⟨agt,afU,.func (PySem.W.fnOf "__init__" "Recorder.__init__" (aL cH) (aK cH) (aC cH) .none ahR ai7 afg akK abG ajD),aep⟩) (c22:PySem.W.codeIn K abG "Recorder.__init__" = true) (k22:PySem.W.keepIn K (.ref f22)=true) (n22:PySem.W.isFn K (.ref f22)=true)
 (a23:PySem.W.findIn K (.ref ak) "did" = some (some (.ref f23))) (l23:K.lookup f23=some ⟨ags,afT,.func (PySem.W.fnOf "did" "Recorder.did" (aL cQ) (aK cQ) (aC cQ) .none ahQ ai6 afe akJ abF ajC),aeo⟩) (c23:PySem.W.codeIn K abF "Recorder.did" = true) (k23:PySem.W.keepIn K (.ref f23)=true) (n23:PySem.W.isFn K (.ref f23)=true)
 (a24:PySem.W.findIn K (.ref ak) "notes" = some (some (.ref f24))) (l24:K.lookup f24=some ⟨agr,afS,.func (PySem.W.fnOf "notes" "Recorder.notes" (aL bZ) (aK bZ) (aC bZ) .none ahP ai5 afd akI abE ajB),aen⟩) (c24:PySem.W.codeIn K abE "Recorder.notes" = true) (k24:PySem.W.keepIn K (.ref f24)=true) (n24:PySem.W.isFn K (.ref f24)=true)
 (a25:PySem.W.findIn K (.ref ak) "known" = some (some (.ref f25))) (l25:K.lookup f25=some ⟨agq,afR,.func (PySem.W.fnOf "known" "Recorder.known" (aL b_) (aK b_) (aC b_) .none ahO ai4 afc akH abD ajA),aem⟩) (c25:PySem.W.codeIn K abD "Recorder.known" = true) (k25:PySem.W.keepIn K (.ref f25)=true) (n25:PySem.W.isFn K (.ref f25)=true)
 (a26:PySem.W.findIn K (.ref ak) "counts" = some (some (.ref f26))) (l26:K.lookup f26=some ⟨agp,afQ,.func (PySem.W.fnOf "counts" "Recorder.counts" (aL bT) (aK bT) (aC bT) .none ahN ai3 afb akG abC ajz),ael⟩) (c26:PySem.W.codeIn K abC "Recorder.counts" = true) (k26:PySem.W.keepIn K (.ref f26)=true) (n26:PySem.W.isFn K (.ref f26)=true)
 (a27:PySem.W.findIn K (.ref ak) "__len__" = some (some (.ref f27))) (l27:K.lookup f27=some ⟨ago,afP,.func (PySem.W.fnOf "__len__" "Recorder.__len__" (aL bQ) (aK bQ) (aC bQ) .none ahM ai2 afa akF abB ajy),aek⟩) (c27:PySem.W.codeIn K abB "Recorder.__len__" = true) (k27:PySem.W.keepIn K (.ref f27)=true) (n27:PySem.W.isFn K (.ref f27)=true)
 (a28:PySem.W.nsIn K mainGlobals "touch_text" = some (some (.ref f28))) (l28:K.lookup f28=some ⟨agn,afO,.func (PySem.W.fnOf "touch_text" "touch_text" (aL dN) (aK dN) (aC dN) .none ahL ai1 ae' akE abA ajx),aej⟩) (c28:PySem.W.codeIn K abA "touch_text" = true) (k28:PySem.W.keepIn K (.ref f28)=true)
 (a29:PySem.W.nsIn K mainGlobals "note_text" = some (some (.ref f29))) (l29:K.lookup f29=some ⟨agm,afN,.func (PySem.W.fnOf "note_text" "note_text" (aL eO) (aK eO) (aC eO) .none ahK ai0 ae_ akD abz ajw),aei⟩) (c29:PySem.W.codeIn K abz "note_text" = true) (k29:PySem.W.keepIn K (.ref f29)=true)
 (a30:PySem.W.nsIn K mainGlobals "record_text" = some (some (.ref f30))) (l30:K.lookup f30=some ⟨agl,afM,.func (PySem.W.fnOf "record_text" "record_text" (aL dB) (aK dB) (aC dB) .none ahJ aiZ ae9 akC aby ajv),aeh⟩) (c30:PySem.W.codeIn K aby "record_text" = true) (k30:PySem.W.keepIn K (.ref f30)=true)
 (a31:PySem.W.findIn K (.ref ak) "__str__" = some (some (.ref f31))) (l31:K.lookup f31=some ⟨agk,afL,.func (PySem.W.fnOf "__str__" "Recorder.__str__" (aL bO) (aK bO) (aC bO) .none ahI aiY ae8 akB abx aju),aeg⟩) (c31:PySem.W.codeIn K abx "Recorder.__str__" = true) (k31:PySem.W.keepIn K (.ref f31)=true) (n31:PySem.W.isFn K (.ref f31)=true)
 (a32:PySem.W.findIn K (.ref ak) "twin" = some (some (.ref f32))) (l32:K.lookup f32=some ⟨agj,afK,.func (PySem.W.fnOf "twin" "Recorder.twin" (aL cG) (aK cG) (aC cG) .none ahH aiX ae7 akA abw ajt),aef⟩) (c32:PySem.W.codeIn K abw "Recorder.twin" = true) (k32:PySem.W.keepIn K (.ref f32)=true) (n32:PySem.W.isFn K (.ref f32)=true)
 (a33:PySem.W.findIn K (.ref ak) "__eq__" = some (some (.ref f33))) (l33:K.lookup f33=some ⟨agi,afJ,.func (PySem.W.fnOf "__eq__" "Recorder.__eq__" (aL bU) (aK bU) (aC bU) .none ahG aiW ae6 akz abv ajs),aee⟩) (c33:PySem.W.codeIn K abv "Recorder.__eq__" = true) (k33:PySem.W.keepIn K (.ref f33)=true) (n33:PySem.W.isFn K (.ref f33)=true)
 (a34:PySem.W.nsIn K mainGlobals "_law_alike" = some (some (.ref U9))) (l34:K.lookup U9=some ⟨agh,afI,.func (PySem.W.fnOf "_law_alike" "_law_alike" (aL gP) (aK gP) (aC gP) .none ahF aiV ae5 aky abu ajr),aed⟩) (c34:PySem.W.codeIn K abu "_law_alike" = true) (Uw:PySem.W.keepIn K (.ref U9)=true)
 (a35:PySem.W.nsIn K mainGlobals "_law_flat" = some (some (.ref f35))) (l35:K.lookup f35=some ⟨agg,afH,.func (PySem.W.fnOf "_law_flat" "_law_flat" (aL j7) (aK j7) (aC j7) .none ahE aiU ae4 akx abt ajq),aec⟩) (c35:PySem.W.codeIn K abt "_law_flat" = true) (k35:PySem.W.keepIn K (.ref f35)=true)
 (a36:PySem.W.nsIn K mainGlobals "_law_text" = some (some (.ref f36))) (l36:K.lookup f36=some ⟨agf,afG,.func (PySem.W.fnOf "_law_text" "_law_text" (aL j4) (aK j4) (aC j4) .none ahD aiT ae3 akv abr ajp),aeb⟩) (c36:PySem.W.codeIn K abr "_law_text" = true) (k36:PySem.W.keepIn K (.ref f36)=true)
 (a37:PySem.W.nsIn K mainGlobals "_law_shape" = some (some (.ref f37))) (l37:K.lookup f37=some ⟨agd,afF,.func (PySem.W.fnOf "_law_shape" "_law_shape" (aL iD) (aK iD) (aC iD) .none ahC aiS ae2 aku abq ajo),aea⟩) (c37:PySem.W.codeIn K abq "_law_shape" = true) (k37:PySem.W.keepIn K (.ref f37)=true)
 (a38:PySem.W.nsIn K mainGlobals "_law_so" = some (some (.ref f38))) (l38:K.lookup f38=some ⟨agc,afE,.func (PySem.W.fnOf "_law_so" "_law_so" (aL tu) (aK tu) (aC tu) .none ahB aiR ae1 akt abp ajn),ad'⟩) (c38:PySem.W.codeIn K abp "_law_so" = true) (k38:PySem.W.keepIn K (.ref f38)=true)
 (a39:PySem.W.nsIn K mainGlobals "_law_equal" = some (some (.ref f39))) (l39:K.lookup f39=some ⟨agb,afD,.func (PySem.W.fnOf "_law_equal" "_law_equal" (aL iH) (aK iH) (aC iH) .none ahA aiQ ae0 aks abo ajm),ad_⟩) (c39:PySem.W.codeIn K abo "_law_equal" = true) (k39:PySem.W.keepIn K (.ref f39)=true)
 (a40:PySem.W.nsIn K mainGlobals "_law_begun" = some (some (.ref f40))) (l40:K.lookup f40=some ⟨aga,afC,.func (PySem.W.fnOf "_law_begun" "_law_begun" (aL iI) (aK iI) (aC iI) .none ahz aiP aeZ akr abn ajl),ad9⟩) (c40:PySem.W.codeIn K abn "_law_begun" = true) (k40:PySem.W.keepIn K (.ref f40)=true)
 (a41:PySem.W.nsIn K mainGlobals "_law_wider" = some (some (.ref f41))) (l41:K.lookup f41=some ⟨af',afB,.func (PySem.W.fnOf "_law_wider" "_law_wider" (aL iz) (aK iz) (aC iz) .none ahy aiO aeY akq abm ajk),ad8⟩) (c41:PySem.W.codeIn K abm "_law_wider" = true) (k41:PySem.W.keepIn K (.ref f41)=true)
 (a42:PySem.W.nsIn K mainGlobals "_law_twin" = some (some (.ref f42))) (l42:K.lookup f42=some ⟨af_,afA,.func (PySem.W.fnOf "_law_twin" "_law_twin" (aL jZ) (aK jZ) (aC jZ) .none ahx aiN aeX akp abl ajj),ad7⟩) (c42:PySem.W.codeIn K abl "_law_twin" = true) (k42:PySem.W.keepIn K (.ref f42)=true)
 (a43:PySem.W.nsIn K mainGlobals "_law_step" = some (some (.ref f43))) (l43:K.lookup f43=some ⟨af9,afz,.func (PySem.W.fnOf "_law_step" "_law_step" (aL j6) (aK j6) (aC j6) .none ahw aiM aeW ako abk aji),ad6⟩) (c43:PySem.W.codeIn K abk "_law_step" = true) (k43:PySem.W.keepIn K (.ref f43)=true)
 (a44:PySem.W.nsIn K mainGlobals "law" = some (some (.ref f44))) (l44:K.lookup f44=some ⟨af8,afy,.func (PySem.W.fnOf "law" "law" (aL sZ) (aK sZ) (aC sZ) .none aaC abb aai abU YZ abg),ad5⟩) (c44:PySem.W.codeIn K YZ "law" = true) (k44:PySem.W.keepIn K (.ref f44)=true)
 (lM:PySem.W.nsIn K mainGlobals "Recorder" = some (some (.ref ak)))
 (nj:PySem.W.plainGet K ak Str.empty=true)
 (nG:PySem.W.hasDictIn K ak=true)
 (ni:PySem.W.plainOver K ak=true)
 (m_:PySem.W.findIn K (.ref ak) "__setattr__" = some (some (.builtin "object.__setattr__")))
 (nA:PySem.W.makesIn K ak=true)
 (nF:PySem.W.keepIn K (.ref ak)=true)
 (jJ:PySem.W.findIn K (.ref ak) "web" = some none)
 (iw:PySem.W.findIn K (.ref ak) "named" = some none)
 (gR:PySem.W.findIn K (.ref ak) "knowns" = some none)
 (iu:PySem.W.findIn K (.ref ak) "taken" = some none)
 (gQ:PySem.W.findIn K (.ref ak) "places" = some none)
 (Bh:PySem.W.nsIn K mainGlobals "Hand" = some (some (.ref bH)))
 (wZ:PySem.W.plainGet K bH Str.empty=true)
 (xg:PySem.W.hasDictIn K bH=true)
 (wY:PySem.W.plainOver K bH=true)
 (wX:PySem.W.findIn K (.ref bH) "__setattr__" = some (some (.builtin "object.__setattr__")))
 (w5:PySem.W.makesIn K bH=true)
 (w6:PySem.W.keepIn K (.ref bH)=true)
 (nu:PySem.W.findIn K (.ref bH) "rows" = some none)
 (qX:PySem.W.findIn K (.ref bH) "at" = some none)
 (jd:PySem.W.findIn K (.ref bH) "in_boxes" = some none)
 (jK:PySem.W.findIn K (.ref bH) "sayings" = some none)
 (lY:PySem.W.findIn K (.ref bH) "state" = some none)
 (oR:PySem.W.nsIn K mainGlobals "Works" = some (some (.ref aR)))
 (uz:PySem.W.plainGet K aR Str.empty=true)
 (uD:PySem.W.hasDictIn K aR=true)
 (uy:PySem.W.plainOver K aR=true)
 (ux:PySem.W.findIn K (.ref aR) "__setattr__" = some (some (.builtin "object.__setattr__")))
 (p7:PySem.W.makesIn K aR=true)
 (p8:PySem.W.keepIn K (.ref aR)=true)
 (i_:PySem.W.findIn K (.ref aR) "program" = some none)
 (jc:PySem.W.findIn K (.ref aR) "numbers" = some none)
 (kW:PySem.W.findIn K (.ref aR) "hands" = some none)
 (kO:PySem.W.findIn K (.ref aR) "turns" = some none)
 (ycg:PySem.W.specialIn K (.builtin "object.__class__") "__get__" = some (some (.builtin "getset_descriptor.__get__")))
 (yct:PySem.W.takesIn K (.builtin "object.__class__")=some true)
 (nM:PySem.W.findIn K (.ref ak) "__ne__" = some (some (.builtin "object.__ne__")))
 (nO:PySem.W.findIn K (.ref ak) "__class__" = some (some (.builtin "object.__class__")))
 (jX:PySem.W.mroIn K ak (.type "object")=some true)
 (uF:PySem.W.findIn K (.ref aR) "__class__" = some (some (.builtin "object.__class__")))
 (uE:PySem.W.mroIn K aR (.type "object")=some true)
 {zY:Tok} (nY:PySem.W.nsIn K mainGlobals "MOST_HANDS" = some (some (.int 8 zY)))
 {QM:Tok} (Cw:PySem.W.nsIn K mainGlobals "BOXES" = some (some (.str "abcdefgh" QM)))
 {QL:Tok} (Cv:PySem.W.nsIn K mainGlobals "ROUND" = some (some (.int 1000 QL)))
 {rN:Tok} (iM:PySem.W.nsIn K mainGlobals "MOST_UNTOUCHING" = some (some (.int 60 rN)))
 (lF:PySem.W.subIn K (.ref ak) (.type "int")=some false)
 (jw:PySem.W.subIn K (.ref aR) (.ref ak)=some false)
 (mU:PySem.W.kitOne K (.type "int") (.ref ak)=some false)
 (pL:PySem.W.kitOne K (.type "NoneType") (.ref ak)=some false)
 (pN:PySem.W.kitOne K (.type "list") (.ref ak)=some false)
 (pK:PySem.W.kitOne K (.type "str") (.ref ak)=some false)
 (pJ:PySem.W.kitOne K (.type "tuple") (.ref ak)=some false)
 (pI:PySem.W.kitOne K (.ref aR) (.ref ak)=some false)
 (nJ:PySem.W.nsIn K mainGlobals "ValueError" = some none) (Ob:PySem.W.nsIn K mainGlobals "all" = some none) (GC:PySem.W.nsIn K mainGlobals "bool" = some none) (oU:PySem.W.nsIn K mainGlobals "enumerate" = some none) (Oa:PySem.W.nsIn K mainGlobals "int" = some none) (nH:PySem.W.nsIn K mainGlobals "isinstance" = some none) (N_:PySem.W.nsIn K mainGlobals "len" = some none) (Gz:PySem.W.nsIn K mainGlobals "list" = some none) (N8:PySem.W.nsIn K mainGlobals "max" = some none) (NZ:PySem.W.nsIn K mainGlobals "min" = some none) (Bk:PySem.W.nsIn K mainGlobals "range" = some none) (xq:PySem.W.nsIn K mainGlobals "sorted" = some none) (NQ:PySem.W.nsIn K mainGlobals "str" = some none) (NP:PySem.W.nsIn K mainGlobals "sum" = some none) (Bj:PySem.W.nsIn K mainGlobals "tuple" = some none) (NK:PySem.W.nsIn K mainGlobals "zip" = some none):
 ∃fd:FuncData,(∀(s:Shared) (v:Value),BindsTo s fd ⟨[v],[]⟩ [("script",v)]) /\ ∀base:Heap,K.In base->base.Ns mainGlobals mg->cj l.prog w K mg base gZ 8 fa fd ["script"] (Jy K):=by
 have e:=hfa.symm.trans (PySem.W.mg_of X G a44);cases e;have Bt:oO mg:=⟨PySem.W.mg_none_of X G nJ,PySem.W.mg_none_of X G Ob,PySem.W.mg_none_of X G GC,PySem.W.mg_none_of X G oU,PySem.W.mg_none_of X G Oa,PySem.W.mg_none_of X G nH,PySem.W.mg_none_of X G N_,PySem.W.mg_none_of X G Gz,PySem.W.mg_none_of X G N8,PySem.W.mg_none_of X G NZ,PySem.W.mg_none_of X G Bk,PySem.W.mg_none_of X G xq,PySem.W.mg_none_of X G NQ,PySem.W.mg_none_of X G NP,PySem.W.mg_none_of X G Bj,PySem.W.mg_none_of X G NK⟩;have au:bN K ak:=⟨⟨nj,nG,ni,m_⟩,jJ,iw,gR,iu,gQ⟩;have cX:wW K bH:=⟨⟨wZ,xg,wY,wX⟩,nu,qX,jd,jK,lY⟩;have eG:zL K aR:=⟨⟨uz,uD,uy,ux⟩,i_,jc,kW,kO⟩;have jq:NeO K ak:=⟨nM,jX⟩;have n_:Zx K mg ak "Recorder" :=⟨PySem.W.mg_of X G lM,nO,ycg,yct,jX⟩;have wR:Zx K mg aR "Works" :=⟨PySem.W.mg_of X G oR,uF,ycg,yct,uE⟩;have kj:Gv mg "MOST_HANDS" (.int 8):=⟨_,PySem.W.mg_of X G nY,⟨_,rfl⟩⟩;have wV:Gv mg "BOXES" (.str "abcdefgh"):=⟨_,PySem.W.mg_of X G Cw,⟨_,rfl⟩⟩;have wU:Gv mg "ROUND" (.int 1000):=⟨_,PySem.W.mg_of X G Cv,⟨_,rfl⟩⟩;have gq:Gv mg "MOST_UNTOUCHING" (.int 60):=⟨_,PySem.W.mg_of X G iM,⟨_,rfl⟩⟩;have F0:=bK (st:=nQ) l0 c0 k0;have F1:=bK (st:=j5) l1 c1 k1;have F2:=bK (st:=j8) l2 c2 k2;have F3:=bK (st:=iG) l3 c3 k3;have F4:=bK (st:=iB) l4 c4 k4;have F5:=bK (st:=fM) l5 c5 k5;have F6:=bK (st:=cP) l6 c6 k6;have F7:=bK (st:=gF) l7 c7 k7;have F8:=bK (st:=fK) l8 c8 k8;have F9:=bK (st:=jY) l9 c9 k9;have F10:=bK (st:=dR) l10 c10 k10;have F11:=bK (st:=fH) l11 c11 k11;have F12:=bK (st:=iC) l12 c12 k12;have F13:=bK (st:=fJ) l13 c13 k13;have F14:=bK (st:=fL) l14 c14 k14;have F15:=bK (st:=gG) l15 c15 k15;have F16:=bK (st:=gH) l16 c16 k16;have F17:=bK (st:=eU) l17 c17 k17;have F18:=bK (st:=cR) l18 c18 k18;have F19:=bK (st:=cD) l19 c19 k19;have F20:Vt K "__init__" "Works.__init__" cF [.none] YD _:=⟨⟨_,_,_,_,_,_,_,_,_,_,_,_,_,_,rfl,l20,c20,d20⟩,k20⟩;have F21:=bK (st:=dO) l21 c21 k21;have F22:=bK (st:=cH) l22 c22 k22;have F23:=bK (st:=cQ) l23 c23 k23;have F24:=bK (st:=bZ) l24 c24 k24;have F25:=bK (st:=b_) l25 c25 k25;have F26:=bK (st:=bT) l26 c26 k26;have F27:=bK (st:=bQ) l27 c27 k27;have F28:=bK (st:=dN) l28 c28 k28;have F29:=bK (st:=eO) l29 c29 k29;have F30:=bK (st:=dB) l30 c30 k30;have F31:=bK (st:=bO) l31 c31 k31;have F32:=bK (st:=cG) l32 c32 k32;have F33:=bK (st:=bU) l33 c33 k33;have F34:=bK (st:=gP) l34 c34 Uw;have F35:=bK (st:=j7) l35 c35 k35;have F36:=bK (st:=j4) l36 c36 k36;have F37:=bK (st:=iD) l37 c37 k37;have F38:=bK (st:=tu) l38 c38 k38;have F39:=bK (st:=iH) l39 c39 k39;have F40:=bK (st:=iI) l40 c40 k40;have F41:=bK (st:=iz) l41 c41 k41;have F42:=bK (st:=jZ) l42 c42 k42;have F43:=bK (st:=j6) l43 c43 k43;have F44:=bK (st:=sZ) l44 c44 k44;refine ⟨PySem.W.fnOf "law" "law" (aL sZ) (aK sZ) (aC sZ) .none aaC abb aai abU YZ abg,fun s v=> .of_eq rfl,fun base _ _=> ?_⟩;have A0:FnAt l.prog w K mg base 1 "_law_bag" ["script"] (Ov K):=⟨f0,_,Xr F0 Bt,PySem.W.mg_of X G a0,k0,F0.binds (ps:=["script"]) Vl⟩;have A1:FnAt l.prog w K mg base 1 "_law_stir" ["number","place"] (G6 K):=⟨f1,_,T8 F1,PySem.W.mg_of X G a1,k1,F1.binds (ps:=["number","place"]) Ro⟩;have A2:FnAt l.prog w K mg base 2 "_law_draw" ["bag","many"] (oY K):=⟨f2,_,Ud F2 A1 Bt,PySem.W.mg_of X G a2,k2,F2.binds (ps:=["bag","many"]) Rr⟩;have A3:FnAt l.prog w K mg base 3 "_law_hands" ["bag"] (Bw K):=⟨f3,_,Qf F3 A2,PySem.W.mg_of X G a3,k3,F3.binds (ps:=["bag"]) M_⟩;have A4:FnAt l.prog w K mg base 3 "_law_touch" ["bag","hands","cells","loads","apart"] (Bp K):=⟨f4,_,PN F4 A2 Bt,PySem.W.mg_of X G a4,k4,F4.binds (ps:=["bag","hands","cells","loads","apart"]) M7⟩;have A5:FnAt l.prog w K mg base 4 "_law_touches" ["bag","hands"] (uJ K):=⟨f5,_,HF F5 A2 A4 Bt,PySem.W.mg_of X G a5,k5,F5.binds (ps:=["bag","hands"]) Gj⟩;have A6:FnAt l.prog w K mg base 1 "touches_meet" ["one","other"] (Wy K):=⟨f6,_,vR F6,PySem.W.mg_of X G a6,k6,F6.binds (ps:=["one","other"]) v9⟩;have A7:FnAt l.prog w K mg base 2 "is_step" ["web","place","later"] (G7 K):=⟨f7,_,HN F7 A6,PySem.W.mg_of X G a7,k7,F7.binds (ps:=["web","place","later"]) Je⟩;have A8:FnAt l.prog w K mg base 1 "is_known" ["name","known"] (Bv K):=⟨f8,_,Qd F8,PySem.W.mg_of X G a8,k8,F8.binds (ps:=["name","known"]) Gh⟩;have A9:FnAt l.prog w K mg base 1 "learn" ["known","more"] (Bu K):=⟨f9,_,Qc F9 Bt,PySem.W.mg_of X G a9,k9,F9.binds (ps:=["known","more"]) Rk⟩;have A10:FnAt l.prog w K mg base 3 "bare_steps" ["web","named","knowns","place"] (G_ K):=⟨f10,_,Ug F10 A7 A8 A9 Bt,PySem.W.mg_of X G a10,k10,F10.binds (ps:=["web","named","knowns","place"]) z9⟩;have A11:FnAt l.prog w K mg base 1 "notes_to" ["named","bare","name"] (uL K):=⟨f11,_,HJ F11,PySem.W.mg_of X G a11,k11,F11.binds (ps:=["named","bare","name"]) Gf⟩;have A12:FnAt l.prog w K mg base 1 "_law_table" ["touches","hands"] (oZ K):=⟨f12,_,Ln F12 Bt,PySem.W.mg_of X G a12,k12,F12.binds (ps:=["touches","hands"]) M8⟩;have A13:FnAt l.prog w K mg base 1 "is_whole" ["value"] (SN K):=⟨f13,_,Ek F13 Bt,PySem.W.mg_of X G a13,k13,F13.binds (ps:=["value"]) Gg⟩;have A14:FnAt l.prog w K mg base 2 "is_below" ["value","count"] (wF K):=⟨f14,_,El F14 A13,PySem.W.mg_of X G a14,k14,F14.binds (ps:=["value","count"]) Gi⟩;have A15:FnAt l.prog w K mg base 1 "cell_of" ["row"] (KR K):=⟨f15,_,Lk F15,PySem.W.mg_of X G a15,k15,F15.binds (ps:=["row"]) Jf⟩;have A16:MethAt l.prog w K mg base 1 bH "do" ["self","row"] (KR K):=⟨f16,_,Ue F16,⟨a16,n16,k16⟩,F16.binds (ps:=["self","row"]) Jg⟩;have A17:mG l.prog w K mg base 1 bH "Hand" ["self","rows"] [] (Bx bH K):=⟨f17,_,[],Qe F17 cX wV,⟨w5,a17,n17,w6⟩,PySem.W.mg_of X G Bh,F17.binds (ps:=["self","rows"]) CZ,.nil⟩;have A18:MethAt l.prog w K mg base 2 bH "lead_on" ["self"] (G9 bH K):=⟨f18,_,Ub F18 A15 A16 cX gq Bt,⟨a18,n18,k18⟩,F18.binds (ps:=["self"]) wj⟩;have A19:FnAt l.prog w K mg base 3 "check_numbers" ["cells","count"] (qZ K):=⟨f19,_,Em F19 A14 wU Bt,PySem.W.mg_of X G a19,k19,F19.binds (ps:=["cells","count"]) vo⟩;have G20:=PK F20 eG cX A19 A17 A18 Bt;have A20:mG l.prog w K mg base 4 aR "Works" ["self","program","cells"] [] (wC aR K):=⟨YD,_,_,G20,⟨p7,a20,n20,p8⟩,PySem.W.mg_of X G oR,zx d20,.nil⟩;have ach:mG l.prog w K mg base 4 aR "Works" ["self","program","cells"] [.non] (wC aR K):=⟨YD,_,_,G20,⟨p7,a20,n20,p8⟩,PySem.W.mg_of X G oR,zu d20,.cons rfl .nil⟩;have A21:FnAt l.prog w K mg base 3 "check_hand" ["places","hand"] (sU K):=⟨f21,_,Lj F21 A14 Bt,PySem.W.mg_of X G a21,k21,F21.binds (ps:=["places","hand"]) z8⟩;have A22:mG l.prog w K mg base 2 ak "Recorder" ["self","hands"] [] (sS ak K):=⟨f22,_,[],P_ F22 au A13 kj Bt,⟨nA,a22,n22,nF⟩,PySem.W.mg_of X G lM,F22.binds (ps:=["self","hands"]) vq,.nil⟩;have A23:MethAt l.prog w K mg base 4 ak "did" ["self","hand","kind","cell"] (Jz ak K):=⟨f23,_,Xq F23 au A21 A10 A11 Bt,⟨a23,n23,k23⟩,F23.binds (ps:=["self","hand","kind","cell"]) wg⟩;have A24:MethAt l.prog w K mg base 1 ak "notes" ["self"] (mJ ak K):=⟨f24,_,Lg F24 au Bt,⟨a24,n24,k24⟩,F24.binds (ps:=["self"]) uc⟩;have A25:MethAt l.prog w K mg base 4 ak "known" ["self","hand"] (xQ ak K):=⟨f25,_,Lh F25 au A21 Bt,⟨a25,n25,k25⟩,F25.binds (ps:=["self","hand"]) ud⟩;have A26:MethAt l.prog w K mg base 1 ak "counts" ["self"] (mK ak K):=⟨f26,_,Li F26 au Bt,⟨a26,n26,k26⟩,F26.binds (ps:=["self"]) rP⟩;have A27:MethAt l.prog w K mg base 1 ak "__len__" ["self"] (G8 ak K):=⟨f27,_,Ua F27 au Bt,⟨a27,n27,k27⟩,F27.binds (ps:=["self"]) qM⟩;have A28:FnAt l.prog w K mg base 1 "touch_text" ["touch"] (xM K):=⟨f28,_,Lb F28 Bt,PySem.W.mg_of X G a28,k28,F28.binds (ps:=["touch"]) z7⟩;have A29:FnAt l.prog w K mg base 2 "note_text" ["note"] (Bs K):=⟨f29,_,Qa F29 A28 Bt,PySem.W.mg_of X G a29,k29,F29.binds (ps:=["note"]) CV⟩;have A30:FnAt l.prog w K mg base 3 "record_text" ["record"] (uK K):=⟨f30,_,yt F30 A29 Bt,PySem.W.mg_of X G a30,k30,F30.binds (ps:=["record"]) zq⟩;have A31:MethAt l.prog w K mg base 4 ak "__str__" ["self"] (Br ak K):=⟨f31,_,T_ F31 au A30 A26 A24 Bt,⟨a31,n31,k31⟩,F31.binds (ps:=["self"]) qL⟩;have A32:MethAt l.prog w K mg base 4 ak "twin" ["self"] (wD ak K):=⟨f32,_,P0 F32 au A22 Bt,⟨a32,n32,k32⟩,F32.binds (ps:=["self"]) vp⟩;have A33:MethAt l.prog w K mg base 2 ak "__eq__" ["self","other"] (Ad ak K):=⟨f33,_,Xo F33 au n_ A26 A24 Bt,⟨a33,n33,k33⟩,F33.binds (ps:=["self","other"]) rQ⟩;have ab1:FnAt l.prog w K mg base 1 "_law_alike" ["found","due"] (iy 0 K):=⟨U9,_,Lp F34,PySem.W.mg_of X G a34,Uw,F34.binds (ps:=["found","due"]) kJ⟩;have ab0:FnAt l.prog w K mg base 2 "_law_alike" ["found","due"] (iy 1 K):=⟨U9,_,mQ (n:=0) F34 ab1 Bt,PySem.W.mg_of X G a34,Uw,F34.binds (ps:=["found","due"]) kJ⟩;have abZ:FnAt l.prog w K mg base 3 "_law_alike" ["found","due"] (iy 2 K):=⟨U9,_,mQ (n:=1) F34 ab0 Bt,PySem.W.mg_of X G a34,Uw,F34.binds (ps:=["found","due"]) kJ⟩;have abY:FnAt l.prog w K mg base 4 "_law_alike" ["found","due"] (iy 3 K):=⟨U9,_,mQ (n:=2) F34 abZ Bt,PySem.W.mg_of X G a34,Uw,F34.binds (ps:=["found","due"]) kJ⟩;have abX:FnAt l.prog w K mg base 5 "_law_alike" ["found","due"] (iy 4 K):=⟨U9,_,mQ (n:=3) F34 abY Bt,PySem.W.mg_of X G a34,Uw,F34.binds (ps:=["found","due"]) kJ⟩;have A34:FnAt l.prog w K mg base 6 "_law_alike" ["found","due"] (iy 5 K):=⟨U9,_,mQ (n:=4) F34 abX Bt,PySem.W.mg_of X G a34,Uw,F34.binds (ps:=["found","due"]) kJ⟩;have A35:FnAt l.prog w K mg base 1 "_law_flat" ["lists"] (BJ K):=⟨f35,_,Uc F35 Bt,PySem.W.mg_of X G a35,k35,F35.binds (ps:=["lists"]) Rq⟩;have A36:FnAt l.prog w K mg base 1 "_law_text" ["ties","counts"] (xO K):=⟨f36,_,Ld F36 Bt,PySem.W.mg_of X G a36,k36,F36.binds (ps:=["ties","counts"]) Rn⟩;have A37:FnAt l.prog w K mg base 2 "_law_shape" ["touches","hands"] (Bq K):=⟨f37,_,PX F37 A12 A35 Bt,PySem.W.mg_of X G a37,k37,F37.binds (ps:=["touches","hands"]) M9⟩;have A38:FnAt l.prog w K mg base 7 "_law_so" ["recorder","touches","hands"] (Wx ak K):=⟨f38,_,aan F38 au A12 A35 A34 A24 A26 A25 A27 A31 A36 Bt,PySem.W.mg_of X G a38,k38,F38.binds (ps:=["recorder","touches","hands"]) Y4⟩;have A39:FnAt l.prog w K mg base 7 "_law_equal" ["some","lists","hands"] (BK ak aR K):=⟨f39,_,Qg F39 au eG wR jq lF jw mU pL pN pK pJ pI A37 A33 A31 A26 A24 ach Bt,PySem.W.mg_of X G a39,k39,F39.binds (ps:=["some","lists","hands"]) Nb⟩;have A40:FnAt l.prog w K mg base 5 "_law_begun" ["hands","touches"] (wG ak K):=⟨f40,_,Qh F40 au A22 A23 Bt,PySem.W.mg_of X G a40,k40,F40.binds (ps:=["hands","touches"]) Nf⟩;have A41:FnAt l.prog w K mg base 6 "_law_wider" ["some","touches","hands"] (Bo ak K):=⟨f41,_,PL F41 au jq A40 A33 Bt,PySem.W.mg_of X G a41,k41,F41.binds (ps:=["some","touches","hands"]) M6⟩;have A42:FnAt l.prog w K mg base 5 "_law_twin" ["bag","some","lists"] (xK ak K):=⟨f42,_,La F42 au A2 A32 A33 Bt,PySem.W.mg_of X G a42,k42,F42.binds (ps:=["bag","some","lists"]) Rm⟩;have A43:FnAt l.prog w K mg base 7 "_law_step" ["bag","some","lists","hands","told"] (xP ak K):=⟨f43,_,Lf F43 au A2 A12 A34 A23 Bt,PySem.W.mg_of X G a43,k43,F43.binds (ps:=["bag","some","lists","hands","told"]) Rp⟩;exact Xp F44 au A0 A2 A3 A5 A22 A32 A42 A43 A40 A39 A41 A38 Bt
theorem walk {l:PySem.W.OpenLaw} {q:Program} {loose:List Str} {XP:(Str->Option Value)->Heap->Prop} {YP:World->Heap->Prop} {d:DefRec} {K:Params->PySem.W.Frag} (hn:l.most=some 63) (hdf:d.params.defaults=[])
 (hY:∀(w:World) (h:Heap),YP w h->(K w.params).In h)
 (F:∀(w:World) (mg:Str->Option Value) (fa:Addr) (h:Heap),(K w.params).In h->h.Ns mainGlobals mg->mg d.name=some (.ref fa) ->
   ∃fd:FuncData,(∀(s:Shared) (u:Value),BindsTo s fd ⟨[u],[]⟩ [("script",u)]) /\ ∀base:Heap,(K w.params).In base->base.Ns mainGlobals mg->cj l.prog w (K w.params) mg base gZ 8 fa fd ["script"] (Jy (K w.params))):
 PySem.W.WalkO q loose XP YP l.row.toRowW d [] (fun f vs=>PySem.call f vs):=
 L2.Sq (n:=63) (k:=8) (x:= "script") (CX:=fun _=>gZ) (sp:=fun w=>Jy (K w.params)) hn (by decide) hdf ⟨rfl,by decide,by decide⟩ hY F (fun _ _ a ns hl _ hS=>⟨a,ns,rfl,hS,hl,fun _=>rfl⟩) fun _ _ _ _ _ z=>z
end Prf
namespace PySem.W.Fast
def tw15911641401292459277:=()
def tw12434789466701543711:=()
def tw1117251060070593766:=()
def tw5726799591374490269:=()
def tw16821004217108167518:=()
def tw10388810149879014451:=()
def tw18066959057037925445:=()
def tw1934719749739703635:=()
def tw17092895953607510628:=()
def tw3992295048956554782:=()
def tw12461422883626115251:=()
def tw4377006617874656261:=()
def tw9915087219974290218:=()
def tw13673159824158058139:=()
def tw128262990834423425:=()
def tw10330311726788356217:=()
def tw8438675188830716597:=()
def tw1133268859582661809:=()
def tw18114918023719936797:=()
def tw13618672914256853295:=()
def tw13582708990522894036:=()
def tw7574369968250811978:=()
def tw7883982789118612187:=()
def tw15619098085499607185:=()
def tw1296478663696387012:=()
def tw9136211280743781627:=()
def tw12823277128831191043:=()
def tw6051095364527226463:=()
def tw13800185696237119583:=()
def tw15287637265588632707:=()
def tw12843722962885925305:=()
def tw11561932264175389024:=()
def tw6034503238884972014:=()
def tw7937200554513343301:=()
def tw6323913761164195064:=()
def tw3391769526457640267:=()
def tw11919302318989920271:=()
def tw13242620047514632643:=()
def tw2284966902810354676:=()
def tw670000121226274730:=()
def tw5827538631789499554:=()
def tw2650523121582411500:=()
def tw13732620732529836353:=()
def tw7063961593655349484:=()
def tw12639736519291300138:=()
def tw16280825563334614647:=()
def tw9588486293970156249:=()
def tw8035005280364687836:=()
def tw17844192707668772024:=()
def tw8602453071242760732:=()
def tw3728193748020576397:=()
def tw8866839770415410158:=()
def tw1968345676067459596:=()
def tw5866754523099902505:=()
def tw13335982615358030482:=()
def tw8338870978321812857:=()
def tw13423857566245642363:=()
def tw1799177560290382282:=()
def tw11035809141230785654:=()
def tw518576269895099718:=()
def tw176161570396722840:=()
def tw4900290558554316420:=()
def tw11409715322330186447:=()
def tw6491985417616040382:=()
def tw12593465720136164895:=()
def tw7792686934682585058:=()
def tw16658602806772139707:=()
def tw4650196033402036117:=()
def tw6436641162858016502:=()
def tw4662796331590806404:=()
def tw4946544636467664517:=()
def tw4294506236587624645:=()
def tw11774228711929295117:=()
def tw8200505382211290621:=()
def tw12050975185365737559:=()
def tw5197205638606261537:=()
def tw3539849195850924203:=()
def tw5978786891348705999:=()
def tw9678680425730249603:=()
def tw482738925675399296:=()
def tw11847634194649711888:=()
def tw7728684144400439154:=()
def tw3042567824412082398:=()
def tw10097623808034046296:=()
def tw16147027184997005766:=()
def tw2685218528972605297:=()
def tw15154858690219366525:=()
def tw7055202791036243396:=()
def tw7673934487825278836:=()
def tw1426031742285278114:=()
def tw10023566477320731478:=()
def tw12823562285913196760:=()
def tw17594174959196608464:=()
def tw12853335834217096782:=()
def tw9068494983103901087:=()
def tw7908249279704487863:=()
def tw14408205637921296265:=()
def tw12251038943423028190:=()
def tw3083889553825483743:=()
def tw12972057342153670281:=()
def tw14301993433214833571:=()
def tw10057515049379595111:=()
def tw4044741858694636201:=()
def tw10424819689964083378:=()
def tw1367509762387553434:=()
def tw8270237618612595842:=()
def tw5784425011648143692:=()
def tw17142225536039223191:=()
def tw13607456722880518140:=()
def tw15799659531093846099:=()
def tw14267248632810518412:=()
def tw13537365716590188971:=()
def tw14036744597552642794:=()
def tw2871443708895204785:=()
def tw3692368084533184351:=()
def tw9494939611145282617:=()
def tw5750898259366105454:=()
def tw12043198924719881043:=()
def tw13931325286425260592:=()
def tw7033806107248660641:=()
def tw14788278699679934055:=()
def tw16050124493915240538:=()
def tw3053718909766507505:=()
def tw12819820400717164736:=()
def tw3550719890675441223:=()
def tw393036116508662509:=()
def tw6357214801018238532:=()
def tw8894148181588468122:=()
def tw477733811072553752:=()
def tw11185735494914412285:=()
def tw8263338769019285691:=()
def tw16836998017135036441:=()
def tw5583458559696738729:=()
def tw13320877968849425487:=()
def tw10764077113553124691:=()
def tw17466945152923643998:=()
def tw17814888397053014702:=()
def tw8872967863853490585:=()
def tw2121974715210763212:=()
def tw4777291960933435651:=()
def tw2423951931366351717:=()
def tw12605179561236021184:=()
def tw11082942673362187383:=()
def tw7235534945558963526:=()
def tw6095736316109160691:=()
def tw18183291555388589896:=()
def tw9341138254469248011:=()
def tw13230084360908014695:=()
def tw12673036971533493439:=()
def tw8491645483521624130:=()
def tw6900636343473007361:=()
def tw8292466117948773432:=()
def tw5519957233601965793:=()
def tw10249953829963414986:=()
def tw5732883470487765423:=()
def tw2138691004504206409:=()
def tw6432449032585612833:=()
def tw7558349008936674786:=()
def tw13403482880322330749:=()
def tw866460430421085140:=()
def tw11675594738063543807:=()
def tw15574168452405434866:=()
def tw6623128711015019666:=()
def tw976852673219415556:=()
def tw18144824874870159959:=()
def tw8176091999006902820:=()
def tw3324856546656003503:=()
def tw4685383521951008682:=()
def tw8278600051313627146:=()
def tw11958378326323431051:=()
def tw1346286903039415038:=()
def tw5100423245056356770:=()
def tw13569319438752185697:=()
def tw3152056861987053006:=()
def tw12859948394293713496:=()
def tw1821015788548343143:=()
def tw3530231669281786647:=()
def tw8789261561490062274:=()
def tw7917264083878293542:=()
def tw15238688525755631699:=()
def tw15840769874147906319:=()
def tw7121328176355705108:=()
def tw14412801649148315196:=()
def tw16206210217839509302:=()
def tw658541015287463289:=()
def tw9671802947556215623:=()
def tw10459295121631972419:=()
def tw1481186388376622468:=()
def tw13759456025270811156:=()
def tw13643866354721456636:=()
def tw16316802998200343598:=()
def tw4502215120803251861:=()
def tw14836810564754631183:=()
def tw1929292456297365840:=()
def tw12470588847328841022:=()
def tw1056223997132765956:=()
def tw4334528017774047359:=()
def tw2378307475047111066:=()
def tw18015959030181333348:=()
def tw2886642790960785310:=()
def tw832541143340910136:=()
def tw3811169000501717250:=()
def tw4888870918703860251:=()
def tw5172511160840562527:=()
def tw11256251726819412269:=()
def tw7020733849114011393:=()
def tw6839049003311172228:=()
def tw12889834977346305174:=()
def tw6215601361572195763:=()
def tw5961075092485474930:=()
def tw4253581359011262206:=()
def tw5856132351294087833:=()
def tw4376899668650127627:=()
def tw12971312606530739535:=()
def tw10883015677507568498:=()
def tw7842978309035746558:=()
def tw2500741449235878916:=()
def tw3761848094396537151:=()
def tw16392221624685590004:=()
def tw44329360728225002:=()
def tw14301135506974127348:=()
def tw3723002449499086939:=()
def tw5028042771238645790:=()
def tw13425351646372171757:=()
def tw18026725763950478588:=()
def tw12088705926245245765:=()
def tw3219569876177821295:=()
def tw13040219330665435370:=()
def tw17092588688935779154:=()
def tw7287679114150058139:=()
def tw11227365654024914153:=()
def tw7421395226977509504:=()
def tw3034688027927462749:=()
def tw16372943514013316340:=()
def tw13149889752039773651:=()
def tw6861683295159139072:=()
def tw14767524690134893460:=()
def tw17954970784927400440:=()
def tw1400338139811439634:=()
def tw7670466487623163843:=()
def tw5945831072370333076:=()
def tw8960066117131546146:=()
def tw7637231497554276742:=()
def tw13101244129054237731:=()
def tw656038453644563869:=()
def tw6903696182132474407:=()
def tw3497462845765657145:=()
def tw2014338558594801723:=()
def tw11196249353475631663:=()
def tw16874430526763129200:=()
def tw16133853345403895790:=()
def tw9513716527341503887:=()
def tw16258171331203181233:=()
def tw12514524816023103027:=()
def tw5189173713888291803:=()
def tw12032891059414858208:=()
def tw4176704083750649698:=()
def tw12697982319864630417:=()
def tw15637601443725137065:=()
def tw7047990718585654280:=()
def tw11637019773999298827:=()
def tw15109478861631815826:=()
def tw5018035506805763268:=()
def tw17243478296662387863:=()
def tw9546288472612303538:=()
def tw4145276167346963101:=()
def tw10037624742831995828:=()
def tw14297308576606826985:=()
def tw2177873205105260051:=()
def tw11696615428740493360:=()
def tw3859232232696981164:=()
def tw15783258886891476711:=()
def tw2882775417481185037:=()
def tw12936656718987970042:=()
def tw15969285274087412572:=()
def tw4484752761717442506:=()
def tw10703460758524838153:=()
def tw7868769376771673575:=()
def tw2619716102440746441:=()
def tw8214423942748127068:=()
def tw2194579761655387033:=()
def tw16709052626469780101:=()
def tw5549499406260220671:=()
def tw12965756194900931899:=()
def tw11350135740845022942:=()
def tw5801684516968157355:=()
def tw9150766107564765142:=()
def tw6245373566587202529:=()
def tw9732966019863886303:=()
def tw11675849566325620499:=()
def tw8498940740821686051:=()
def tw1008247379473160671:=()
def tw15534486879855853581:=()
def tw4967327448044088570:=()
def tw15752254947932060059:=()
def tw17382287215208620716:=()
def tw408354133901695428:=()
def tw5457554398289546660:=()
def tw12742430391400943211:=()
def tw8339696470508292417:=()
def tw6476102992244385598:=()
def tw15223359670752995705:=()
def tw3522529347406573078:=()
def tw17414460847143697309:=()
def tw12036200022880649204:=()
def tw17116064637810671520:=()
def tw16598961266219369832:=()
def tw6066219826255324908:=()
def tw17088756516213982399:=()
def tw15747406141883118156:=()
def tw11709310812154013201:=()
def tw16152018473754920165:=()
def tw2945847453571118172:=()
def tw1731149032346051414:=()
def tw7711533585860177482:=()
def tw17234712914781444418:=()
def tw9155607373843222975:=()
def tw14969507668596906765:=()
def tw3945898377752911539:=()
def tw5288758306967016515:=()
def tw5463856991970083662:=()
def tw13782249823368525782:=()
def tw474121585959750399:=()
def tw8161403192008959587:=()
def tw16008148245156772367:=()
def tw4759589080584263390:=()
def tw14525787571883346751:=()
def tw18034307667808909927:=()
def tw16481526046360213109:=()
def tw6148692062712368035:=()
def tw3226207597432296019:=()
def tw15289110039706268535:=()
def tw6981574464985046748:=()
def tw16712378123801664005:=()
def tw9333579422881077176:=()
def tw10163910095113597991:=()
def tw17984421053411595755:=()
def tw9395072920824539286:=()
def tw14289634425789614758:=()
def tw3590186206604617047:=()
def tw18249464981612666083:=()
def tw6116241123507712725:=()
def tw8280378293122953960:=()
def tw1306531431014572895:=()
def tw16179757757101759812:=()
def tw1813303077560982004:=()
def tw10769775162604936065:=()
def tw9907238389214215568:=()
def tw8130615927389965963:=()
def tw15056418949497461281:=()
def tw17656971815431517382:=()
def tw16646157641305441098:=()
def tw16661730946284165827:=()
def tw8861517310060284900:=()
def tw17506924200344775850:=()
def tw8603528624785678430:=()
def tw13537577481240487600:=()
def tw8148722512367461514:=()
def tw15402264640897394985:=()
def tw4326682227341829605:=()
def tw4444185335845247206:=()
def tw12943055736177697547:=()
def tw1663005538597367693:=()
def tw6241059582207340587:=()
def tw14895763277007820123:=()
def tw1268058553589873773:=()
def tw3108242302241345857:=()
def tw4355917351626413563:=()
def tw9874903015721288836:=()
def tw5137720067560341381:=()
def tw6275340665311644877:=()
def tw9678240633395031626:=()
def tw14660128271106341170:=()
def tw2062077813071728089:=()
def tw6524916444040746123:=()
def tw2189565049631701703:=()
def tw153659108796162015:=()
def tw1697859973300644580:=()
def tw10823100585370510346:=()
def tw11838629439265475474:=()
def tw422039491977917976:=()
def tw6809597443611239255:=()
def tw9879018615823717567:=()
def tw16888541776710229167:=()
def tw4675222394596668543:=()
def tw14051123282231630065:=()
def tw10519330820001946019:=()
def tw7448572052304836455:=()
def tw16887600597041055125:=()
def tw3891213762432686719:=()
def tw13309685498038924773:=()
def tw8858684182890544713:=()
def tw10381679575359554261:=()
def tw17995071313096205164:=()
def tw4338388486911347283:=()
def tw3023624867073871847:=()
def tw3768464551632397703:=()
def tw7398342516061473189:=()
def tw8373935140667326728:=()
def tw12982474338311341117:=()
def tw7952791112069710854:=()
def tw4667244856778695234:=()
def tw8283645035515223889:=()
def tw13110215770221620964:=()
def tw4557478188275755966:=()
def tw4524056525100889545:=()
def tw2475207597933066002:=()
def tw3618299836007968231:=()
def tw11393788065558418818:=()
def tw1410612108151548265:=()
def tw2018652458671903561:=()
def tw12226815680951353289:=()
def tw7710739858036220250:=()
def tw18329051346125421818:=()
def tw9680931547708265544:=()
def tw3182147671569140477:=()
def tw17378601813485173560:=()
def tw10045889577305364050:=()
def tw7583559806844379826:=()
def tw17182331269389724862:=()
def tw5848307748487344198:=()
def tw17049290921869841923:=()
def tw623874750237864853:=()
def tw10727172184127075325:=()
def tw2645848354640813124:=()
def tw9679347416361404141:=()
def tw11235176640374046602:=()
def tw4658885771220670709:=()
def tw12545232798724358600:=()
def tw9362054157020755909:=()
def tw17691919312360443247:=()
def tw8319370253088147265:=()
def tw5525442907557652436:=()
def tw9478538115678654973:=()
def tw3529696972077846762:=()
def tw6093475996437766962:=()
def tw10141264027985893612:=()
def tw11911683343510438389:=()
def tw13824621550904639321:=()
def tw11421160705092184963:=()
def tw2935844582363767978:=()
def tw7041251878461741386:=()
def tw1592257890967182873:=()
def tw1034338974923416536:=()
def tw2399011597211585095:=()
def tw12095852778954947377:=()
def tw11378206386108384973:=()
def tw17517793291447900310:=()
def tw6909589047665759616:=()
def tw16964081833757025675:=()
def tw17867428205240872893:=()
def tw8031102058666392364:=()
def tw14467146288040377356:=()
def tw10461651117932570777:=()
def tw7686395707413689070:=()
def tw16884479330835860211:=()
def tw18158261812078194323:=()
def tw9829299363444719821:=()
def tw13285589958999438034:=()
def tw6364651315134144265:=()
def tw7047108837558322040:=()
def tw9162378824777014874:=()
def tw3382699580912294824:=()
def tw17526088982113543880:=()
def tw10777573618097186229:=()
def tw16545516661952382837:=()
def tw16565082345945215932:=()
def tw14194057879849432352:=()
def tw13294704874568696280:=()
def tw928686525859066149:=()
def tw15593491901926265469:=()
def tw7921481602025815160:=()
def tw1994967592984968578:=()
def tw1080123490814145126:=()
def tw7693645917221274644:=()
def tw10398057273569953272:=()
def tw14192533166253747792:=()
def tw10781288103808584186:=()
def tw17278617701900381121:=()
def tw16787334793207457840:=()
def tw12143671473312798994:=()
def tw9418584484902068784:=()
def tw1793351325206509562:=()
def tw14544675228655966183:=()
def tw9989796355030959838:=()
def tw6187626279628246583:=()
def tw4013437539168725191:=()
def tw12404725395393601750:=()
def tw5060975725818639412:=()
def tw4857186410837636202:=()
def tw1971415063022332541:=()
def tw5388368935952210410:=()
def tw9137779065192161730:=()
def tw10054019777026971490:=()
def tw13709732354720418401:=()
def tw663725445953977282:=()
def tw6522352437271011789:=()
def tw10886397279977410756:=()
def tw3230026988681488004:=()
def tw14602326279045733534:=()
def tw12087707623620058787:=()
def tw2655791027943192441:=()
def tw18379005602374472829:=()
def tw15875403986439389803:=()
def tw9681604491658854476:=()
def tw2137119331832808640:=()
def tw14458588233707886629:=()
def tw18120071864451802169:=()
def tw14895915538080182685:=()
def tw14698989016054313526:=()
def tw2048008665920695281:=()
def tw16399926671709770257:=()
def tw12889503181014652344:=()
def tw600458267625059369:=()
def tw7119094798931995336:=()
def tw6758007408885768837:=()
def tw8210062206351666378:=()
def tw295010134344856793:=()
def tw7975617365491537260:=()
def tw2853936367016113407:=()
def tw9288117905340412500:=()
def tw14354403096590826095:=()
def tw7614023655524965064:=()
def tw11960946129642500426:=()
def tw16737258808087738424:=()
def tw17264724591266306971:=()
def tw12810976826997632038:=()
def tw9521235871658784826:=()
def tw8802314087843786762:=()
def tw5489947798025556312:=()
def tw5098109043873975395:=()
def tw14224531937424063579:=()
def tw5574842314086978394:=()
def tw10857134116973441455:=()
end PySem.W.Fast
open PySem PySem.W PyProof.Rows
set_option maxRecDepth 100000 in
set_option maxHeartbeats 0 in
theorem PySem.Challenge.cw_fewnotes_k47_recorders_and_twins_holds : PySem.Challenge.rw_fewnotes_k47_recorders_and_twins.Holds := by
 w_on;o_law;k_head;(case hw=>w_witness2)
 k_fill
 refine Prf.walk (l:=PySem.Challenge.rw_fewnotes_k47_recorders_and_twins) rfl rfl (fun w h Y=>PySem.W.kIn_of Y) ?F
 case F=>
  intro w mg fa h KX G hmg
  replace hmg:mg (Str.ofString "law")=some (.ref fa):=hmg
  refine' Prf.all_mk KX G hmg ?a0 ?l0 ?c0 ?k0 ?a1 ?l1 ?c1 ?k1 ?a2 ?l2 ?c2 ?k2 ?a3 ?l3 ?c3 ?k3 ?a4 ?l4 ?c4 ?k4 ?a5 ?l5 ?c5 ?k5 ?a6 ?l6 ?c6 ?k6 ?a7 ?l7 ?c7 ?k7 ?a8 ?l8 ?c8 ?k8 ?a9 ?l9 ?c9 ?k9 ?a10 ?l10 ?c10 ?k10 ?a11 ?l11 ?c11 ?k11 ?a12 ?l12 ?c12 ?k12 ?a13 ?l13 ?c13 ?k13 ?a14 ?l14 ?c14 ?k14 ?a15 ?l15 ?c15 ?k15 ?a16 ?l16 ?c16 ?k16 ?n16 ?a17 ?l17 ?c17 ?k17 ?n17 ?a18 ?l18 ?c18 ?k18 ?n18 ?a19 ?l19 ?c19 ?k19 ?a20 ?l20 ?c20 ?k20 ?n20 ?d20 ?a21 ?l21 ?c21 ?k21 ?a22 ?l22 ?c22 ?k22 ?n22 ?a23 ?l23 ?c23 ?k23 ?n23 ?a24 ?l24 ?c24 ?k24 ?n24 ?a25 ?l25 ?c25 ?k25 ?n25 ?a26 ?l26 ?c26 ?k26 ?n26 ?a27 ?l27 ?c27 ?k27 ?n27 ?a28 ?l28 ?c28 ?k28 ?a29 ?l29 ?c29 ?k29 ?a30 ?l30 ?c30 ?k30 ?a31 ?l31 ?c31 ?k31 ?n31 ?a32 ?l32 ?c32 ?k32 ?n32 ?a33 ?l33 ?c33 ?k33 ?n33 ?a34 ?l34 ?c34 ?Uw ?a35 ?l35 ?c35 ?k35 ?a36 ?l36 ?c36 ?k36 ?a37 ?l37 ?c37 ?k37 ?a38 ?l38 ?c38 ?k38 ?a39 ?l39 ?c39 ?k39 ?a40 ?l40 ?c40 ?k40 ?a41 ?l41 ?c41 ?k41 ?a42 ?l42 ?c42 ?k42 ?a43 ?l43 ?c43 ?k43 ?a44 ?l44 ?c44 ?k44 ?lM ?nj ?nG ?ni ?m_ ?nA ?nF ?jJ ?iw ?gR ?iu ?gQ ?Bh ?wZ ?xg ?wY ?wX ?w5 ?w6 ?nu ?qX ?jd ?jK ?lY ?oR ?uz ?uD ?uy ?ux ?p7 ?p8 ?i_ ?jc ?kW ?kO ?ycg ?yct ?nM ?nO ?jX ?uF ?uE ?nY ?Cw ?Cv ?iM ?lF ?jw ?mU ?pL ?pN ?pK ?pJ ?pI ?nJ ?Ob ?GC ?oU ?Oa ?nH ?N_ ?Gz ?N8 ?NZ ?Bk ?xq ?NQ ?NP ?Bj ?NK
  (case lM=>k_is)
  (case nj=>k_is)
  (case nG=>k_is)
  (case ni=>k_is)
  (case m_=>k_is)
  (case nA=>k_is)
  (case nF=>k_is)
  (case jJ=>k_is)
  (case iw=>k_is)
  (case gR=>k_is)
  (case iu=>k_is)
  (case gQ=>k_is)
  (case Bh=>k_is)
  (case wZ=>k_is)
  (case xg=>k_is)
  (case wY=>k_is)
  (case wX=>k_is)
  (case w5=>k_is)
  (case w6=>k_is)
  (case nu=>k_is)
  (case qX=>k_is)
  (case jd=>k_is)
  (case jK=>k_is)
  (case lY=>k_is)
  (case oR=>k_is)
  (case uz=>k_is)
  (case uD=>k_is)
  (case uy=>k_is)
  (case ux=>k_is)
  (case p7=>k_is)
  (case p8=>k_is)
  (case i_=>k_is)
  (case jc=>k_is)
  (case kW=>k_is)
  (case kO=>k_is)
  (case ycg=>k_is)
  (case yct=>k_is)
  (case nM=>k_is)
  (case nO=>k_is)
  (case jX=>k_is)
  (case uF=>k_is)
  (case uE=>k_is)
  (case nY=>k_is)
  (case Cw=>k_is)
  (case Cv=>k_is)
  (case iM=>k_is)
  (case lF=>k_is)
  (case jw=>k_is)
  (case mU=>kernel_rfl)
  (case pL=>kernel_rfl)
  (case pN=>kernel_rfl)
  (case pK=>kernel_rfl)
  (case pJ=>kernel_rfl)
  (case pI=>kernel_rfl)
  (case a0=>k_is)
  (case l0=>k_is)
  (case c0=>k_is)
  (case k0=>k_is)
  (case a1=>k_is)
  (case l1=>k_is)
  (case c1=>k_is)
  (case k1=>k_is)
  (case a2=>k_is)
  (case l2=>k_is)
  (case c2=>k_is)
  (case k2=>k_is)
  (case a3=>k_is)
  (case l3=>k_is)
  (case c3=>k_is)
  (case k3=>k_is)
  (case a4=>k_is)
  (case l4=>k_is)
  (case c4=>k_is)
  (case k4=>k_is)
  (case a5=>k_is)
  (case l5=>k_is)
  (case c5=>k_is)
  (case k5=>k_is)
  (case a6=>k_is)
  (case l6=>k_is)
  (case c6=>k_is)
  (case k6=>k_is)
  (case a7=>k_is)
  (case l7=>k_is)
  (case c7=>k_is)
  (case k7=>k_is)
  (case a8=>k_is)
  (case l8=>k_is)
  (case c8=>k_is)
  (case k8=>k_is)
  (case a9=>k_is)
  (case l9=>k_is)
  (case c9=>k_is)
  (case k9=>k_is)
  (case a10=>k_is)
  (case l10=>k_is)
  (case c10=>k_is)
  (case k10=>k_is)
  (case a11=>k_is)
  (case l11=>k_is)
  (case c11=>k_is)
  (case k11=>k_is)
  (case a12=>k_is)
  (case l12=>k_is)
  (case c12=>k_is)
  (case k12=>k_is)
  (case a13=>k_is)
  (case l13=>k_is)
  (case c13=>k_is)
  (case k13=>k_is)
  (case a14=>k_is)
  (case l14=>k_is)
  (case c14=>k_is)
  (case k14=>k_is)
  (case a15=>k_is)
  (case l15=>k_is)
  (case c15=>k_is)
  (case k15=>k_is)
  (case a16=>k_is)
  (case l16=>k_is)
  (case c16=>k_is)
  (case k16=>k_is)
  (case n16=>k_is)
  (case a17=>k_is)
  (case l17=>k_is)
  (case c17=>k_is)
  (case k17=>k_is)
  (case n17=>k_is)
  (case a18=>k_is)
  (case l18=>k_is)
  (case c18=>k_is)
  (case k18=>k_is)
  (case n18=>k_is)
  (case a19=>k_is)
  (case l19=>k_is)
  (case c19=>k_is)
  (case k19=>k_is)
  (case a20=>k_is)
  (case l20=>k_is)
  (case c20=>k_is)
  (case k20=>k_is)
  (case n20=>k_is)
  (case d20=>k_is)
  (case a21=>k_is)
  (case l21=>k_is)
  (case c21=>k_is)
  (case k21=>k_is)
  (case a22=>k_is)
  (case l22=>k_is)
  (case c22=>k_is)
  (case k22=>k_is)
  (case n22=>k_is)
  (case a23=>k_is)
  (case l23=>k_is)
  (case c23=>k_is)
  (case k23=>k_is)
  (case n23=>k_is)
  (case a24=>k_is)
  (case l24=>k_is)
  (case c24=>k_is)
  (case k24=>k_is)
  (case n24=>k_is)
  (case a25=>k_is)
  (case l25=>k_is)
  (case c25=>k_is)
  (case k25=>k_is)
  (case n25=>k_is)
  (case a26=>k_is)
  (case l26=>k_is)
  (case c26=>k_is)
  (case k26=>k_is)
  (case n26=>k_is)
  (case a27=>k_is)
  (case l27=>k_is)
  (case c27=>k_is)
  (case k27=>k_is)
  (case n27=>k_is)
  (case a28=>k_is)
  (case l28=>k_is)
  (case c28=>k_is)
  (case k28=>k_is)
  (case a29=>k_is)
  (case l29=>k_is)
  (case c29=>k_is)
  (case k29=>k_is)
  (case a30=>k_is)
  (case l30=>k_is)
  (case c30=>k_is)
  (case k30=>k_is)
  (case a31=>k_is)
  (case l31=>k_is)
  (case c31=>k_is)
  (case k31=>k_is)
  (case n31=>k_is)
  (case a32=>k_is)
  (case l32=>k_is)
  (case c32=>k_is)
  (case k32=>k_is)
  (case n32=>k_is)
  (case a33=>k_is)
  (case l33=>k_is)
  (case c33=>k_is)
  (case k33=>k_is)
  (case n33=>k_is)
  (case a34=>k_is)
  (case l34=>k_is)
  (case c34=>k_is)
  (case Uw=>k_is)
  (case a35=>k_is)
  (case l35=>k_is)
  (case c35=>k_is)
  (case k35=>k_is)
  (case a36=>k_is)
  (case l36=>k_is)
  (case c36=>k_is)
  (case k36=>k_is)
  (case a37=>k_is)
  (case l37=>k_is)
  (case c37=>k_is)
  (case k37=>k_is)
  (case a38=>k_is)
  (case l38=>k_is)
  (case c38=>k_is)
  (case k38=>k_is)
  (case a39=>k_is)
  (case l39=>k_is)
  (case c39=>k_is)
  (case k39=>k_is)
  (case a40=>k_is)
  (case l40=>k_is)
  (case c40=>k_is)
  (case k40=>k_is)
  (case a41=>k_is)
  (case l41=>k_is)
  (case c41=>k_is)
  (case k41=>k_is)
  (case a42=>k_is)
  (case l42=>k_is)
  (case c42=>k_is)
  (case k42=>k_is)
  (case a43=>k_is)
  (case l43=>k_is)
  (case c43=>k_is)
  (case k43=>k_is)
  (case a44=>k_is)
  (case l44=>k_is)
  (case c44=>k_is)
  (case k44=>k_is)
  (case nJ=>k_is)
  (case Ob=>k_is)
  (case GC=>k_is)
  (case oU=>k_is)
  (case Oa=>k_is)
  (case nH=>k_is)
  (case N_=>k_is)
  (case Gz=>k_is)
  (case N8=>k_is)
  (case NZ=>k_is)
  (case Bk=>k_is)
  (case xq=>k_is)
  (case NQ=>k_is)
  (case NP=>k_is)
  (case Bj=>k_is)
  (case NK=>k_is)
#print axioms PySem.Challenge.cw_fewnotes_k47_recorders_and_twins_holds
