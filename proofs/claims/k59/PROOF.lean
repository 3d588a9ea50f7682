import PyProof.Rows.All
import Wide.All
import OpenK.AllK
import Wide.FinOn
import Lean
import PyProof.EqAt
import PyProof.EqKinds
import PyProof.TupleCall
import PyProof.EqLayable
import PyProof.ExcArgsOwn
import PyProof.ExcAttrAll.Exception
import PyProof.RulesAs
import PyProof.ExcBaseAll.ValueError
import PyProof.NsDelKeeps
import PySem.Challenge.RW_fewnotes_k59_whole_cut_and_joined
set_option Elab.async false
set_option linter.all false
set_option maxRecDepth 100000
namespace L2
open PySem PySem.Spec PyProof.Rows
abbrev Key:=Sum Int Str
def tG:Key->Value->Bool
 | .inl k,v=>Value.isInt k v
 | .inr x,v=>Value.isStrOf x v
def abz (w:World):Key->Int
 | .inl k=>hashInt k
 | .inr x=>hashStr w x
theorem cQ:∀{k:Key} {v:Value},tG k v=true->(∃i t,k=Sum.inl i/\v=Value.int i t)\/(∃x t,k=Sum.inr x/\v=Value.str x t)
 | .inl i,v,h=>by
   obtain ⟨t,e⟩:=Value.isInt_shape (k:=i) (v:=v) h;exact .inl ⟨i,t,rfl,e⟩
 | .inr x,v,h=>by
   obtain ⟨t,e⟩:=Value.isStrOf_shape (x:=x) (v:=v) h;exact .inr ⟨x,t,rfl,e⟩
theorem Gz (i:Int) (t:Tok):tG (.inl i) (.int i t)=true:=by simp [tG,Value.isInt]
theorem Gy (x:Str) (t:Tok):tG (.inr x) (.str x t)=true:=by simp [tG,Value.isStrOf]
theorem Q6 (a b:Int):decide ((Sum.inl a:Key)=Sum.inl b)=(a==b):=by
 by_cases e:a=b
 ·subst e;simp
 ·have h:¬(Sum.inl a:Key)=Sum.inl b:=fun q=>e (Sum.inl.inj q)
  rw [decide_eq_false h];exact (beq_eq_false_iff_ne.mpr e).symm
theorem QZ (a b:Str):decide ((Sum.inr a:Key)=Sum.inr b)=decide (a=b):=by
 by_cases e:a=b
 ·subst e;simp
 ·have h:¬(Sum.inr a:Key)=Sum.inr b:=fun q=>e (Sum.inr.inj q)
  rw [decide_eq_false h,decide_eq_false e]
theorem Q5 (a:Int) (b:Str):decide ((Sum.inl a:Key)=Sum.inr b)=false:=decide_eq_false (fun q=>nomatch q)
theorem Q0 (a:Str) (b:Int):decide ((Sum.inr a:Key)=Sum.inl b)=false:=decide_eq_false (fun q=>nomatch q)
def bY (prog:Program) (w:World):PySem.KeyKind prog w Key where
 is:=tG
 hash:=abz w
 inj:=fun v a b ha hb=>by
  rcases cQ ha with ⟨i,t,rfl,rfl⟩|⟨x,t,rfl,rfl⟩
  ·rcases cQ hb with ⟨j,u,rfl,e⟩|⟨y,u,rfl,e⟩
   ·injection e with e1 _;rw [e1]
   ·exact nomatch e
  ·rcases cQ hb with ⟨j,u,rfl,e⟩|⟨y,u,rfl,e⟩
   ·exact nomatch e
   ·injection e with e1 _;rw [e1]
 byValue:=fun k v h=>by
  rcases cQ h with ⟨i,t,rfl,rfl⟩|⟨x,t,rfl,rfl⟩<;>rfl
 pyHash:=fun hv h=>by
  rcases cQ hv with ⟨i,t,rfl,rfl⟩|⟨x,t,rfl,rfl⟩
  ·exact wpAny_pyHash_int h
  ·exact wpAny_pyHash_str h
 eqBool:=fun hu hv h=>by
  rcases cQ hu with ⟨i,t,rfl,rfl⟩|⟨x,t,rfl,rfl⟩
  ·rcases cQ hv with ⟨j,u,rfl,rfl⟩|⟨y,u,rfl,rfl⟩
   ·rw [Q6] at h;exact wpAny_eqBool_int h
   ·rw [Q5] at h;exact SeqAt.EqAt.int_str i t y u _ _ _ _ h
  ·rcases cQ hv with ⟨j,u,rfl,rfl⟩|⟨y,u,rfl,rfl⟩
   ·rw [Q0] at h;exact SeqAt.EqAt.str_int x t j u _ _ _ _ h
   ·rw [QZ] at h;exact wpAny_eqBool_str h
 «strs» :=fun k x t v h=>by
  rcases cQ h with ⟨i,u,rfl,e⟩|⟨y,u,rfl,e⟩
  ·exact nomatch e
  ·injection e with e1 _
   subst e1;cases v<;>rfl
theorem Ck (prog:Program) (w:World) (k:Key) (v:Value):(bY prog w).is k v=tG k v:=rfl
theorem zj (prog:Program) (w:World) (i:Int) (t:Tok):(bY prog w).is (.inl i) (.int i t)=true:=Gz i t
theorem zf (prog:Program) (w:World) (x:Str) (t:Tok):(bY prog w).is (.inr x) (.str x t)=true:=Gy x t
end L2
namespace L2
open PySem PySem.Spec PyProof.Rows
inductive V where
 | non|bl (b:Bool)|int (i:Int)|str (x:Str)|EY (b:Array UInt8)|flt (b:UInt64)|ref (a:Addr)|ty (n:String)
 deriving DecidableEq
def RelV:V->Value->Prop
 | .non,u=>u=Value.none
 | .bl b,u=>u=Value.bool b
 | .int i,u=>∃t,u=Value.int i t
 | .str x,u=>∃t,u=Value.str x t
 | .EY b,u=>∃t,u=Value.bytes b t
 | .flt b,u=>∃t,u=Value.float b t
 | .ref a,u=>u=Value.ref a
 | .ty n,u=>u=Value.type n
abbrev Vals:List V->List Value->Prop:=Paired RelV
theorem Vals.length {xs:List V} {us:List Value} (r:Vals xs us):xs.length=us.length:=Paired.length r
theorem Vals.get:∀{xs:List V} {us:List Value} {i:Nat} {x:V},Vals xs us->xs[i]? = some x -> ∃u,us[i]? = some u/\RelV x u
 | _,_,_,_,.nil,e=>by simp at e
 | _,_,0,_,.cons r _,e=>by simp at e;subst e;exact ⟨_,rfl,r⟩
 | _,_,i+1,x,.cons _ t,e=>by
   obtain ⟨u,h1,h2⟩:=Vals.get (i:=i) (x:=x) t (by simpa using e);exact ⟨u,by simpa using h1,h2⟩
theorem Vals.set {x:V} {u:Value} (r:RelV x u):∀{xs:List V} {us:List Value} (i:Nat),Vals xs us->Vals (xs.set i x) (us.set i u)
 | _,_,_,.nil=> .nil
 | _,_,0,.cons _ t=> .cons r t
 | _,_,i+1,.cons q t=> .cons q (Vals.set r i t)
theorem Vals.append {xs ys:List V} {us ws:List Value} (h:Vals xs us) (s:Vals ys ws):Vals (xs++ys) (us++ws):=by
 induction h with
 | nil=>exact s
 | cons r t ih=>exact .cons r ih
theorem Vals.take:∀{xs:List V} {us:List Value} (n:Nat),Vals xs us->Vals (xs.take n) (us.take n)
 | _,_,0,_=> .nil
 | _,_,_+1,.nil=> .nil
 | _,_,n+1,.cons r t=> .cons r (Vals.take n t)
theorem Vals.drop:∀{xs:List V} {us:List Value} (n:Nat),Vals xs us->Vals (xs.drop n) (us.drop n)
 | _,_,0,r=>r
 | _,_,_+1,.nil=> .nil
 | _,_,n+1,.cons _ t=>Vals.drop n t
def qd:Option V->Option Value->Prop
 | some v,some u=>RelV v u
 | none,none=>True
 | _,_=>False
def KV {κ:Type}:List (κ×V)->List (κ×Value)->Prop:=Paired fun (p:κ×V) (q:κ×Value)=>p.1=q.1/\RelV p.2 q.2
def kV:Key->V
 | .inl i=> .int i
 | .inr x=> .str x
inductive HO where
 | lst (xs:List V)
 | tup (xs:List V)
 | dK (kvs:List (Key×V))|dT (kvs:List (List Key×V))
 | set (S:Int->Bool) (n:Nat)
 | ins (C dx:Addr) (fs:List (Str×V))
 | own (x:Addr)
 | xd (fs:List (Str×V))
 | met (f x:Addr)
 | rng (lo hi:Int)
 | lF (o:Obj) (u:HO)
 | Ox (ps:Array Value)
 | ext (φ:Heap->Prop)
abbrev Hp:=Addr->Option HO
def upd (H:Hp) (a:Addr) (o:HO):Hp:=fun b=>if b=a then some o else H b
theorem ak {H:Hp} {a:Addr} {o:HO}:upd H a o a=some o:=by unfold upd;rw [if_pos rfl]
theorem bA {H:Hp} {a b:Addr} {o:HO} (h:b≠a):upd H a o b=H b:=by unfold upd;rw [if_neg h]
theorem Lp {H:Hp} {a:Addr} {o u:HO}:upd (upd H a o) a u=upd H a u:=by
 funext b;unfold upd;split<;>rfl
theorem k_ {H:Hp} {a b:Addr} {o u:HO} (h:H a=some o) (h':H b=some u) (d:o≠u):a≠b:=by
 intro e;subst e;rw [h] at h';exact d (Option.some.inj h')
theorem aB {H:Hp} {a b:Addr} {o:HO} (h:H a=some o) (h':H b=none):a≠b:=by
 intro e;subst e;rw [h] at h';cases h'
section
variable (P:Program) (w:World)
def cD (H:Hp) (h:Heap) (a:Addr):HO->Prop
 | .lst xs=>xs.length<=sizeLine /\ ∃(its:List Value) (n:Nat),Vals xs its/\h.get? a=some {cls:= .type "list",data:= .seq its.toArray n}
 | .tup xs=>xs.length<=sizeLine /\ ∃its:List Value,Vals xs its/\IsTup h a its.toArray
 | .dK kvs=>kvs.length<=sizeLine/\(a==sysModules)=false /\ ∃vs,KV kvs vs/\h.DictOf (bY P w) a vs
 | .dT kvs=>kvs.length<=sizeLine/\(a==sysModules)=false /\ ∃xs:List (List Key×Addr×Value),
    Paired (fun (p:List Key×V) (q:List Key×Addr×Value)=>p.1=q.1/\H q.2.1=some (.tup (p.1.map kV))/\RelV p.2 q.2.2) kvs xs /\
    ∃o es ep,h.get? a=some o/\o.ExactDict/\o.data = .dict es ep/\es.toList=xs.map (entryOfKey (tupleKind (bY P w)))/\(xs.map (·.1)).Nodup
 | .set S n=>h.SetOf (intKind P w) a S n
 | .ins C dx fs=>H dx=some (.own a)/\fs.length<=1000/\dx≠a/\h.get? a=some (PySem.W.instObj C dx) /\
    ∃mA,h.Ns1 dx mA/\(∀f,qd (fs.lookup f) (mA f))/\PySem.Within mA (fs.map (·.1))
 | .own _=>∃o,h.get? a=some o
 | .xd fs=>∃mA,h.Ns1 a mA /\ ∀f,qd (fs.lookup f) (mA f)
 | .rng lo hi=>∃t u v,h.get? a=some {cls:= .type "range",data:= .fields #[.int lo t,.int hi u,.int 1 v]}
 | .lF o u=>h.get? a=some o/\cD H h a u
 | .Ox ps=>h.get? a=some {cls:= .none,data:= .fields ps}
 | .met f x=>h.get? a=some (PySem.W.methodObj (.ref f) (.ref x))
 | .ext φ=>φ h/\(∃o,h.get? a=some o) /\ ∀h1 h2:Heap,φ h1->(∀o,h1.get? a=some o->h2.get? a=some o)->φ h2
def n6 (H:Hp) (h:Heap):Prop:=∀a o,H a=some o->cD P w H h a o
end
section
variable {P:Program} {w:World} {H H':Hp} {h h':Heap} {a:Addr} {o:HO}
theorem cD.lt (x:cD P w H h a o):a<h.objs.size:=by
 cases o with
 | lst xs=>obtain ⟨_,_,_,_,e⟩:=x;exact Heap.lt_size e
 | tup xs=>obtain ⟨_,_,_,p⟩:=x;exact p.lt
 | dK kvs=>obtain ⟨_,_,_,_,o,_,_,e,_⟩:=x;exact Heap.lt_size e
 | dT kvs=>obtain ⟨_,_,_,_,o,_,_,e,_⟩:=x;exact Heap.lt_size e
 | set S n=>obtain ⟨o,_,_,_,e,_⟩:=x;exact Heap.lt_size e
 | ins C dx fs=>obtain ⟨_,_,_,e,_⟩:=x;exact Heap.lt_size e
 | own y=>obtain ⟨_,e⟩:=x;exact Heap.lt_size e
 | xd fs=>obtain ⟨_,⟨_,_,_,e,_⟩,_⟩:=x;exact Heap.lt_size e
 | rng lo hi=>obtain ⟨_,_,_,e⟩:=x;exact Heap.lt_size e
 | lF ob u=>obtain ⟨e,_⟩:=x;exact Heap.lt_size e
 | Ox ps=>exact Heap.lt_size (show h.get? a=some _ from x)
 | met f y=>exact Heap.lt_size (show h.get? a=some _ from x)
 | ext φ=>obtain ⟨_,⟨_,e⟩,_⟩:=x;exact Heap.lt_size e
theorem Paired.T9 {α β:Type} {F G:α->β->Prop}:∀{l₁:List α} {l₂:List β},Paired F l₁ l₂->(∀a b,F a b->G a b)->Paired G l₁ l₂
 :=by
 intro l₁ l₂ h f
 induction h with
 | nil=>exact .nil
 | cons r t ih=>exact .cons (f _ _ r) ih
theorem cD.stay (x:cD P w H h a o) (k:∀b u,(b=a\/H b=some (.own a))->h.get? b=some u->h'.get? b=some u)
 (ho:∀b,H b=some (.own a)->H' b=some (.own a)) (ht:∀b xs,H b=some (.tup xs)->H' b=some (.tup xs)):cD P w H' h' a o:=by
 induction o with
 | lst xs=>obtain ⟨z,its,n,r,e⟩:=x;exact ⟨z,its,n,r,k _ _ (.inl rfl) e⟩
 | tup xs=>obtain ⟨z,its,r,ob,e,c⟩:=x;exact ⟨z,its,r,ob,k _ _ (.inl rfl) e,c⟩
 | dK kvs=>obtain ⟨z,y,vs,r,ob,es,ep,e,c⟩:=x;exact ⟨z,y,vs,r,ob,es,ep,k _ _ (.inl rfl) e,c⟩
 | dT kvs=>
   obtain ⟨z,y,xs,r,ob,es,ep,e,c⟩:=x;exact ⟨z,y,xs,Paired.T9 r fun p q z=>⟨z.1,ht _ _ z.2.1,z.2.2⟩,ob,es,ep,k _ _ (.inl rfl) e,c⟩
 | set S n=>obtain ⟨ob,es,ep,t,e,c⟩:=x;exact ⟨ob,es,ep,t,k _ _ (.inl rfl) e,c⟩
 | ins C dx fs=>
   obtain ⟨d,z,ne,e,mA,⟨od,es,ep,e2,c⟩,r⟩:=x;exact ⟨ho _ d,z,ne,k _ _ (.inl rfl) e,mA,⟨od,es,ep,k _ _ (.inr d) e2,c⟩,r⟩
 | own y=>obtain ⟨ob,e⟩:=x;exact ⟨ob,k _ _ (.inl rfl) e⟩
 | xd fs=>obtain ⟨mA,⟨od,es,ep,e,c⟩,r⟩:=x;exact ⟨mA,⟨od,es,ep,k _ _ (.inl rfl) e,c⟩,r⟩
 | rng lo hi=>obtain ⟨t,u,v,e⟩:=x;exact ⟨t,u,v,k _ _ (.inl rfl) e⟩
 | lF ob u ih=>obtain ⟨e,q⟩:=x;exact ⟨k _ _ (.inl rfl) e,ih q⟩
 | Ox ps=>
   have e:h.get? a=some {cls:= .none,data:= .fields ps}:=x;show h'.get? a=some {cls:= .none,data:= .fields ps};exact k a _ (.inl rfl) e
 | met f y=>
   have e:h.get? a=some (PySem.W.methodObj (.ref f) (.ref y)):=x;show h'.get? a=some (PySem.W.methodObj (.ref f) (.ref y));exact k a _ (.inl rfl) e
 | ext φ=>obtain ⟨p,⟨o,e⟩,st⟩:=x;exact ⟨st _ _ p fun o q=>k _ _ (.inl rfl) q,⟨o,k _ _ (.inl rfl) e⟩,st⟩
theorem n6.lt (x:n6 P w H h) (e:H a=some o):a<h.objs.size:=(x a o e).lt
theorem n6.fresh (x:n6 P w H h) (e:h.objs.size<=a):H a=none:=by
 cases q:H a with
 | none=>rfl
 | some u=>exact absurd (Nat.lt_of_lt_of_le (x.lt q) e) (Nat.lt_irrefl _)
theorem n6.kept (x:n6 P w H h) (k:∀b u,h.get? b=some u->h'.get? b=some u):n6 P w H h':=fun a o e=>
 (x a o e).stay (fun b u _ q=>k b u q) (fun _ q=>q) fun _ _ q=>q
theorem n6.laid (x:n6 P w H h) (k:∀b u,h.get? b=some u->h'.get? b=some u) (hp:h.objs.size<=a) (new:cD P w (upd H a o) h' a o):n6 P w (upd H a o) h':=fun b u e=>by
 have hn:=x.fresh hp
 by_cases hb:b=a
 ·subst hb;rw [ak] at e;cases e;exact new
 ·rw [bA hb] at e
  exact (x b u e).stay (fun c v _ q=>k c v q) (fun c q=>by rw [bA (aB q hn)];exact q) fun c xs q=>by rw [bA (aB q hn)];exact q
end
def Rd (H:Hp) (a:Addr) (u:HO):Prop:=H a=some u \/ ∃o,H a=some (.lF o u)
theorem Rd.ok {P:Program} {w:World} {H:Hp} {h:Heap} {a:Addr} {u:HO} (r:Rd H a u) (x:n6 P w H h):cD P w H h a u:=by
 rcases r with r|⟨o,r⟩
 ·exact x a u r
 ·obtain ⟨_,q⟩:=x a _ r
  exact q
def V3:Option HO->Prop
 | some (.lst _)=>True
 | some (.dK _)=>True
 | some (.dT _)=>True
 | some (.set _ _)=>True
 | some (.ins _ _ _)=>True
 | some (.ext _)=>True
 | _=>False
section
variable {P:Program} {w:World} {H:Hp} {h h':Heap} {x e:Addr} {o':HO}
theorem n6.write (ok:n6 P w H h) (mu:V3 (H x)) (he:e=x\/H e=some (.own x)) (k:∀b u,b≠e->h.get? b=some u->h'.get? b=some u) (heo:∃u,h'.get? e=some u)
 (new:cD P w (upd H x o') h' x o'):n6 P w (upd H x o') h':=fun b u q=>by
 have T4:∀c y,H c=some (.own y)->c≠x:=fun c y r z=>by subst z;rw [r] at mu;exact mu
 have aaY:∀c xs,H c=some (.tup xs)->c≠x:=fun c xs r z=>by subst z;rw [r] at mu;exact mu
 by_cases hb:b=x
 ·subst hb;rw [ak] at q;cases q;exact new
 ·rw [bA hb] at q
  by_cases hbe:b=e
  ·have q':H b=some (.own x):=by
    rcases he with z|z
    ·exact absurd (hbe.trans z) hb
    ·rw [hbe];exact z
   rw [q] at q';cases q';obtain ⟨v,hv⟩:=heo;exact ⟨v,by rw [hbe];exact hv⟩
  ·refine (ok b u q).stay (fun c v hc r=>k c v ?_ r) (fun c r=>by rw [bA (T4 c b r)];exact r) fun c xs r=>by rw [bA (aaY c xs r)];exact r
   rcases hc with rfl|hc
   ·exact hbe
   ·rintro rfl
    rcases he with z|z
    ·exact T4 c b hc z
    ·rw [hc] at z;cases z;exact hb rfl
end
structure Un (fs ex:List Addr) (H H':Hp) (h h':Heap):Prop where
 keep:∀b o,h.get? b=some o->H b=none->b∉fs->b∉ex->h'.get? b=some o
 slot:∀b o,h.get? b=some o->H b=none->b∈fs->b∉ex -> ∃sl,h'.get? b=some {o with slots:=sl}
 free:∀b o,h.get? b=some o->H b=none->b∉ex->H' b=none
 there:∀b o,h.get? b=some o->b∉ex -> ∃o',h'.get? b=some o'
 tups:∀b xs,H b=some (.tup xs)->H' b=some (.tup xs)
 pZ:∀b o u,H b=some (.lF o u)->H' b=some (.lF o u)
 rO:∀b ps,H b=some (.Ox ps) -> ∃more,H' b=some (.Ox (ps++more))
section
variable {fs fs' ex ex':List Addr} {H H1 H2:Hp} {h h1 h2 h':Heap} {a x e:Addr} {o:HO}
theorem Un.any (u:Un fs ex H H1 h h1) {b:Addr} {ob:Obj} (q:h.get? b=some ob) (n:H b=none) (hx:b∉ex):∃sl,h1.get? b=some {ob with slots:=sl}:=by
 by_cases hb:b∈fs
 ·exact u.slot b ob q n hb hx
 ·exact ⟨ob.slots,u.keep b ob q n hb hx⟩
theorem Un.kept (k:∀b u,h.get? b=some u->h'.get? b=some u):Un fs ex H H h h':=
 ⟨fun b ob q _ _ _=>k b ob q,fun b ob q _ _ _=>⟨ob.slots,k b ob q⟩,fun _ _ _ n _=>n,fun b ob q _=>⟨ob,k b ob q⟩,fun _ _ q=>q,fun _ _ _ q=>q,fun _ ps q=>⟨#[],by rw [q];simp⟩⟩
theorem Un.refl:Un fs ex H H h h:=Un.kept fun _ _ q=>q
theorem Un.laid (k:∀b u,h.get? b=some u->h'.get? b=some u) (hp:h.objs.size<=a) (hn:H a=none):Un fs ex H (upd H a o) h h' where
 keep:=fun b u q _ _ _=>k b u q
 slot:=fun b u q _ _ _=>⟨u.slots,k b u q⟩
 free:=fun b u q n _=>by rw [bA (Nat.ne_of_lt (Nat.lt_of_lt_of_le (Heap.lt_size q) hp))];exact n
 there:=fun b u q _=>⟨u,k b u q⟩
 tups:=fun b xs q=>by rw [bA (aB q hn)];exact q
 pZ:=fun b u xs q=>by rw [bA (aB q hn)];exact q
 rO:=fun b ps q=>⟨#[],by rw [bA (aB q hn),q];simp⟩
theorem Un.write (mu:V3 (H x)) (he:e=x\/H e=some (.own x)) (k:∀b u,b≠e->h.get? b=some u->h'.get? b=some u) (heo:∃u,h'.get? e=some u):Un fs ex H (upd H x o) h h':=by
 have hx:∀b,H b=none->b≠x:=fun b n z=>by subst z;rw [n] at mu;exact mu
 have hb:∀b,H b=none->b≠e:=fun b n z=>by
  subst z;rcases he with r|r
  ·exact hx b n r
  ·rw [n] at r;cases r
 have hm:∀b u,H b=some u -> ¬V3 (some u)->b≠x:=fun b u q nm z=>by subst z;rw [q] at mu;exact nm mu
 refine ⟨fun b u q n _ _=>k b u (hb b n) q,fun b u q n _ _=>⟨u.slots,k b u (hb b n) q⟩,fun b u q n _=>by rw [bA (hx b n)];exact n,fun b u q _=> ?_,
  fun b xs q=>by rw [bA (hm b _ q fun z=>z)];exact q,fun b u xs q=>by rw [bA (hm b _ q fun z=>z)];exact q,fun b ps q=>⟨#[],by rw [bA (hm b _ q fun z=>z),q];simp⟩⟩
 by_cases hbe:b=e
 ·subst hbe;exact heo
 ·exact ⟨u,k b u hbe q⟩
end
def V_ (h:Heap) (H:Hp):List Addr:=(List.range h.objs.size).filter fun a=>(H a).isSome
def wX (h:Heap) (H:Hp):Heap:=PySem.W.hideAll h (V_ h H)
theorem GQ (h:Heap) (H:Hp):(wX h H).objs.size=h.objs.size:=PySem.W.hideAll_size _ _
theorem J2 {h:Heap} {H:Hp} {b:Addr} {o:Obj} (e:h.get? b=some o) (n:H b=none):(wX h H).get? b=some o:=
 PySem.W.hideAll_get _ e fun hm=>by
  have q:(H b).isSome=true:=(List.mem_filter.mp hm).2;rw [n] at q;simp at q
theorem MF {h:Heap} {H:Hp} {b:Addr} {o:Obj} (e:(wX h H).get? b=some o):h.get? b=some o/\H b=none:=by
 have e':h.get? b=some o:=PySem.W.of_hideAll (V_ h H) e;refine ⟨e', ?_⟩;cases q:H b with
 | none=>rfl
 | some x=>
   have hm:b∈V_ h H:=List.mem_filter.mpr ⟨List.mem_range.mpr (Heap.lt_size e'),by simp [q]⟩;have z:(wX h H).get? b=none:=PySem.W.hideAll_none (V_ h H) hm;rw [z] at e;cases e
def Oj (g h:Heap) (L:Addr):List (Addr×Obj):=(List.range h.objs.size).filterMap fun a=>if a=L\/(g.get? a).isSome=true then none else (h.get? a).map fun o=>(a,o)
def rest (g h:Heap) (L d:Addr):List (Addr×Obj):=(Oj g h L).filter fun p=>decide (p.1≠d)
end L2
namespace L2
open PySem PySem.Spec PyProof.Rows
structure Mod (K:PySem.W.Frag) (mg:Str->Option Value) (base:Heap):Prop where
 kin:K.In base
 glob:base.Ns mainGlobals mg
 blt:∃mb,base.Ns builtinsNs mb /\ ∀x:Str,x ≠ "__name__" -> mb x=bootBuiltins x
 nolimit:base.NoLimit
structure Cx where
 prog:Program
 w:World
 K:PySem.W.Frag
 mg:Str->Option Value
 base:Heap
 A:Around
 N:List Str
 s₀:Shared
 H₀:Hp
 env:Env
 outer:List Env
 stack:List Env
 ex:List Addr
 fn:Str->Bool
 calm:Bool
 pn:List (Addr×Obj)
 xe:Value->Shared->Prop
def frs (l:List Env):List Addr:=l.filterMap (·.frame)
abbrev Cx.fs (X:Cx):List Addr:=frs X.outer
def Vis (sc:Scope) (x:Str):Prop:=sc.names.lookup x=some .local\/sc.names.lookup x=some .cell\/sc.names.lookup x=some .free
def Loc (sc:Scope) (x:Str):Prop:=sc.names.lookup x=some .local\/sc.names.lookup x=some .cell
def Look (env:Env) (h:Heap) (m:Str->Option Value) (x:Str) (u:Value):Prop:=
 (env.kindOf x=some .local/\m x=some u)\/((env.kindOf x=some .cell\/env.kindOf x=some .free) /\ ∃c,env.cells.lookup x=some c/\h.IsCell c (some u))
structure Cx.Ok (X:Cx):Prop where
 mod:Mod X.K X.mg X.base
 kind:X.env.scope.kind = .function
 glob:X.env.globals=mainGlobals
 blt:X.env.builtins=builtinsNs
 above:X.s₀.heap.objs.size<=X.env.locals
 inj:∀x y c,X.env.cells.lookup x=some c->X.env.cells.lookup y=some c->x=y
 has:∀x,(X.env.kindOf x=some .cell\/X.env.kindOf x=some .free) -> ∃c,X.env.cells.lookup x=some c
 cab:∀x c,X.fn x=true->X.env.cells.lookup x=some c->X.s₀.heap.objs.size<=c
 hd:X.calm=true->X.A.handled=none
 frames:X.A.frames=some X.stack
 stk:X.stack=X.outer\/(X.stack=X.env::X.outer/\X.env.frame=some X.env.locals)
 exf:∀b∈X.ex,b≠X.env.locals /\ ∀x c,X.env.cells.lookup x=some c->c≠b
 bs:∀b o,X.base.get? b=some o->X.s₀.heap.get? b=some o/\X.H₀ b=none
 Lj:X.base.objs.size<=X.s₀.heap.objs.size
 Gn:∀b o,X.base.get? b=some o->b∉X.ex
 NP:∀b∈X.ex,b∉X.fs
 tO:X.s₀.heap.FunFrames X.base X.outer
 Ss:∀b∈X.fs,X.H₀ b=none
structure Inv (X:Cx) (pins:List (Addr×Obj)) (σ:List (Option V)) (H:Hp) (s:Shared):Prop where
 ok:X.Ok
 os:s.os=X.s₀.os
 bare:AllBare s.gens
 base:Un X.fs X.ex X.H₀ H X.s₀.heap s.heap
 loc:∃m,s.heap.Ns X.env.locals m /\ ∀(i:Nat) (x:Str) (v:V),X.N[i]? = some x->σ[i]? = some (some v)->Vis X.env.scope x -> ∃u,RelV v u/\Look X.env s.heap m x u
 cell:∀x c,X.env.cells.lookup x=some c -> ∃v,s.heap.IsCell c v
 free:H X.env.locals=none
 jT:∀x c,X.env.cells.lookup x=some c->H c=none
 pin:∀p∈X.pn++pins,s.heap.get? p.1=some p.2/\H p.1=none/\p.1≠X.env.locals/\p.1∉X.fs /\ ∀v,p.2.data ≠ .cell v
 hok:n6 X.prog X.w H s.heap
 len:σ.length=X.N.length
section
variable {X:Cx} {pins:List (Addr×Obj)} {σ:List (Option V)} {H H':Hp} {s:Shared} {h':Heap}
theorem Cx.Ok.aa4 (ok:X.Ok) {b:Addr} {o:Obj} (e:X.base.get? b=some o):b∉X.fs:=fun hb=>by
 have:=(ok.tO.mem hb).1;rw [e] at this;cases this
theorem Inv.bs (I:Inv X pins σ H s):∀b o,X.base.get? b=some o->s.heap.get? b=some o/\H b=none:=fun b o e=>
 ⟨I.base.keep b o (I.ok.bs b o e).1 (I.ok.bs b o e).2 (I.ok.aa4 e) (I.ok.Gn b o e),I.base.free b o (I.ok.bs b o e).1 (I.ok.bs b o e).2 (I.ok.Gn b o e)⟩
theorem Inv.bk (I:Inv X pins σ H s):∀b o,X.base.get? b=some o->s.heap.get? b=some o:=fun b o e=>(I.bs b o e).1
theorem Inv.mod (I:Inv X pins σ H s):Mod X.K X.mg X.base:=I.ok.mod
theorem Inv.vH (I:Inv X pins σ H s):X.K.In s.heap:=I.ok.mod.kin.keeps I.bk
theorem Inv.lt (I:Inv X pins σ H s):X.env.locals<s.heap.objs.size:=let ⟨_,hn,_⟩:=I.loc;hn.lt
theorem Inv.sz (I:Inv X pins σ H s):X.s₀.heap.objs.size<=s.heap.objs.size:=Nat.le_trans I.ok.above (Nat.le_of_lt I.lt)
theorem Inv.aa3 (I:Inv X pins σ H s) {a:Addr} (h:s.heap.objs.size<=a):a∉X.fs:=fun hb=>by
 obtain ⟨_,o,ho,_⟩:=I.ok.tO.mem hb;exact absurd (Nat.lt_of_lt_of_le (Heap.lt_size ho) (Nat.le_trans I.sz h)) (Nat.lt_irrefl _)
theorem Inv.RG (I:Inv X pins σ H s):∀x c,X.env.cells.lookup x=some c->c≠X.env.locals:=fun x c e z=>by
 obtain ⟨v,o,ho,hd⟩:=I.cell x c e;obtain ⟨m,⟨o',es,ep,ho',hd',_⟩,_⟩:=I.loc;rw [z,ho'] at ho;cases ho;rw [hd'] at hd;cases hd
theorem Inv.tO (I:Inv X pins σ H s):s.heap.FunFrames X.base X.outer:=by
 have all:∀(l:List Env),(∀b∈frs l,b∈X.fs)->X.s₀.heap.FunFrames X.base l->s.heap.FunFrames X.base l:=by
  intro l
  induction l with
  | nil=>intro _ _;trivial
  | cons env r ih=>
    intro hs hl;obtain ⟨hk,⟨L,o,hf,hn,ho,hd⟩,hr⟩:=hl;have hL:L∈X.fs:=hs L (by unfold frs;rw [List.filterMap_cons,hf];exact List.mem_cons_self);obtain ⟨sl,e⟩:=I.base.slot L o ho (I.ok.Ss L hL) hL fun z=>I.ok.NP L z hL;exact ⟨hk,⟨L,_,hf,hn,e,hd⟩,ih (fun b hb=>hs b (by unfold frs;rw [List.filterMap_cons,hf];exact List.mem_cons_of_mem _ hb)) hr⟩
 exact all X.outer (fun _ hb=>hb) I.ok.tO
theorem Inv.stack (I:Inv X pins σ H s):s.heap.FunFrames X.base X.stack:=by
 rcases I.ok.stk with e|⟨e,hf⟩
 ·rw [e];exact I.tO
 ·rw [e]
  obtain ⟨m,hn,_⟩:=I.loc;refine .cons (by rw [I.ok.kind];decide) hf hn ?_ I.tO;exact Heap.get?_none_of_le (Nat.le_trans I.ok.Lj I.ok.above)
theorem Inv.pG (I:Inv X pins σ H s):∀b∈frs X.stack,b∈X.env.locals::X.fs:=fun b hb=>by
 rcases I.ok.stk with e|⟨e,hf⟩
 ·rw [e] at hb;exact List.mem_cons_of_mem _ hb
 ·rw [e] at hb
  unfold frs at hb;rw [List.filterMap_cons,hf] at hb;exact hb
theorem Inv.vZ (I:Inv X pins σ H s):∀b∈frs X.stack,H b=none:=fun b hb=>by
 rcases List.mem_cons.mp (I.pG b hb) with e|hb
 ·rw [e];exact I.free
 ·obtain ⟨_,o,ho,_⟩:=I.ok.tO.mem hb
  exact I.base.free b o ho (I.ok.Ss b hb) fun z=>I.ok.NP b z hb
theorem Inv.step {g':Array GenState} {t':Nat} {d':Drawn} {ch:List Addr} (I:Inv X pins σ H s)
 (hch:∀b∈ch,(b∈X.ex\/X.s₀.heap.objs.size<=b)/\b≠X.env.locals/\(∀x c,X.env.cells.lookup x=some c->c≠b) /\ ∀p∈X.pn++pins,p.1≠b)
 (keep:∀b o,b≠X.env.locals->b∉X.fs->b∉ch->s.heap.get? b=some o->H b=none->h'.get? b=some o)
 (slot:∀b o,b≠X.env.locals->b∈X.fs->b∉ch->s.heap.get? b=some o->H b=none -> ∃sl,h'.get? b=some {o with slots:=sl}) (free:∀b o,b∉ch->s.heap.get? b=some o->H b=none->H' b=none)
 (there:∀b o,b∉ch->s.heap.get? b=some o -> ∃o',h'.get? b=some o')
 (tups:∀b xs,H b=some (.tup xs)->H' b=some (.tup xs)) (pZ:∀b o u,H b=some (.lF o u)->H' b=some (.lF o u)) (rO:∀b ps,H b=some (.Ox ps) -> ∃more,H' b=some (.Ox (ps++more)))
 (ns:∀m,s.heap.Ns X.env.locals m->h'.Ns X.env.locals m) (hok:n6 X.prog X.w H' h') (hg:AllBare g'):
 Inv X pins σ H' {s with heap:=h',gens:=g',drawn:=d',toks:=t'}:=by
 have neL:∀b o,X.s₀.heap.get? b=some o->b≠X.env.locals:=fun b o e=>Nat.ne_of_lt (Nat.lt_of_lt_of_le (Heap.lt_size e) I.ok.above)
 have WQ:∀b o,X.s₀.heap.get? b=some o->b∉X.ex->b∉ch:=fun b o e hx hb=>by
  rcases (hch b hb).1 with z|z
  ·exact hx z
  ·exact absurd (Nat.lt_of_lt_of_le (Heap.lt_size e) z) (Nat.lt_irrefl _)
 have cellK:∀x c,X.env.cells.lookup x=some c -> ∀v,s.heap.IsCell c v->h'.IsCell c v:=fun x c e v ⟨o,ho,hd⟩=>by
  have T6:c∉ch:=fun z=>(hch c z).2.2.1 x c e rfl
  by_cases hc:c∈X.fs
  ·obtain ⟨sl,q⟩:=slot c o (I.RG x c e) hc T6 ho (I.jT x c e)
   exact ⟨_,q,hd⟩
  ·exact ⟨o,keep c o (I.RG x c e) hc T6 ho (I.jT x c e),hd⟩
 refine ⟨I.ok,I.os,hg,⟨fun b o e n hb hx=> ?_,fun b o e n hb hx=> ?_,fun b o e n hx=> ?_,fun b o e hx=> ?_,fun b xs e=>tups b xs (I.base.tups b xs e),fun b o xs e=>pZ b o xs (I.base.pZ b o xs e),fun b ps e=> ?_⟩, ?_,fun x c e=> ?_, ?_,fun x c e=> ?_,fun p hp=> ?_,hok,I.len⟩
 ·exact keep b o (neL b o e) hb (WQ b o e hx) (I.base.keep b o e n hb hx) (I.base.free b o e n hx)
 ·obtain ⟨sl,e1⟩:=I.base.slot b o e n hb hx
  obtain ⟨sl',e2⟩:=slot b _ (neL b o e) hb (WQ b o e hx) e1 (I.base.free b o e n hx);exact ⟨sl',e2⟩
 ·obtain ⟨o',e1⟩:=I.base.there b o e hx
  exact free b o' (WQ b o e hx) e1 (I.base.free b o e n hx)
 ·obtain ⟨o',e1⟩:=I.base.there b o e hx
  exact there b o' (WQ b o e hx) e1
 ·obtain ⟨m1,e1⟩:=I.base.rO b ps e
  obtain ⟨m2,e2⟩:=rO b _ e1;exact ⟨m1++m2,by rw [e2,Array.append_assoc]⟩
 ·obtain ⟨m,hn,hl⟩:=I.loc
  refine ⟨m,ns m hn,fun i x v e1 e2 e3=> ?_⟩;obtain ⟨u,r,l⟩:=hl i x v e1 e2 e3;refine ⟨u,r, ?_⟩;rcases l with l|⟨k,c,e,z⟩
  ·exact .inl l
  ·exact .inr ⟨k,c,e,cellK x c e _ z⟩
 ·obtain ⟨v,z⟩:=I.cell x c e
  exact ⟨v,cellK x c e v z⟩
 ·obtain ⟨m,⟨o,_,_,ho,_⟩,_⟩:=I.loc
  exact free _ o (fun z=>(hch _ z).2.1 rfl) ho I.free
 ·obtain ⟨v,o,ho,hd⟩:=I.cell x c e
  exact free c o (fun z=>(hch c z).2.2.1 x c e rfl) ho (I.jT x c e)
 ·obtain ⟨e,n,ne,nf,d⟩:=I.pin p hp
  have T6:p.1∉ch:=fun z=>(hch p.1 z).2.2.2 p hp rfl;exact ⟨keep p.1 p.2 ne nf T6 e n,free p.1 p.2 T6 e n,ne,nf,d⟩
theorem Inv.un {t':Nat} (I:Inv X pins σ H s) (u:Un X.fs [] H H' s.heap h') (hok:n6 X.prog X.w H' h'):Inv X pins σ H' {s with heap:=h',toks:=t'}:=by
 obtain ⟨m,⟨o,es,ep,ho,r⟩,_⟩:=id I.loc;obtain ⟨sl,hL⟩:=u.any ho I.free (by simp)
 exact I.step (g':=s.gens) (d':=s.drawn) (ch:=[]) (fun _ z=>nomatch z) (fun b o _ hb _ e n=>u.keep b o e n hb (by simp)) (fun b o _ hb _ e n=>u.slot b o e n hb (by simp)) (fun b o _ e n=>u.free b o e n (by simp)) (fun b o _ e=>u.there b o e (by simp)) u.tups u.pZ u.rO (fun m' hm=>by
  obtain ⟨o',es',ep',ho',r'⟩:=hm;rw [ho] at ho';cases ho';exact ⟨_,es',ep',hL,r'⟩) hok I.bare
theorem Inv.call {g':Array GenState} {t':Nat} {d':Drawn} {ch:List Addr} (I:Inv X pins σ H s) (u:Un (frs X.stack) ch H H' s.heap h') (hok:n6 X.prog X.w H' h') (hg:AllBare g')
 (hch:∀b∈ch,(b∈X.ex\/X.s₀.heap.objs.size<=b)/\b≠X.env.locals/\(∀x c,X.env.cells.lookup x=some c->c≠b) /\ ∀p∈X.pn++pins,p.1≠b):
 Inv X pins σ H' {s with heap:=h',gens:=g',drawn:=d',toks:=t'}:=by
 obtain ⟨m,⟨o,es,ep,ho,r⟩,_⟩:=id I.loc;obtain ⟨sl,hL⟩:=u.any ho I.free fun z=>(hch _ z).2.1 rfl
 exact I.step (ch:=ch) hch (fun b o hL hb hc e n=>u.keep b o e n (fun z=>(List.mem_cons.mp (I.pG b z)).elim hL hb) hc) (fun b o _ _ hc e n=>u.any e n hc) (fun b o hc e n=>u.free b o e n hc) (fun b o hc e=>u.there b o e hc) u.tups u.pZ u.rO (fun m' hm=>by
  obtain ⟨o',es',ep',ho',r'⟩:=hm;rw [ho] at ho';cases ho';exact ⟨_,es',ep',hL,r'⟩) hok hg
theorem Inv.turned {t':Nat} {it:Addr} (I:Inv X pins σ H s) (k:∀b o,b≠it->s.heap.get? b=some o->h'.get? b=some o) (hn:H it=none) (hL:it≠X.env.locals)
 (h1:it∈X.ex\/X.s₀.heap.objs.size<=it) (h2:∀x c,X.env.cells.lookup x=some c->c≠it) (h3:∀p∈X.pn++pins,p.1≠it):Inv X pins σ H {s with heap:=h',toks:=t'}:=by
 have QJ:∀b u,H b=some u->b≠it:=fun b u e z=>by rw [z,hn] at e;cases e
 refine I.step (g':=s.gens) (d':=s.drawn) (ch:=[it]) (fun b hb=> ?_) (fun b o _ _ hc e _=>k b o (fun z=>hc (by simp [z])) e) (fun b o _ _ hc e _=>⟨o.slots,k b o (fun z=>hc (by simp [z])) e⟩) (fun _ _ _ _ n=>n)
  (fun b o hc e=>⟨o,k b o (fun z=>hc (by simp [z])) e⟩) (fun _ _ e=>e) (fun _ _ _ e=>e) (fun b ps e=>⟨#[],by rw [e];simp⟩) (fun m hm=> ?_) (fun b u e=> ?_) I.bare
 ·have e:b=it:=by simpa using hb
  subst e;exact ⟨h1,hL,h2,h3⟩
 ·obtain ⟨o,es,ep,ho,r⟩:=hm
  exact ⟨o,es,ep,k _ o (Ne.symm hL) ho,r⟩
 ·refine (I.hok b u e).stay (fun c v hc q=>k c v ?_ q) (fun _ q=>q) fun _ _ q=>q
  rcases hc with z|z
  ·rw [z];exact QJ b u e
  ·exact QJ c _ z
theorem Inv.tok (I:Inv X pins σ H s) (t:Nat):Inv X pins σ H {s with toks:=t}:=I.un (h':=s.heap) (t':=t) Un.refl I.hok
theorem Inv.kept {t':Nat} (I:Inv X pins σ H s) (k:∀b u,s.heap.get? b=some u->h'.get? b=some u):Inv X pins σ H {s with heap:=h',toks:=t'}:=I.un (Un.kept k) (I.hok.kept k)
theorem Inv.laid {a:Addr} {o:HO} {t':Nat} (I:Inv X pins σ H s) (k:∀b u,s.heap.get? b=some u->h'.get? b=some u) (hp:s.heap.objs.size<=a) (new:cD X.prog X.w (upd H a o) h' a o):
 Inv X pins σ (upd H a o) {s with heap:=h',toks:=t'}:=I.un (Un.laid k hp (I.hok.fresh hp)) (I.hok.laid k hp new)
theorem Inv.write {x e:Addr} {o:HO} {t':Nat} (I:Inv X pins σ H s) (mu:V3 (H x)) (he:e=x\/H e=some (.own x)) (k:∀b u,b≠e->s.heap.get? b=some u->h'.get? b=some u) (heo:∃u,h'.get? e=some u)
 (new:cD X.prog X.w (upd H x o) h' x o):Inv X pins σ (upd H x o) {s with heap:=h',toks:=t'}:=I.un (Un.write mu he k heo) (I.hok.write mu he k heo new)
theorem Inv.DW {vC:List (Addr×Obj)} (I:Inv X pins σ H s) (h:∀p∈vC,s.heap.get? p.1=some p.2/\H p.1=none/\p.1≠X.env.locals/\p.1∉X.fs /\ ∀v,p.2.data ≠ .cell v):Inv X vC σ H s:=
 ⟨I.ok,I.os,I.bare,I.base,I.loc,I.cell,I.free,I.jT,fun p hp=>(List.mem_append.mp hp).elim (fun z=>I.pin p (List.mem_append_left _ z)) (h p),I.hok,I.len⟩
theorem yX {N:List Str} (hN:N.Nodup) {i j:Nat} {x:Str} (a:N[i]? = some x) (b:N[j]? = some x):i=j:=by
 obtain ⟨h1,e1⟩:=List.getElem?_eq_some_iff.mp a;obtain ⟨h2,e2⟩:=List.getElem?_eq_some_iff.mp b;exact (List.getElem_inj hN).mp (e1.trans e2.symm)
theorem vp {M:Model} {A:Around} {E:Value->Shared->Prop} {i:Nat} {x:Str} {v:V} {u:Value} {Q:Unit->Shared->Prop} (I:Inv X pins σ H s) (hN:X.N.Nodup) (hi:X.N[i]? = some x) (hx:Loc X.env.scope x) (r:RelV v u)
 (h:∀s',Inv X pins (σ.set i (some v)) H s'->(∃a,Heap.SameBut a s.heap s'.heap/\(a=X.env.locals\/X.env.cells.lookup x=some a))->Q () s') (hf:X.fn x=true\/X.env.scope.names.lookup x=some .local:=by first |exact .inl rfl|exact .inr rfl|assumption):wpAny M A (storeName X.env x u) Q E s:=by
 obtain ⟨m,hn,hl⟩:=id I.loc;have hcls:(X.env.scope.kind == .class||(X.env.scope.kind == .module&&X.env.locals != X.env.globals))=false:=by rw [I.ok.kind];rfl
 have ae3:i<σ.length:=by rw [I.len];exact (List.getElem?_eq_some_iff.mp hi).1
 have RG:=I.RG
 have tracked:∀{a:Addr} {h':Heap},(∃o,s.heap.get? a=some o/\H a=none)->Heap.SameBut a s.heap h'->n6 X.prog X.w H h':=fun {a h'} ha hs b ob e=>by
  obtain ⟨_,_,hfree⟩:=ha;refine (I.hok b ob e).stay (fun c w' hc q=>(hs.2 c ?_).trans q) (fun _ q=>q) fun _ _ q=>q;rintro rfl;rcases hc with rfl|hc
  ·rw [hfree] at e;cases e
  ·rw [hfree] at hc;cases hc
 rcases hx with hk|hk
 ·refine wpAny_storeName_local hk hn (fun h' hn' hs=> ?_) hcls
  obtain ⟨oL,_,_,hoL,_⟩:=id hn;refine h _ ⟨I.ok,I.os,I.bare,⟨fun b o e n hb hx=> ?_,fun b o e n hb hx=> ?_,I.base.free,fun b o e hx=> ?_,I.base.tups,I.base.pZ,I.base.rO⟩,⟨_,hn',fun j y v' e1 e2 e3=> ?_⟩,fun y c e=> ?_,I.free,I.jT,fun p hp=> ?_,tracked ⟨oL,hoL,I.free⟩ hs,by simpa using I.len⟩ ⟨_,hs,.inl rfl⟩
  ·exact (hs.2 b (Nat.ne_of_lt (Nat.lt_of_lt_of_le (Heap.lt_size e) I.ok.above))).trans (I.base.keep b o e n hb hx)
  ·obtain ⟨sl,e1⟩:=I.base.slot b o e n hb hx
   exact ⟨sl,(hs.2 b (Nat.ne_of_lt (Nat.lt_of_lt_of_le (Heap.lt_size e) I.ok.above))).trans e1⟩
  ·obtain ⟨o',e1⟩:=I.base.there b o e hx
   exact ⟨o',(hs.2 b (Nat.ne_of_lt (Nat.lt_of_lt_of_le (Heap.lt_size e) I.ok.above))).trans e1⟩
  ·by_cases hj:j=i
   ·subst hj
    rw [hi] at e1;cases e1;rw [List.getElem?_set_self ae3] at e2;cases e2;exact ⟨u,r,.inl ⟨hk,by simp⟩⟩
   ·rw [List.getElem?_set_ne (Ne.symm hj)] at e2
    obtain ⟨u',r',q⟩:=hl j y v' e1 e2 e3;refine ⟨u',r', ?_⟩;rcases q with ⟨k,e⟩|⟨k,c,e,z⟩
    ·refine .inl ⟨k, ?_⟩
     have:y≠x:=fun e=>hj (yX hN e1 (e▸hi));simp [this,e]
    ·exact .inr ⟨k,c,e,z.sameBut hs (RG y c e)⟩
  ·obtain ⟨w',z⟩:=I.cell y c e
   exact ⟨w',z.sameBut hs (RG y c e)⟩
  ·obtain ⟨e,n,ne,nf,d⟩:=I.pin p hp
   exact ⟨(hs.2 p.1 ne).trans e,n,ne,nf,d⟩
 ·have hfn:X.fn x=true:=by
   rcases hf with z|z
   ·exact z
   ·rw [z] at hk;cases hk
  obtain ⟨c,hc⟩:=I.ok.has x (.inl hk);obtain ⟨w',z⟩:=I.cell x c hc;refine wpAny_storeName_cell I.ok.kind hk hc z (fun h' hc' hs=> ?_);obtain ⟨oc,hoc,ab9⟩:=id z;refine h {s with heap:=h'} ⟨I.ok,I.os,I.bare,⟨fun b o e n hb hx=> ?_,fun b o e n hb hx=> ?_,I.base.free,fun b o e hx=> ?_,I.base.tups,I.base.pZ,I.base.rO⟩,⟨m,hn.sameBut hs (Ne.symm (RG x c hc)),fun j y v' e1 e2 e3=> ?_⟩,fun y c' e=> ?_,I.free,I.jT,fun p hp=> ?_,tracked ⟨oc,hoc,I.jT x c hc⟩ hs,by simpa using I.len⟩ ⟨c,hs,.inr hc⟩
  ·exact (hs.2 b (Nat.ne_of_lt (Nat.lt_of_lt_of_le (Heap.lt_size e) (I.ok.cab x c hfn hc)))).trans (I.base.keep b o e n hb hx)
  ·obtain ⟨sl,e1⟩:=I.base.slot b o e n hb hx
   exact ⟨sl,(hs.2 b (Nat.ne_of_lt (Nat.lt_of_lt_of_le (Heap.lt_size e) (I.ok.cab x c hfn hc)))).trans e1⟩
  ·obtain ⟨o',e1⟩:=I.base.there b o e hx
   exact ⟨o',(hs.2 b (Nat.ne_of_lt (Nat.lt_of_lt_of_le (Heap.lt_size e) (I.ok.cab x c hfn hc)))).trans e1⟩
  ·by_cases hj:j=i
   ·subst hj
    rw [hi] at e1;cases e1;rw [List.getElem?_set_self ae3] at e2;cases e2;exact ⟨u,r,.inr ⟨.inl hk,c,hc,hc'⟩⟩
   ·rw [List.getElem?_set_ne (Ne.symm hj)] at e2
    obtain ⟨u',r',q⟩:=hl j y v' e1 e2 e3;refine ⟨u',r', ?_⟩;rcases q with q|⟨k,c',e,z'⟩
    ·exact .inl q
    ·refine .inr ⟨k,c',e,z'.sameBut hs ?_⟩
     rintro rfl;exact hj (yX hN e1 (I.ok.inj _ _ _ e hc▸hi))
  ·by_cases hcc:c'=c
   ·subst hcc;exact ⟨_,hc'⟩
   ·obtain ⟨w2,z2⟩:=I.cell y c' e
    exact ⟨w2,z2.sameBut hs hcc⟩
  ·obtain ⟨e,n,ne,nf,d⟩:=I.pin p hp
   refine ⟨(hs.2 p.1 ?_).trans e,n,ne,nf,d⟩;intro q;rw [q,hoc] at e;have q':oc=p.2:=Option.some.inj e;exact d w' (by rw [←q'];exact ab9)
theorem yw {M:Model} {A:Around} {E:Value->Shared->Prop} {i:Nat} {x:Str} {v:V} {u:Value} {Q:Unit->Shared->Prop} (I:Inv X pins σ H s) (hN:X.N.Nodup) (hi:X.N[i]? = some x) (hx:Loc X.env.scope x) (r:RelV v u)
 (h:∀s',Inv X pins (σ.set i (some v)) H s'->Q () s') (hf:X.fn x=true\/X.env.scope.names.lookup x=some .local:=by first |exact .inl rfl|exact .inr rfl|assumption):wpAny M A (storeName X.env x u) Q E s:=
 vp I hN hi hx r (fun s' I' _=>h s' I') hf
theorem Inv.call' {s':Shared} {ch:List Addr} (I:Inv X pins σ H s) (ho:s'.os=s.os) (u:Un (frs X.stack) ch H H' s.heap s'.heap) (hok:n6 X.prog X.w H' s'.heap) (hg:AllBare s'.gens)
 (hch:∀b∈ch,(b∈X.ex\/X.s₀.heap.objs.size<=b)/\b≠X.env.locals/\(∀x c,X.env.cells.lookup x=some c->c≠b) /\ ∀p∈X.pn++pins,p.1≠b):Inv X pins σ H' s':=by
 obtain ⟨h',g',d',t',o'⟩:=s';have e:o'=s.os:=ho;subst e;exact I.call (g':=g') (t':=t') (d':=d') u hok hg hch
end
abbrev XK:=Value->Option Addr->Hp->Prop
abbrev St:=List (Option V)
abbrev VK:=V->Hp->Prop
abbrev TE:=St->Hp->VK->Prop
abbrev TT:=St->Hp->(Bool->Hp->Prop)->Prop
abbrev TA:=St->Hp->(List V->Hp->Prop)->Prop
structure Ends where
 nx:St->Hp->Prop
 rt:VK
 bk:St->Hp->Prop:=fun _ _=>False
 ct:St->Hp->Prop:=fun _ _=>False
abbrev TS:=Ends->St->Hp->Prop
def EP (X:Cx) (pins:List (Addr×Obj)) (σ:St) (Q:VK) (u:Value) (s':Shared):Prop:=∃v H',Inv X pins σ H' s'/\RelV v u/\Q v H'
def TP (X:Cx) (pins:List (Addr×Obj)) (σ:St) (Q:Bool->Hp->Prop) (b:Bool) (s':Shared):Prop:=∃H',Inv X pins σ H' s'/\Q b H'
def AP (X:Cx) (pins:List (Addr×Obj)) (σ:St) (Q:List V->Hp->Prop) (us:List Value) (s':Shared):Prop:=∃vs H',Inv X pins σ H' s'/\Vals vs us/\Q vs H'
def SP (X:Cx) (pins:List (Addr×Obj)) (D:Ends) (f:Flow) (s':Shared):Prop:=
 match f with
 | .next=>∃σ' H',Inv X pins σ' H' s'/\D.nx σ' H'
 | .brk=>∃σ' H',Inv X pins σ' H' s'/\D.bk σ' H'
 | .cont=>∃σ' H',Inv X pins σ' H' s'/\D.ct σ' H'
 | .ret u=>∃v σ' H',Inv X pins σ' H' s'/\RelV v u/\D.rt v H'
def PE (X:Cx) (e:Expr) (t:TE):Prop:=
 ∀(pins:List (Addr×Obj)) (s:Shared) (σ:St) (H:Hp) (Q:VK),Inv X pins σ H s->t σ H Q->wpAny (model X.prog X.w) X.A (eval e X.env) (EP X pins σ Q) X.xe s
def PT (X:Cx) (e:Expr) (t:TT):Prop:=
 ∀(pins:List (Addr×Obj)) (s:Shared) (σ:St) (H:Hp) (Q:Bool->Hp->Prop),Inv X pins σ H s->t σ H Q->wpAny (model X.prog X.w) X.A (isTrue e X.env (eval e X.env)) (TP X pins σ Q) X.xe s
def PW (X:Cx) (e:Expr) (t:TT):Prop:=
 ∀(whole:Sem Value) (pins:List (Addr×Obj)) (s:Shared) (σ:St) (H:Hp) (Q:Bool->Hp->Prop),Inv X pins σ H s->t σ H Q->wpAny (model X.prog X.w) X.A (isTrue e X.env whole) (TP X pins σ Q) X.xe s
theorem PW.pt {X:Cx} {e:Expr} {t:TT} (h:PW X e t):PT X e t:=h _
def PA (X:Cx) (es:List Expr) (t:TA):Prop:=
 ∀(pos:Pos) (pins:List (Addr×Obj)) (s:Shared) (σ:St) (H:Hp) (Q:List V->Hp->Prop),Inv X pins σ H s->t σ H Q->wpAny (model X.prog X.w) X.A (spliced (backTo pos (starEach es X.env))) (AP X pins σ Q) X.xe s
def PS (X:Cx) (st:Stmt) (t:TS):Prop:=
 ∀(pins:List (Addr×Obj)) (s:Shared) (σ:St) (H:Hp) (D:Ends),Inv X pins σ H s->t D σ H->wpAny (model X.prog X.w) X.A (exec st X.env) (SP X pins D) X.xe s
def Hv (X:Cx) (st:List Stmt) (t:TS):Prop:=
 ∀(pins:List (Addr×Obj)) (s:Shared) (σ:St) (H:Hp) (D:Ends),Inv X pins σ H s->t D σ H->wpAny (model X.prog X.w) X.A (execs st X.env) (SP X pins D) X.xe s
theorem cT {α:Type} {t:Sem α} {Q Q':α->Shared->Prop} {M:Model} {A:Around} {E:Value->Shared->Prop} {s:Shared} (h:wpAny M A t Q E s) (hQ:∀a s,Q a s->Q' a s):wpAny M A t Q' E s:=wpAny_mono h hQ fun _ _ x=>x
end L2
namespace L2
open PySem PySem.Spec PyProof.Rows
section
variable {X:Cx}
def yt (i:Nat):TE:=fun σ H Q=>∃v,σ[i]? = some (some v)/\Q v H
def tC (v:V):TE:=fun _ H Q=>Q v H
theorem Qu {i:Nat} {x:Str} {pos:Pos} (hN:X.N[i]? = some x) (hv:Vis X.env.scope x) (hd:(x==("__debug__" :Str))=false:=by decide) (hcd:(x==("__classdict__" :Str))=false:=by decide):PE X (.Name x pos) (yt i):=by
 intro pins s σ H Q I h;obtain ⟨v,e,h⟩:=h;obtain ⟨m,hn,hl⟩:=I.loc;obtain ⟨u,r,l⟩:=hl i x v hN e hv;have fin:EP X pins σ Q u s:=⟨v,H,I,r,h⟩;rcases l with ⟨hk,hm⟩|⟨hk,c,hc,hcell⟩
 ·exact wpAny_Name (wpAny_loadName_local I.ok.kind hk hn hm fin) hd
 ·rcases hk with hk|hk
  ·exact wpAny_Name (wpAny_loadName_cell I.ok.kind hk hc hcell fin) hd
  ·exact wpAny_Name (wpAny_loadName_free I.ok.kind hk hc hcell fin hcd) hd
theorem au {i j pos}:PE X (.Constant (.int i) j pos) (tC (.int i)):=fun _ _ _ H _ I h=>wpAny_Constant_int ⟨.int i,H,I.tok _,⟨_,rfl⟩,h⟩
theorem oK {b j pos}:PE X (.Constant (.bool b) j pos) (tC (.bl b)):=fun _ _ _ H _ I h=>Constant_bool ⟨.bl b,H,I,rfl,h⟩
theorem fV {x j pos}:PE X (.Constant (.str x) j pos) (tC (.str x)):=fun _ _ _ H _ I h=>Calls.Constant_str ⟨.str x,H,I.tok _,⟨_,rfl⟩,h⟩
def Gl (X:Cx) (x:Str):Prop:=X.env.kindOf x=some .globalImplicit
theorem Ei {E:Value->Shared->Prop} {pins:List (Addr×Obj)} {s:Shared} {σ:St} {H:Hp} {x:Str} {u:Value} {pos:Pos} {Q:Value->Shared->Prop} (I:Inv X pins σ H s) (hg:Gl X x) (hm:X.mg x=some u) (h:Q u s)
 (hd:(x==("__debug__" :Str))=false:=by decide):wpAny (model X.prog X.w) X.A (eval (.Name x pos) X.env) Q E s:=
 Calls.Name_function_global I.ok.kind hg (Calls.loadGlobal_global (by rw [I.ok.glob];exact I.mod.glob.keeps I.bk) hm h) hd
theorem nW {E:Value->Shared->Prop} {pins:List (Addr×Obj)} {s:Shared} {σ:St} {H:Hp} {x:Str} {u:Value} {pos:Pos} {Q:Value->Shared->Prop} (I:Inv X pins σ H s) (hg:Gl X x) (hm:X.mg x=none) (hv:bootBuiltins x=some u) (h:Q u s)
 (hn:x ≠ "__name__" :=by decide) (hd:(x==("__debug__" :Str))=false:=by decide):wpAny (model X.prog X.w) X.A (eval (.Name x pos) X.env) Q E s:=by
 obtain ⟨mb,h1,h2⟩:=I.mod.blt;exact Calls.Name_function_global I.ok.kind hg (Calls.loadGlobal_builtin (by rw [I.ok.glob];exact I.mod.glob.keeps I.bk) hm (by rw [I.ok.blt];exact h1.keeps I.bk) ((h2 x hn).trans hv) h) hd
theorem Mq {x:Str} {v:V} {u:Value} {pos:Pos} (hg:Gl X x) (hm:X.mg x=some u) (r:RelV v u) (hd:(x==("__debug__" :Str))=false:=by decide):PE X (.Name x pos) (tC v):=
 fun _ _ _ H _ I h=>Ei I hg hm ⟨v,H,I,r,h⟩ hd
theorem fP {x:Str} {v:V} {u:Value} {pos:Pos} (hg:Gl X x) (hm:X.mg x=none) (hv:bootBuiltins x=some u) (r:RelV v u) (hn:x ≠ "__name__" :=by decide) (hd:(x==("__debug__" :Str))=false:=by decide):PE X (.Name x pos) (tC v):=
 fun _ _ _ H _ I h=>nW I hg hm hv ⟨v,H,I,r,h⟩ hn hd
variable {a b:Expr} {ta tb:TE} {pos:Pos}
def tB (t:TE):TT:=fun σ H Q=>t σ H fun x H1=>∃c,x = .bl c/\Q c H1
theorem cV {e:Expr} {t:TE} (h:PE X e t) (he:∀whole,isTrue e X.env whole=(do let v ←whole;standAt e.pos;holding [v] (truthy v)):=by intro _;rfl):PT X e (tB t):=by
 intro pins s σ H Q I hw;refine isTrue_plain (cT (h pins s σ H _ I hw) fun v s1 ⟨x,H1,I1,r1,q1⟩=> ?_) (he _);obtain ⟨d,rfl,q⟩:=q1;cases r1;exact wpAny_truthy_bool ⟨H1,I1,q⟩
variable {tA Wc:TT} {rest:List Expr}
def YB (t u:TT):TT:=fun σ H Q=>t σ H fun c H1=>if c=true then u σ H1 Q else Q false H1
def tOr (t u:TT):TT:=fun σ H Q=>t σ H fun c H1=>if c=true then Q true H1 else u σ H1 Q
def Yw (t:TT):TT:=fun σ H Q=>t σ H fun c H1=>Q (!c) H1
theorem rC (ha:PT X a tA):PW X (.BoolOp .And [a] pos) tA:=by
 intro wh pins s σ H Q I h;refine isTrue_and (cT (ha pins s σ H Q I h) fun c s1 e=> ?_);cases c with
 | true=>exact isTrue_and_nil e
 | false=>exact e
theorem nR (ha:PT X a tA):PW X (.BoolOp .Or [a] pos) tA:=by
 intro wh pins s σ H Q I h;refine isTrue_or (cT (ha pins s σ H Q I h) fun c s1 e=> ?_);cases c with
 | false=>exact isTrue_or_nil e
 | true=>exact e
theorem wF (ha:PT X a tA) (hb:PW X (.BoolOp .And (b::rest) pos) Wc):PW X (.BoolOp .And (a::b::rest) pos) (YB tA Wc):=by
 intro wh pins s σ H Q I h;refine isTrue_and (cT (ha pins s σ H _ I h) fun c s1 ⟨H1,I1,q1⟩=> ?_);cases c with
 | true=>exact hb wh pins s1 σ H1 Q I1 q1
 | false=>exact ⟨H1,I1,q1⟩
theorem ql (ha:PT X a tA) (hb:PW X (.BoolOp .Or (b::rest) pos) Wc):PW X (.BoolOp .Or (a::b::rest) pos) (tOr tA Wc):=by
 intro wh pins s σ H Q I h;refine isTrue_or (cT (ha pins s σ H _ I h) fun c s1 ⟨H1,I1,q1⟩=> ?_);cases c with
 | true=>exact ⟨H1,I1,q1⟩
 | false=>exact hb wh pins s1 σ H1 Q I1 q1
theorem eO (ha:PT X a tA):PT X (.UnaryOp .Not a pos) (Yw tA):=by
 intro pins s σ H Q I h;exact isTrue_not (ha pins s σ H (fun c H1=>Q (!c) H1) I h)
def S_ (ta tb:TE):TE:=fun σ H Q=>ta σ H fun x H1=>∃c,x = .bl c/\if c=true then tb σ H1 Q else Q (.bl false) H1
def SN (ta tb:TE):TE:=fun σ H Q=>ta σ H fun x H1=>∃c,x = .bl c/\if c=true then Q (.bl true) H1 else tb σ H1 Q
def SQ (ta:TE):TE:=fun σ H Q=>ta σ H fun x H1=>∃c,x = .bl c/\Q (.bl (!c)) H1
theorem kh {op} {t:TE} (h:PE X a t):PE X (.BoolOp op [a] pos) t:=fun pins s σ H Q I hw=>BoolOp_one (h pins s σ H Q I hw)
theorem lR (ha:PE X a ta) (hb:PE X (.BoolOp .And (b::rest) pos) tb):PE X (.BoolOp .And (a::b::rest) pos) (S_ ta tb):=by
 intro pins s σ H Q I h;refine BoolOp_and (cT (ha pins s σ H _ I h) fun v s1 ⟨x,H1,I1,r1,q1⟩=> ?_);obtain ⟨c,rfl,q1⟩:=q1;cases r1;refine wpAny_truthy_bool ?_;cases c with
 | true=>exact hb pins s1 σ H1 Q I1 q1
 | false=>exact ⟨.bl false,H1,I1,rfl,q1⟩
theorem Jp (ha:PE X a ta) (hb:PE X (.BoolOp .Or (b::rest) pos) tb):PE X (.BoolOp .Or (a::b::rest) pos) (SN ta tb):=by
 intro pins s σ H Q I h;refine BoolOp_or (cT (ha pins s σ H _ I h) fun v s1 ⟨x,H1,I1,r1,q1⟩=> ?_);obtain ⟨c,rfl,q1⟩:=q1;cases r1;refine wpAny_truthy_bool ?_;cases c with
 | false=>exact hb pins s1 σ H1 Q I1 q1
 | true=>exact ⟨.bl true,H1,I1,rfl,q1⟩
theorem Jq (ha:PE X a ta):PE X (.UnaryOp .Not a pos) (SQ ta):=by
 intro pins s σ H Q I h;refine UnaryOp_ (cT (ha pins s σ H _ I h) fun v s1 ⟨x,H1,I1,r1,q1⟩=> ?_);obtain ⟨c,rfl,q1⟩:=q1;cases r1;exact not_of (wpAny_truthy_bool ⟨.bl (!c),H1,I1,rfl,q1⟩)
end
end L2
namespace L2
open PySem PySem.Spec PyProof.Rows
def aW (K:PySem.W.Frag) (H:Hp) (a:Addr) (xs:List V):Prop:=
 Rd H a (.lst xs) \/
  ∃(o:Obj) (its:Array Value) (n:Nat),K.lookup a=some o/\o.cls = .type "list" /\ o.dict=none/\o.data = .seq its n/\its.size<=sizeLine/\Vals xs its.toList
def cu (K:PySem.W.Frag) (H:Hp) (a:Addr) (xs:List V):Prop:=
 Rd H a (.tup xs) \/
  ∃(o:Obj) (its:Array Value) (n:Nat),K.lookup a=some o/\o.cls = .type "tuple" /\ o.data = .seq its n/\its.size<=sizeLine/\Vals xs its.toList
def ad6:Value->Option V
 | .none=>some .non
 | .bool b=>some (.bl b)
 | .int i _=>some (.int i)
 | .str x _=>some (.str x)
 | .bytes b _=>some (.EY b)
 | .float b _=>some (.flt b)
 | .ref a=>some (.ref a)
 | .type n=>some (.ty n)
 | _=>none
theorem RelV.abs {x:V} {u:Value} (r:RelV x u):ad6 u=some x:=by
 cases x with
 | non=>cases r;rfl
 | bl _=>cases r;rfl
 | int _=>obtain ⟨t,rfl⟩:=r;rfl
 | str _=>obtain ⟨t,rfl⟩:=r;rfl
 | EY _=>obtain ⟨t,rfl⟩:=r;rfl
 | flt _=>obtain ⟨t,rfl⟩:=r;rfl
 | ref _=>cases r;rfl
 | ty _=>cases r;rfl
theorem RelV.inj {x y:V} {u:Value} (r:RelV x u) (q:RelV y u):x=y:=Option.some.inj (r.abs.symm.trans q.abs)
theorem Vals.inj {xs ys:List V} {us:List Value} (h:Vals xs us) (h':Vals ys us):xs=ys:=by
 induction h generalizing ys with
 | nil=>cases h';rfl
 | cons r t ih=>cases h' with
   | cons r' t'=>rw [r.inj r',ih t']
section
variable {X:Cx} {pins:List (Addr×Obj)} {σ:St} {H:Hp} {s:Shared} {a:Addr} {xs ys:List V}
theorem aW.of {K:PySem.W.Frag} (h:H a=some (.lst xs)):aW K H a xs:= .inl (.inl h)
theorem cu.of {K:PySem.W.Frag} (h:H a=some (.tup xs)):cu K H a xs:= .inl (.inl h)
theorem Inv.list (I:Inv X pins σ H s) (h:aW X.K H a xs):∃its:List Value,Vals xs its/\PlainL s.heap a its.toArray/\xs.length<=sizeLine:=by
 rcases h with h|⟨o,its,n,hk,hc,hd,hs,hz,r⟩
 ·obtain ⟨z,its,n,r,e⟩:=h.ok I.hok
  exact ⟨its,r,⟨_,n,e,rfl,rfl,rfl⟩,z⟩
 ·refine ⟨its.toList,r,⟨o,n,I.vH a o hk,hc,hd,by simpa using hs⟩, ?_⟩
  have e:=r.length;simp only [Array.length_toList] at e;omega
theorem Inv.tuple (I:Inv X pins σ H s) (h:cu X.K H a xs):∃its:List Value,Vals xs its/\IsTup s.heap a its.toArray/\xs.length<=sizeLine:=by
 rcases h with h|⟨o,its,n,hk,hc,hs,hz,r⟩
 ·obtain ⟨z,its,r,p⟩:=h.ok I.hok
  exact ⟨its,r,p,z⟩
 ·refine ⟨its.toList,r,⟨o,I.vH a o hk,hc,n,by simpa using hs⟩, ?_⟩
  have e:=r.length;simp only [Array.length_toList] at e;omega
theorem Inv.oM (I:Inv X pins σ H s) (h:aW X.K H a xs) (h':aW X.K H a ys):xs=ys:=by
 obtain ⟨its,r,⟨o,n,e,_,_,d⟩,_⟩:=I.list h;obtain ⟨its',r',⟨o',n',e',_,_,d'⟩,_⟩:=I.list h';rw [e] at e';cases e';rw [d] at d';injection d' with d1 _
 have:its=its':=by simpa using congrArg Array.toList d1
 subst this;exact r.inj r'
theorem Inv.Fx (I:Inv X pins σ H s) (h:cu X.K H a xs) (h':cu X.K H a ys):xs=ys:=by
 obtain ⟨its,r,⟨o,e,_,n,d⟩,_⟩:=I.tuple h;obtain ⟨its',r',⟨o',e',_,n',d'⟩,_⟩:=I.tuple h';rw [e] at e';cases e';rw [d] at d';injection d' with d1 _
 have:its=its':=by simpa using congrArg Array.toList d1
 subst this;exact r.inj r'
end
abbrev Cx.wish (X:Cx) (E:Value->Shared->Prop):Cx:={X with xe:=E}
abbrev Cx.WM (X:Cx):Cx:=X.wish fun _ _=>False
theorem Cx.Ok.wish {X:Cx} (ok:X.Ok) (E:Value->Shared->Prop):(X.wish E).Ok:=
 ⟨ok.mod,ok.kind,ok.glob,ok.blt,ok.above,ok.inj,ok.has,ok.cab,ok.hd,ok.frames,ok.stk,ok.exf,ok.bs,ok.Lj,ok.Gn,ok.NP,ok.tO,ok.Ss⟩
theorem Cx.Ok.lJ {X:Cx} {E:Value->Shared->Prop} (ok:(X.wish E).Ok):X.Ok:=
 ⟨ok.mod,ok.kind,ok.glob,ok.blt,ok.above,ok.inj,ok.has,ok.cab,ok.hd,ok.frames,ok.stk,ok.exf,ok.bs,ok.Lj,ok.Gn,ok.NP,ok.tO,ok.Ss⟩
section
variable {X:Cx} {pins:List (Addr×Obj)} {σ:St} {H:Hp} {s:Shared} {E:Value->Shared->Prop}
theorem Inv.wish (I:Inv X pins σ H s) (E:Value->Shared->Prop):Inv (X.wish E) pins σ H s:=⟨I.ok.wish E,I.os,I.bare,I.base,I.loc,I.cell,I.free,I.jT,I.pin,I.hok,I.len⟩
theorem Inv.lJ (I:Inv (X.wish E) pins σ H s):Inv X pins σ H s:=⟨I.ok.lJ,I.os,I.bare,I.base,I.loc,I.cell,I.free,I.jT,I.pin,I.hok,I.len⟩
theorem SP.lJ {D:Ends} {f:Flow} {s':Shared} (h:SP (X.wish E) pins D f s'):SP X pins D f s':=by
 cases f with
 | next=>obtain ⟨σ',H',I,q⟩:=h;exact ⟨σ',H',I.lJ,q⟩
 | brk=>obtain ⟨σ',H',I,q⟩:=h;exact ⟨σ',H',I.lJ,q⟩
 | cont=>obtain ⟨σ',H',I,q⟩:=h;exact ⟨σ',H',I.lJ,q⟩
 | ret u=>obtain ⟨v,σ',H',I,r,q⟩:=h;exact ⟨v,σ',H',I.lJ,r,q⟩
theorem Hv.WM {st:List Stmt} {t:TS} (h:Hv X.WM st t):Hv X st t:=fun pins s σ H D I hw=>
 wpAny_mono (h pins s σ H D (I.wish _) hw) (fun _ _ q=>q.lJ) fun _ _ z=>False.elim z
end
section
variable {X:Cx} {st:Stmt} {rest:List Stmt} {t u:TS} {e:Expr} {te:TE} {pos:Pos}
def Oz:TS:=fun D σ H=>D.nx σ H
def Pz (t u:TS):TS:=fun D σ H=>t {D with nx:=u D} σ H
theorem bK:Hv X [] Oz:=fun _ _ σ H _ I h=>wpAny_execs_nil ⟨σ,H,I,h⟩
theorem aA (h1:PS X st t) (h2:Hv X rest u):Hv X (st::rest) (Pz t u):=by
 intro pins s σ H D I h;refine wpAny_execs_cons (cT (h1 pins s σ H {D with nx:=u D} I h) fun f s1 q=> ?_);cases f with
 | next=>
   obtain ⟨σ',H',I',q⟩:=q;exact h2 pins s1 σ' H' D I' q
 | ret v=>exact q
 | brk=>exact q
 | cont=>exact q
theorem aG (h1:PS X st t):Hv X [st] t:=by
 intro pins s σ H D I h;refine wpAny_execs_cons (cT (h1 pins s σ H D I h) fun f s1 q=> ?_);cases f with
 | next=>exact wpAny_execs_nil q
 | ret v=>exact q
 | brk=>exact q
 | cont=>exact q
theorem Inv.quiet {pins:List (Addr×Obj)} {σ:St} {H:Hp} {s:Shared} (I:Inv X pins σ H s):interactive X.env=false:=by simp [interactive,I.ok.kind]
def S6 (te:TE):TS:=fun D σ H=>te σ H fun _ H1=>D.nx σ H1
theorem dz (he:PE X e te) (hs:swapsWith e none pos.line X.env=pure false:=by rfl):PS X (.Expr e pos) (S6 te):=by
 intro pins s σ H D I h;exact wpAny_Expr_any (cT (he pins s σ H _ I h) fun v s1 ⟨x,H1,I1,r1,q1⟩=>⟨σ,H1,I1,q1⟩) I.quiet hs
def PB (te:TE):TS:=fun D σ H=>te σ H D.rt
theorem bw (he:PE X e te):PS X (.Return (some e) pos) (PB te):=by
 intro pins s σ H D I h;exact wpAny_Return_some (cT (he pins s σ H _ I h) fun v s1 ⟨x,H1,I1,r1,q1⟩=>⟨x,σ,H1,I1,r1,q1⟩)
def S5 (c:TT) (t u:TS):TS:=fun D σ H=>c σ H fun b H1=>if b=true then t D σ H1 else u D σ H1
theorem dH {c:Expr} {a b:List Stmt} {tc:TT} (hc:PT X c tc) (ha:Hv X a t) (hb:Hv X b u):PS X (.If c a b pos) (S5 tc t u):=by
 intro pins s σ H D I h;refine wpAny_If (cT (hc pins s σ H _ I h) fun d s1 ⟨H1,I1,q1⟩=> ?_);cases d with
 | true=>exact ha pins s1 σ H1 D I1 q1
 | false=>exact hb pins s1 σ H1 D I1 q1
def PK:TS:=fun _ _ _=>False
theorem jO:PS X st PK:=fun _ _ _ _ _ _ h=>h.elim
end
abbrev TG:=V->St->Hp->(St->Hp->Prop)->Prop
abbrev Pr:=List V->St->Hp->(St->Hp->Prop)->Prop
def PG (X:Cx) (target:Expr) (t:TG):Prop:=
 ∀(pins:List (Addr×Obj)) (s:Shared) (σ:St) (H:Hp) (v:V) (u:Value) (Q:St->Hp->Prop),Inv X pins σ H s->RelV v u->t v σ H Q ->
  wpAny (model X.prog X.w) X.A (assign target X.env u) (fun _ s'=>∃σ' H',Inv X pins σ' H' s'/\Q σ' H') X.xe s
def V1 (X:Cx) (ts:List Expr) (t:Pr):Prop:=
 ∀(pins:List (Addr×Obj)) (s:Shared) (σ:St) (H:Hp) (vs:List V) (us:List Value) (Q:St->Hp->Prop),Inv X pins σ H s->Vals vs us->t vs σ H Q ->
  wpAny (model X.prog X.w) X.A (assignInOrder ((assignEach ts X.env).map (·.2)) us) (fun _ s'=>∃σ' H',Inv X pins σ' H' s'/\Q σ' H') X.xe s
abbrev RM:=V->V->V->Hp->(Hp->Prop)->Prop
def V0 (X:Cx) (t:RM):Prop:=
 ∀(pins:List (Addr×Obj)) (s:Shared) (σ:St) (H:Hp) (o i v:V) (ov iv u:Value) (Q:Hp->Prop),Inv X pins σ H s->RelV o ov->RelV i iv->RelV v u->t o i v H Q ->
  wpAny (model X.prog X.w) X.A (setItem ov iv u) (fun _ s'=>∃H',Inv X pins σ H' s'/\Q H') X.xe s
section
variable {X:Cx} {pos:Pos}
def fG (i:Nat):TG:=fun v σ H Q=>Q (σ.set i (some v)) H
theorem aP {i:Nat} {x:Str} (hN:X.N.Nodup) (hi:X.N[i]? = some x) (hx:Loc X.env.scope x) (hf:X.fn x=true\/X.env.scope.names.lookup x=some .local:=by first |exact .inl rfl|exact .inr rfl|assumption):PG X (.Name x pos) (fG i):=by
 intro pins s σ H v u Q I r h;exact wpAny_assign_Name (yw I hN hi hx r (fun s' I'=>⟨_,H,I',h⟩) hf)
def UJ:Pr:=fun vs σ H Q=>vs=[]/\Q σ H
def J8 (t:TG) (u:Pr):Pr:=fun vs σ H Q=>∃v r,vs=v::r/\t v σ H fun σ' H'=>u r σ' H' Q
theorem iB:V1 X [] UJ:=by
 intro pins s σ H vs us Q I r h;obtain ⟨e,h⟩:=h;subst e;cases r;exact assignInOrder_nil ⟨σ,H,I,h⟩
theorem bB {e:Expr} {es:List Expr} {t:TG} {u:Pr} (h1:PG X e t) (h2:V1 X es u)
 (hs:(assignEach (e::es) X.env).map (·.2)=assign e X.env::(assignEach es X.env).map (·.2):=by rfl):V1 X (e::es) (J8 t u):=by
 intro pins s σ H vs us Q I r h;obtain ⟨v,vr,e1,h⟩:=h;subst e1;cases r with
 | cons r rr=>
   rw [hs];refine assignInOrder_cons (cT (h1 pins s σ H _ _ _ I r h) fun _ s1 ⟨σ1,H1,I1,q1⟩=> ?_);exact h2 pins s1 σ1 H1 _ _ Q I1 rr q1
def Rm (K:PySem.W.Frag) (n:Nat) (t:Pr):TG:=fun v σ H Q=>∃a xs,v = .ref a/\cu K H a xs/\xs.length=n/\t xs σ H Q
theorem Qt {es:List Expr} {k:Nat} {t:Pr} {n:Nat} (hc:X.calm=true) (h:V1 X es t)
 (hn:(assignEach es X.env).length=n:=by rfl) (hst:(assignEach es X.env).findIdx? (·.1)=none:=by rfl):PG X (.Tuple es k pos) (Rm X.K n t):=by
 intro pins s σ H v u Q I r hw;obtain ⟨a,xs,e1,hq,hl,hw⟩:=hw;subst e1;cases r;obtain ⟨its,rv,ht,hz⟩:=I.tuple hq;refine assign_Tuple_tuple (I.ok.hd hc) ht (by simp [hn,←hl,rv.length]) hst fun h' hx=> ?_;have I1:Inv X pins σ H {s with heap:=h'}:=I.kept (t':=s.toks) fun b o e=>hx b o (Nat.ne_of_lt (Heap.lt_size e)) e;exact h pins _ σ H xs _ Q I1 (by simpa using rv) hw
def acn (to ti:TE) (t:RM):TG:=fun v σ H Q=>to σ H fun o H1=>ti σ H1 fun i H2=>t o i v H2 fun H3=>Q σ H3
theorem j_ {o i:Expr} {to ti:TE} {t:RM} (ho:PE X o to) (hi:PE X i ti) (hs:V0 X t)
 (ha:∀v,assign (.Subscript o i pos) X.env v=(do
   let ov ←holding [v] (eval o X.env)
   let iv ←holding [v,ov] (eval i X.env)
   standAt pos
   holding [v,ov,iv] (setItem ov iv v)
   release [v,ov,iv] []):=by intro _;rfl):PG X (.Subscript o i pos) (acn to ti t):=by
 intro pins s σ H v u Q I r h;rw [ha];refine wpAny_bind (wpAny_holding (cT (ho pins s σ H _ I h) fun ov s1 ⟨x,H1,I1,r1,q1⟩=> ?_));refine wpAny_bind (wpAny_holding (cT (hi pins s1 σ H1 _ I1 q1) fun iv s2 ⟨y,H2,I2,r2,q2⟩=> ?_));refine wpAny_bind (wpAny_standAt (wpAny_bind (wpAny_holding (cT (hs pins s2 σ H2 x y v ov iv u _ I2 r1 r2 r q2) fun _ s3 ⟨H3,I3,q3⟩=> ?_))));exact wpAny_release ⟨σ,H3,I3,q3⟩
def P0 (te:TE) (g:TG):TS:=fun D σ H=>te σ H fun x H1=>g x σ H1 D.nx
theorem ju {tg e:Expr} {te:TE} {g:TG} (he:PE X e te) (hg:PG X tg g) (hs:swapsWithSole [tg] e pos.line X.env=pure false:=by rfl) (hw:swappedStores [tg] e X.env=pure none:=by rfl)
 (h1:(assignEach [tg] X.env).map (·.2)=[assign tg X.env]:=by rfl):PS X (.Assign [tg] e pos) (P0 te g):=by
 intro pins s σ H D I h;refine wpAny_Assign_stores (cT (he pins s σ H _ I h) fun v s1 ⟨x,H1,I1,r1,q1⟩=> ?_) hs hw;rw [h1];exact cT (hg pins s1 σ H1 x v _ I1 r1 q1) fun _ s2 q=>q
theorem aV {i:Nat} {x:Str} {e:Expr} {te:TE} {pos':Pos} (hN:X.N.Nodup) (hi:X.N[i]? = some x) (hx:Loc X.env.scope x) (he:PE X e te) (hs:swapsWith e (some (.Name x pos')) pos.line X.env=pure false:=by rfl) (hf:X.fn x=true\/X.env.scope.names.lookup x=some .local:=by first |exact .inl rfl|exact .inr rfl|assumption):
 PS X (.Assign [.Name x pos'] e pos) (P0 te (fG i)):=by
 intro pins s σ H D I h;refine wpAny_Assign_Name (cT (he pins s σ H _ I h) fun v s1 ⟨y,H1,I1,r1,q1⟩=> ?_) hs;exact yw I1 hN hi hx r1 (fun s2 I2=>⟨_,H1,I2,q1⟩) hf
end
section
variable {X:Cx} {pos:Pos}
def Py (c:TT) (tb:TS):TS:=fun D σ H=>∃W:Nat->St->Hp->Prop,(∃m,W m σ H) /\ ∀m σ H,W m σ H ->
 c σ H fun b H1=>if b=true then ∃N:St->Hp->Prop,(∀σ' H',N σ' H' -> ∃m',m'<m/\W m' σ' H')/\tb {D with nx:=N,ct:=N,bk:=D.nx} σ H1 else D.nx σ H1
theorem Ji {c:Expr} {body:List Stmt} {tc:TT} {tb:TS} (hp:PassesOwn (model X.prog X.w) X.A X.env X.xe) (hc:PT X c tc) (hb:Hv X body tb):PS X (.While c body [] pos) (Py tc tb):=by
 intro pins s σ H D I h;obtain ⟨W,⟨m0,w0⟩,turn⟩:=h;refine wpAny_While (codeAny_whileLoop (fun n s'=>∃σ' H',Inv X pins σ' H' s'/\W n σ' H') ?_ m0 ⟨σ,H,I,w0⟩);rintro n s1 ⟨σ1,H1,I1,w1⟩;refine wpAny_passesOwn hp (cT (hc pins s1 σ1 H1 _ I1 (turn n σ1 H1 w1)) fun b s2 ⟨H2,I2,q2⟩=> ?_);cases b with
 | true=>
   obtain ⟨N,hN,q2⟩:=q2;rw [if_pos rfl];refine wpAny_passesOwn hp (cT (hb pins s2 σ1 H2 _ I2 q2) fun f s3 q3=> ?_);cases f with
   | next=>
     obtain ⟨σ3,H3,I3,n3⟩:=q3;obtain ⟨m',hm,w3⟩:=hN σ3 H3 n3;exact ⟨m',hm,σ3,H3,I3,w3⟩
   | cont=>
     obtain ⟨σ3,H3,I3,n3⟩:=q3;obtain ⟨m',hm,w3⟩:=hN σ3 H3 n3;exact ⟨m',hm,σ3,H3,I3,w3⟩
   | brk=>exact q3
   | ret v=>exact q3
 | false=>
   rw [if_neg Bool.false_ne_true];exact wpAny_execs_nil ⟨σ1,H2,I2,q2⟩
end
structure It where
 go:Nat->Hp->Prop
 Ov:Nat->Hp->V->Hp->Prop
 stop:Nat->Hp->Prop
def jV (X:Cx) (pins:List (Addr×Obj)) (H:Hp) (b:Addr):Prop:=
 H b=none/\b≠X.env.locals/\b∉X.fs/\(b∈X.ex\/X.s₀.heap.objs.size<=b)/\(∀x c,X.env.cells.lookup x=some c->c≠b) /\ ∀p∈X.pn++pins,p.1≠b
theorem Inv.tQ {X:Cx} {pins:List (Addr×Obj)} {σ:St} {H H':Hp} {s:Shared} {b:Addr} (I:Inv X pins σ H s) (hb:s.heap.objs.size<=b) (hn:H' b=none):jV X pins H' b:=by
 refine ⟨hn,Nat.ne_of_gt (Nat.lt_of_lt_of_le I.lt hb),I.aa3 hb,.inr (Nat.le_trans I.sz hb),fun x c e z=> ?_,fun p hp z=> ?_⟩
 ·obtain ⟨v,q⟩:=I.cell x c e
  exact absurd (Nat.lt_of_lt_of_le q.lt (by rw [z];exact hb)) (Nat.lt_irrefl _)
 ·exact absurd (Nat.lt_of_lt_of_le (Heap.lt_size (I.pin p hp).1) (by rw [z];exact hb)) (Nat.lt_irrefl _)
structure Turn (P:Program) (w:World) (K:PySem.W.Frag) (tg:Expr) (J:It) (fp:List Addr) (it:Addr) (tn:Nat->Heap->Prop):Prop where
 mem:it∈fp
 obj:∀i h,tn i h -> ∀b∈fp,∃o,h.get? b=some o /\ ∀v,o.data ≠ .cell v
 keep:∀i h h',tn i h->(∀b∈fp,∀o,h.get? b=some o->h'.get? b=some o)->tn i h'
 item:∀(X:Cx),X.prog=P->X.w=w->X.K=K->X.calm=true -> ∀(i:Nat) (pins:List (Addr×Obj)) (s:Shared) (σ:St) (H:Hp) (E:Value->Shared->Prop),Inv X pins σ H s->(∀b∈fp,jV X pins H b)->tn i s.heap->J.go i H ->
  wpAny (model P w) X.A (pyNext (.ref it)) (fun r s1=>∃u,r=some u /\
   wpAny (model P w) X.A (letOwnedTupleGo tg (.ref it) u) (fun _ s2=>∃x H',Inv X pins σ H' s2/\RelV x u/\J.Ov i H x H'/\tn (i+1) s2.heap /\ ∀b∈fp,H' b=none) E s1) E s
 done:∀(X:Cx),X.prog=P->X.w=w->X.K=K->X.calm=true -> ∀(i:Nat) (pins:List (Addr×Obj)) (s:Shared) (σ:St) (H:Hp) (E:Value->Shared->Prop),Inv X pins σ H s->(∀b∈fp,jV X pins H b)->tn i s.heap->J.stop i H ->
  wpAny (model P w) X.A (pyNext (.ref it)) (fun r s1=>r=none/\Inv X pins σ H s1) E s
 self:∀(A:Around) (i:Nat) (s:Shared) (Q:Value->Shared->Prop) (E:Value->Shared->Prop),tn i s.heap->Q (.ref it) s->wpAny (model P w) A (pyIter (.ref it)) Q E s
abbrev TI:=St->Hp->(It->Hp->Prop)->Prop
def PIE (X:Cx) (pins:List (Addr×Obj)) (σ:St) (tg:Expr) (R:It->Hp->Prop) (itv:Value) (s2:Shared):Prop:=
 ∃(it:Addr) (fp:List Addr) (tn:Nat->Heap->Prop) (J:It) (H':Hp),itv = .ref it/\Inv X pins σ H' s2/\Turn X.prog X.w X.K tg J fp it tn/\tn 0 s2.heap/\(∀b∈fp,jV X pins H' b)/\R J H'
def PI (X:Cx) (tg iter:Expr) (wi:TI):Prop:=
 ∀(pins:List (Addr×Obj)) (s:Shared) (σ:St) (H:Hp) (R:It->Hp->Prop),Inv X pins σ H s->wi σ H R ->
  wpAny (model X.prog X.w) X.A (eval iter X.env) (fun v s1=>wpAny (model X.prog X.w) X.A (pyIter v) (PIE X pins σ tg R) X.xe s1) X.xe s
theorem zL {M:Model} {A:Around} {E:Value->Shared->Prop} {s:Shared} {tg:Expr} {it:Addr} {u:Value} {o:Obj} {n:String} {vs:Array Value} {Q:Unit->Shared->Prop} (ho:s.heap.get? it=some o) (hc:o.cls = .type n) (hd:o.data = .fields vs)
 (hn:["enumerate","zip","dict_itemiterator","dict_reverseitemiterator","odict_iterator","itertools.zip_longest","itertools.pairwise"].contains n=false) (hQ:Q () s):wpAny M A (letOwnedTupleGo tg (.ref it) u) Q E s:=by
 unfold letOwnedTupleGo
 cases tg<;>first
  | exact wpAny_pure hQ
  | (cases u<;>first
      | exact wpAny_pure hQ
      | (refine wpAny_bind (wpAny_load ho ?_)
         rw [hc,hd];show wpAny M A (if (["enumerate","zip","dict_itemiterator","dict_reverseitemiterator","odict_iterator","itertools.zip_longest","itertools.pairwise"].contains n&&vs[0]? == some (rawInt _))=true then _ else _) Q E s;rw [if_neg (by intro h;rw [hn,Bool.false_and] at h;cases h)];exact wpAny_pure hQ))
def Oq (K:PySem.W.Frag) (a:Addr):It:=
 ⟨fun i H=>∃xs x,aW K H a xs/\xs[i]? = some x,fun i H x H'=>H'=H /\ ∀xs,aW K H a xs->xs[i]? = some x,fun i H=>∃xs,aW K H a xs/\xs.length<=i⟩
def Ym (K:PySem.W.Frag) (a:Addr):It:=
 ⟨fun i H=>∃xs x,cu K H a xs/\xs[i]? = some x,fun i H x H'=>H'=H /\ ∀xs,cu K H a xs->xs[i]? = some x,fun i H=>∃xs,cu K H a xs/\xs.length<=i⟩
def Pu (lo:Int) (n:Nat):It:=⟨fun i _=>i<n,fun i H x H'=>H'=H/\x = .int (lo+i),fun i _=>n<=i⟩
theorem Fq {P:Program} {w:World} {K:PySem.W.Frag} {tg:Expr} (a it:Addr):Turn P w K tg (Oq K a) [it] it (fun i h=>h.IsListIter it a i) where
 mem:=by simp
 obj:=fun i h st b hb=>by
  have e:b=it:=by simpa using hb
  subst e;obtain ⟨o,e,c,d⟩:=st;exact ⟨o,e,fun v z=>by rw [d] at z;cases z⟩
 keep:=fun i h h' st k=>st.at fun o e=>k it (by simp) o e
 item:=by
  intro X hP hw hK hc i pins s σ H E I hf st hg;subst hP hw hK;obtain ⟨xs,x,hq,hx⟩:=hg;obtain ⟨its,rv,p,hz⟩:=I.list hq;obtain ⟨u,hu,ru⟩:=rv.get hx;obtain ⟨f0,f1,f2,f3,f4,f5⟩:=hf it (by simp);refine wpAny_pyNext_list_item st p.isList (x:=u) (by simpa using hu) fun h' st' sb=> ?_;have I1:Inv X pins σ H {s with heap:=h'}:=I.turned (t':=s.toks) (fun b o hb e=>(sb.2 b hb).trans e) f0 f1 f3 f4 f5;obtain ⟨o,e,c,d⟩:=id st';exact ⟨u,rfl,zL (s:={s with heap:=h'}) e c d (by decide) ⟨x,H,I1,ru,⟨rfl,fun ys hy=>by rw [I.oM hy hq];exact hx⟩,st',fun b hb=>(hf b hb).1⟩⟩
 done:=by
  intro X hP hw hK hc i pins s σ H E I hf st hg;subst hP hw hK;obtain ⟨xs,hq,hx⟩:=hg;obtain ⟨its,rv,p,hz⟩:=I.list hq;obtain ⟨f0,f1,f2,f3,f4,f5⟩:=hf it (by simp);have hl:=rv.length;exact wpAny_pyNext_list_end (I.ok.hd hc) st p.isList (by simp;omega) fun h' eb=>⟨rfl,I.turned (t':=s.toks) (fun b o hb e=>eb b o hb e) f0 f1 f3 f4 f5⟩
 self:=fun _ _ _ _ _ st h=>wpAny_pyIter_listiter st h
theorem A_ {P:Program} {w:World} {K:PySem.W.Frag} {tg:Expr} (a it:Addr):Turn P w K tg (Ym K a) [it] it (fun i h=>h.IsTupleIter it a i) where
 mem:=by simp
 obj:=fun i h st b hb=>by
  have e:b=it:=by simpa using hb
  subst e;obtain ⟨o,e,c,d⟩:=st;exact ⟨o,e,fun v z=>by rw [d] at z;cases z⟩
 keep:=fun i h h' st k=>st.at fun o e=>k it (by simp) o e
 item:=by
  intro X hP hw hK hc i pins s σ H E I hf st hg;subst hP hw hK;obtain ⟨xs,x,hq,hx⟩:=hg;obtain ⟨its,rv,p,hz⟩:=I.tuple hq;obtain ⟨u,hu,ru⟩:=rv.get hx;obtain ⟨f0,f1,f2,f3,f4,f5⟩:=hf it (by simp);refine wpAny_pyNext_tuple_item st (show s.heap.IsTuple a its.toArray from p) (x:=u) (by simpa using hu) fun h' st' sb=> ?_;have I1:Inv X pins σ H {s with heap:=h'}:=I.turned (t':=s.toks) (fun b o hb e=>(sb.2 b hb).trans e) f0 f1 f3 f4 f5;obtain ⟨o,e,c,d⟩:=id st';exact ⟨u,rfl,zL (s:={s with heap:=h'}) e c d (by decide) ⟨x,H,I1,ru,⟨rfl,fun ys hy=>by rw [I.Fx hy hq];exact hx⟩,st',fun b hb=>(hf b hb).1⟩⟩
 done:=by
  intro X hP hw hK hc i pins s σ H E I hf st hg;subst hP hw hK;obtain ⟨xs,hq,hx⟩:=hg;obtain ⟨its,rv,p,hz⟩:=I.tuple hq;obtain ⟨f0,f1,f2,f3,f4,f5⟩:=hf it (by simp);have hl:=rv.length;exact wpAny_pyNext_tuple_end (I.ok.hd hc) st (show s.heap.IsTuple a its.toArray from p) (by simp;omega) fun h' eb=>⟨rfl,I.turned (t':=s.toks) (fun b o hb e=>eb b o hb e) f0 f1 f3 f4 f5⟩
 self:=fun _ _ _ _ _ st h=>wpAny_pyIter_tupleiter st h
theorem Ba {P:Program} {w:World} {K:PySem.W.Frag} {tg:Expr} (it:Addr) (lo:Int) (n:Nat):Turn P w K tg (Pu lo n) [it] it (fun i h=>IsRangeIter h it (lo+(i:Nat)*1) ((n:Int) - (i:Nat)) 1) where
 mem:=by simp
 obj:=fun i h st b hb=>by
  have e:b=it:=by simpa using hb
  subst e
  exact ⟨_,st,fun v z=>by
   have z':Data.fields _=Data.cell v:=z;cases z'⟩
 keep:=fun i h h' st k=>k it (by simp) _ st
 item:=by
  intro X hP hw hK hc i pins s σ H E I hf st hg;subst hP hw hK;obtain ⟨f0,f1,f2,f3,f4,f5⟩:=hf it (by simp);have W:=Walks.range (prog:=X.prog) (w:=X.w) (I.ok.hd hc) it lo 1 n;refine W.item i s _ _ hg st fun v h' tk hv st' kk=> ?_;obtain ⟨t,rfl⟩:=hv;have I1:Inv X pins σ H {s with heap:=h',toks:=tk}:=I.turned (fun b o hb e=>kk b o (by simpa using hb) e) f0 f1 f3 f4 f5;refine ⟨_,rfl,zL (s:={s with heap:=h',toks:=tk}) (n:= "range_iterator") st' rfl rfl (by decide) ⟨.int (lo+i),H,I1,⟨t, ?_⟩,⟨rfl,rfl⟩,st',fun b hb=>(hf b hb).1⟩⟩;rw [Int.mul_one]
 done:=by
  intro X hP hw hK hc i pins s σ H E I hf st hg;subst hP hw hK;obtain ⟨f0,f1,f2,f3,f4,f5⟩:=hf it (by simp);exact wpAny_pyNext_range_end (I.ok.hd hc) st (by have:n<=i:=hg;omega) fun h' eb=>⟨rfl,I.turned (t':=s.toks) (fun b o hb e=>eb b o hb e) f0 f1 f3 f4 f5⟩
 self:=fun _ _ _ _ _ st h=>wpAny_pyIter_rangeiter st h
end L2
namespace L2
open PySem PySem.Spec PyProof.Rows
section
variable {X:Cx} {tg:Expr}
def Pg (K:PySem.W.Frag) (tl:TE):TI:=fun σ H R=>tl σ H fun x H1=>∃a,x = .ref a/\(∃xs,aW K H1 a xs)/\R (Oq K a) H1
def Ui (K:PySem.W.Frag) (tl:TE):TI:=fun σ H R=>tl σ H fun x H1=>∃a,x = .ref a/\(∃xs,cu K H1 a xs)/\R (Ym K a) H1
theorem Mj {l:Expr} {tl:TE} (hl:PE X l tl):PI X tg l (Pg X.K tl):=by
 intro pins s σ H R I h;refine cT (hl pins s σ H _ I h) fun v s1 ⟨x,H1,I1,r1,q1⟩=> ?_;obtain ⟨a,e,⟨xs,hq⟩,q⟩:=q1;subst e;cases r1;obtain ⟨its,rv,p,hz⟩:=I1.list hq;refine wpAny_pyIter_list p.isList ?_;refine ⟨s1.heap.objs.size,[s1.heap.objs.size],_,_,H1,rfl,I1.kept (t':=s1.toks) fun b o e=>Heap.get?_push_of_some _ e,Fq a _,⟨_,Heap.get?_push_size _ rfl,rfl,rfl⟩,fun b hb=> ?_,q⟩;have e:b=s1.heap.objs.size:=by simpa using hb
 subst e;exact I1.tQ (Nat.le_refl _) (I1.hok.fresh (Nat.le_refl _))
theorem Qs {l:Expr} {tl:TE} (hl:PE X l tl):PI X tg l (Ui X.K tl):=by
 intro pins s σ H R I h;refine cT (hl pins s σ H _ I h) fun v s1 ⟨x,H1,I1,r1,q1⟩=> ?_;obtain ⟨a,e,⟨xs,hq⟩,q⟩:=q1;subst e;cases r1;obtain ⟨its,rv,p,hz⟩:=I1.tuple hq;refine wpAny_pyIter_tuple (show s1.heap.IsTuple a its.toArray from p) ?_;refine ⟨s1.heap.objs.size,[s1.heap.objs.size],_,_,H1,rfl,I1.kept (t':=s1.toks) fun b o e=>Heap.get?_push_of_some _ e,A_ a _,⟨_,Heap.get?_push_size _ rfl,rfl,rfl⟩,fun b hb=> ?_,q⟩;have e:b=s1.heap.objs.size:=by simpa using hb
 subst e;exact I1.tQ (Nat.le_refl _) (I1.hok.fresh (Nat.le_refl _))
theorem Je {pins:List (Addr×Obj)} {σ:St} {H:Hp} {s:Shared} {R:It->Hp->Prop} {E:Value->Shared->Prop} {lo hi:Int} {t u v:Tok} {tk:Nat} (I:Inv X pins σ H s) (h1: -(2 ^ 62)<=lo) (h2:lo<2 ^ 62) (h3: -(2 ^ 62)<=hi) (h4:hi<2 ^ 62)
 (q:R (Pu lo (hi - lo).toNat) H):wpAny (model X.prog X.w) X.A (pyIter (.ref s.heap.objs.size)) (PIE X pins σ tg R) E {s with heap:=s.heap.push {cls:= .type "range",data:= .fields #[.int lo t,.int hi u,.int 1 v]},toks:=tk}:=by
 refine wpAny_pyIter_range (IsRange.new ..) (small_one h1 h2 h3 h4) ?_;have I1:Inv X pins σ H {s with heap:=s.heap.push {cls:= .type "range",data:= .fields #[.int lo t,.int hi u,.int 1 v]},toks:=tk}:=I.kept fun b o e=>Heap.get?_push_of_some _ e
 refine ⟨(s.heap.push {cls:= .type "range",data:= .fields #[.int lo t,.int hi u,.int 1 v]}).objs.size,[(s.heap.push {cls:= .type "range",data:= .fields #[.int lo t,.int hi u,.int 1 v]}).objs.size],_,_,H,rfl,
  I1.kept (t':=tk) fun b o e=>Heap.get?_push_of_some _ e,Ba _ lo (hi - lo).toNat, ?_,fun b hb=> ?_,q⟩
 ·have e1:lo+((0:Nat):Int)*1=lo:=by simp
  have e2:(((hi - lo).toNat:Nat):Int) - ((0:Nat):Int)=Builtin.Range.rangeSize lo hi 1:=by rw [rangeSize_one];split<;>omega
  show IsRangeIter _ _ (lo+((0:Nat):Int)*1) ((((hi - lo).toNat:Nat):Int) - ((0:Nat):Int)) 1;rw [e1,e2];exact Heap.get?_push_size _ rfl
 ·have e:b=(s.heap.push {cls:= .type "range",data:= .fields #[.int lo t,.int hi u,.int 1 v]}).objs.size:=by simpa using hb
  subst e;exact I1.tQ (Nat.le_refl _) (I1.hok.fresh (Nat.le_refl _))
def Uk (ta:TA):TI:=fun σ H R=>ta σ H fun vs H1=>∃j:Int,vs=[.int j] /\ -(2 ^ 62)<=j/\j<2 ^ 62/\R (Pu 0 j.toNat) H1
theorem jP {a:Expr} {ta:TA} {p pos:Pos} (hg:Gl X "range") (hm:X.mg "range" = none) (ha:PA X [a] ta) (hs:starEach [a] X.env=[(false,eval a X.env)]:=by rfl):PI X tg (.Call (.Name "range" p) [a] [] pos) (Uk ta):=by
 intro pins s σ H R I h;refine Call_ (nW I hg hm boot_range (PyProof.Rows.callWith_type1 (cT (ha pos pins s σ H _ I h) fun us s1 ⟨vs,H1,I1,r1,q1⟩=> ?_) hs rfl));obtain ⟨j,e,q1,q2,q⟩:=q1;subst e;cases r1 with
 | cons r rr=>
   cases rr;obtain ⟨t,rfl⟩:=r;exact call_range_1 (Je I1 (by omega) (by omega) q1 q2 (by simpa using q))
def Yy (wi:TI) (g:TG) (tb:TS):TS:=fun D σ H=>wi σ H fun J H1=>∃W:Nat->Nat->St->Hp->Prop,(∃m,W 0 m σ H1) /\ ∀i m σ H,W i m σ H ->
 (J.stop i H/\D.nx σ H)\/(J.go i H /\ ∃N:St->Hp->Prop,(∀σ' H',N σ' H' -> ∃m',m'<m/\W (i+1) m' σ' H') /\ ∀x H',J.Ov i H x H'->g x σ H' fun σ2 H2=>tb {D with nx:=N,ct:=N,bk:=D.nx} σ2 H2)
def pQ (fp:List Addr) (h:Heap):List (Addr×Obj):=fp.filterMap fun b=>(h.get? b).map fun o=>(b,o)
theorem g8 {fp:List Addr} {h:Heap} {b:Addr} {o:Obj} (hb:b∈fp) (e:h.get? b=some o):(b,o)∈pQ fp h:=List.mem_filterMap.mpr ⟨b,hb,by rw [e];rfl⟩
theorem Gk {fp:List Addr} {h:Heap} {p:Addr×Obj} (hp:p∈pQ fp h):p.1∈fp/\h.get? p.1=some p.2:=by
 obtain ⟨b,hb,e⟩:=List.mem_filterMap.mp hp;cases q:h.get? b with
 | none=>rw [q] at e;cases e
 | some o=>
   rw [q] at e;have e':(b,o)=p:=Option.some.inj e;subst e';exact ⟨hb,q⟩
theorem Inv.pinned {pins:List (Addr×Obj)} {σ:St} {H:Hp} {s:Shared} {fp:List Addr} (I:Inv X pins σ H s) (hf:∀b∈fp,jV X pins H b) (ho:∀b∈fp,∃o,s.heap.get? b=some o /\ ∀v,o.data ≠ .cell v):Inv X (pins++pQ fp s.heap) σ H s:=
 I.DW fun p hp=>(List.mem_append.mp hp).elim (fun z=>I.pin p (List.mem_append_right _ z)) fun z=>by
  obtain ⟨hb,e⟩:=Gk z;obtain ⟨f0,f1,f2,_⟩:=hf p.1 hb;obtain ⟨o,e',d⟩:=ho p.1 hb;rw [e] at e';cases e';exact ⟨e,f0,f1,f2,d⟩
theorem Inv.lK {pins pl:List (Addr×Obj)} {σ:St} {H:Hp} {s:Shared} (I:Inv X (pins++pl) σ H s):Inv X pins σ H s:=I.DW fun p hp=>I.pin p (List.mem_append_right _ (List.mem_append_left _ hp))
theorem jt {iter:Expr} {body:List Stmt} {wi:TI} {g:TG} {tb:TS} {pos:Pos} (hp:PassesOwn (model X.prog X.w) X.A X.env X.xe) (hc:X.calm=true) (hi:PI X tg iter wi) (hg:PG X tg g) (hb:Hv X body tb)
 (hs:∀x,foldedSetIterable iter X.env x=pure x:=by intro _;rfl):PS X (.For tg iter body [] pos) (Yy wi g tb):=by
 intro pins s σ H D I h;refine wpAny_For (cT (hi pins s σ H _ I h) fun v s1 h1=>cT h1 fun itv s2 h2=> ?_) hs;obtain ⟨it,fp,tn,J,H2,e,I2,T,st2,f2,W,⟨m0,w0⟩,turn⟩:=h2;subst e;have stat:∀{H':Hp},(∀b∈fp,H' b=none) -> ∀b∈fp,jV X pins H' b:=fun hn b hb=>⟨hn b hb,(f2 b hb).2⟩;refine codeAny_forLoop_any (fun n s'=>∃i σ' H',Inv X pins σ' H' s'/\tn i s'.heap/\(∀b∈fp,H' b=none)/\W i n σ' H') ?_ m0 ⟨0,σ,H2,I2,st2,fun b hb=>(f2 b hb).1,w0⟩;rintro n s3 ⟨i,σ3,H3,I3,st3,Pj,w3⟩;rcases turn i n σ3 H3 w3 with ⟨stop,qn⟩|⟨go,N,hN,step⟩
 ·refine wpAny_passesOwn hp (cT (T.done X rfl rfl rfl hc i pins s3 σ3 H3 X.xe I3 (stat Pj) st3 stop) fun r s4 ⟨hr,I4⟩=> ?_)
  subst hr;exact wpAny_execs_nil ⟨σ3,H3,I4,qn⟩
 ·refine wpAny_passesOwn hp (cT (T.item X rfl rfl rfl hc i pins s3 σ3 H3 X.xe I3 (stat Pj) st3 go) fun r s4 ⟨u,hr,h4⟩=> ?_)
  subst hr;refine wpAny_passesOwn hp (cT h4 fun _ s5 ⟨x,H5,I5,r5,y5,uN,UL⟩=> ?_);have V6:=I5.pinned (stat UL) (T.obj _ _ uN);refine wpAny_passesOwn hp (cT (hg _ s5 σ3 H5 x u _ V6 r5 (step x H5 y5)) fun _ s6 ⟨σ6,H6,I6,q6⟩=> ?_);refine wpAny_passesOwn hp (cT (hb _ s6 σ6 H6 _ I6 q6) fun f s7 q7=> ?_)
  have again:∀{σ7:St} {H7:Hp},Inv X (pins++pQ fp s5.heap) σ7 H7 s7->N σ7 H7 -> ∃m,m<n /\ ∃i σ' H',Inv X pins σ' H' s7/\tn i s7.heap/\(∀b∈fp,H' b=none)/\W i m σ' H':=fun {σ7 H7} I7 n7=>by
   obtain ⟨m',hm,w7⟩:=hN σ7 H7 n7;refine ⟨m',hm,i+1,σ7,H7,I7.lK,T.keep _ _ _ uN fun b hb o e=>(I7.pin (b,o) (List.mem_append_right _ (List.mem_append_right _ (g8 hb e)))).1,fun b hb=> ?_,w7⟩;obtain ⟨o,e,d⟩:=T.obj _ _ uN b hb;exact (I7.pin (b,o) (List.mem_append_right _ (List.mem_append_right _ (g8 hb e)))).2.1
  cases f with
  | next=>obtain ⟨σ7,H7,I7,n7⟩:=q7;exact again I7 n7
  | cont=>obtain ⟨σ7,H7,I7,n7⟩:=q7;exact again I7 n7
  | brk=>obtain ⟨σ7,H7,I7,q7⟩:=q7;exact ⟨σ7,H7,I7.lK,q7⟩
  | ret v=>obtain ⟨x7,σ7,H7,I7,r7,q7⟩:=q7;exact ⟨x7,σ7,H7,I7.lK,r7,q7⟩
end
theorem mz {K:PySem.W.Frag} {a:Addr} {xs:List V} {g:TG} {tb:TS} {D:Ends} {σ:St} {H:Hp} (Pv:Nat->St->Hp->Prop) (h0:Pv 0 σ H) (hl:∀i σ H,i<=xs.length->Pv i σ H->aW K H a xs)
 (hs:∀i x σ H,xs[i]? = some x->Pv i σ H->g x σ H fun σ2 H2=>tb {D with nx:=Pv (i+1),ct:=Pv (i+1),bk:=D.nx} σ2 H2) (hd:∀σ H,Pv xs.length σ H->D.nx σ H):
 ∃W:Nat->Nat->St->Hp->Prop,(∃m,W 0 m σ H) /\ ∀i m σ H,W i m σ H ->
  ((Oq K a).stop i H/\D.nx σ H)\/((Oq K a).go i H /\ ∃N:St->Hp->Prop,(∀σ' H',N σ' H' -> ∃m',m'<m/\W (i+1) m' σ' H') /\ ∀x H',(Oq K a).Ov i H x H'->g x σ H' fun σ2 H2=>tb {D with nx:=N,ct:=N,bk:=D.nx} σ2 H2):=by
 refine ⟨fun i m σ H=>m=xs.length - i/\i<=xs.length/\Pv i σ H,⟨xs.length,by simp,Nat.zero_le _,h0⟩, ?_⟩;rintro i m σ H ⟨rfl,hi,p⟩;have q:=hl i σ H hi p
 by_cases hlt:i<xs.length
 ·refine .inr ⟨⟨xs,xs[i],q,by simp [hlt]⟩,Pv (i+1),fun σ' H' p'=>⟨xs.length - (i+1),by omega,rfl,hlt,p'⟩,fun x H' y=> ?_⟩
  obtain ⟨e,y⟩:=y;subst e;exact hs i x σ _ (y xs q) p
 ·have e:i=xs.length:=by omega
  subst e;exact .inl ⟨⟨xs,q,Nat.le_refl _⟩,hd σ H p⟩
theorem GR {lo:Int} {n:Nat} {g:TG} {tb:TS} {D:Ends} {σ:St} {H:Hp} (Pv:Nat->St->Hp->Prop) (h0:Pv 0 σ H)
 (hs:∀i σ H,i<n->Pv i σ H->g (.int (lo+i)) σ H fun σ2 H2=>tb {D with nx:=Pv (i+1),ct:=Pv (i+1),bk:=D.nx} σ2 H2) (hd:∀σ H,Pv n σ H->D.nx σ H):
 ∃W:Nat->Nat->St->Hp->Prop,(∃m,W 0 m σ H) /\ ∀i m σ H,W i m σ H ->
  ((Pu lo n).stop i H/\D.nx σ H)\/((Pu lo n).go i H /\ ∃N:St->Hp->Prop,(∀σ' H',N σ' H' -> ∃m',m'<m/\W (i+1) m' σ' H') /\ ∀x H',(Pu lo n).Ov i H x H'->g x σ H' fun σ2 H2=>tb {D with nx:=N,ct:=N,bk:=D.nx} σ2 H2):=by
 refine ⟨fun i m σ H=>m=n - i/\i<=n/\Pv i σ H,⟨n,by simp,Nat.zero_le _,h0⟩, ?_⟩;rintro i m σ H ⟨rfl,hi,p⟩
 by_cases hlt:i<n
 ·refine .inr ⟨hlt,Pv (i+1),fun σ' H' p'=>⟨n - (i+1),by omega,rfl,hlt,p'⟩,fun x H' y=> ?_⟩
  obtain ⟨e,y⟩:=y;subst e y;exact hs i σ _ hlt p
 ·have e:i=n:=by omega
  subst e;exact .inl ⟨Nat.le_refl _,hd σ H p⟩
end L2
namespace L2
open PySem PySem.Spec PyProof.Rows
abbrev R2:=V->V->Hp->VK->Prop
def qG (X:Cx) (f:Value->Value->Sem Value) (r:R2):Prop:=
 ∀(pins:List (Addr×Obj)) (s:Shared) (σ:St) (H:Hp) (x y:V) (v u:Value) (Q:VK),Inv X pins σ H s->RelV x v->RelV y u->r x y H Q ->
  wpAny (model X.prog X.w) X.A (f v u) (EP X pins σ Q) X.xe s
def UnR (X:Cx) (f:Value->Sem Value) (r:V->Hp->VK->Prop):Prop:=
 ∀(pins:List (Addr×Obj)) (s:Shared) (σ:St) (H:Hp) (x:V) (v:Value) (Q:VK),Inv X pins σ H s->RelV x v->r x H Q ->
  wpAny (model X.prog X.w) X.A (f v) (EP X pins σ Q) X.xe s
def jG (X:Cx) (f:Value) (r:List V->Hp->VK->Prop):Prop:=
 ∀(pins:List (Addr×Obj)) (s:Shared) (σ:St) (H:Hp) (xs:List V) (us:List Value) (Q:VK),Inv X pins σ H s->Vals xs us->r xs H Q ->
  wpAny (model X.prog X.w) X.A (call f us) (EP X pins σ Q) X.xe s
def aed (X:Cx) (r:V->Hp->(Bool->Hp->Prop)->Prop):Prop:=
 ∀(pins:List (Addr×Obj)) (s:Shared) (σ:St) (H:Hp) (x:V) (v:Value) (Q:Bool->Hp->Prop),Inv X pins σ H s->RelV x v->r x H Q ->
  wpAny (model X.prog X.w) X.A (truthy v) (TP X pins σ Q) X.xe s
def Dt (r:R2) (ta tb:TE):TE:=fun σ H Q=>ta σ H fun x H1=>tb σ H1 fun y H2=>r x y H2 Q
def tUn (r:V->Hp->VK->Prop) (ta:TE):TE:=fun σ H Q=>ta σ H fun x H1=>r x H1 Q
def rI (C:Int->Int->Prop) (g:Int->Int->V):R2:=fun x y H Q=>∃i j,x = .int i/\y = .int j/\C i j/\Q (g i j) H
def Qp (g:Int->Int->V):R2:=fun x y H Q=>∃i j,x = .int i/\y = .int j/\Q (g i j) H
def rU (g:Int->V):V->Hp->VK->Prop:=fun x H Q=>∃i,x = .int i/\Q (g i) H
section
variable {X:Cx} {a b c:Expr} {ta tb tc:TE} {pos:Pos}
theorem RK (ha:PE X a ta) (hb:PE X b tb) {pins:List (Addr×Obj)} {s:Shared} {σ:St} {H:Hp} {R:V->V->Hp->Prop} (I:Inv X pins σ H s)
 (h:ta σ H fun x H1=>tb σ H1 fun y H2=>R x y H2) {Q:Value->Shared->Prop} {f:Value->Value->Sem Value}
 (hf:∀v u s2 x y H2,Inv X pins σ H2 s2->RelV x v->RelV y u->R x y H2->wpAny (model X.prog X.w) X.A (f v u) Q X.xe s2):
 wpAny (model X.prog X.w) X.A (eval a X.env) (fun v s₁=>wpAny (model X.prog X.w) X.A (eval b X.env) (fun u s₂=>wpAny (model X.prog X.w) X.A (f v u) Q X.xe s₂) X.xe s₁) X.xe s:=by
 refine cT (ha pins s σ H _ I h) fun v s1 ⟨x,H1,I1,r1,q1⟩=> ?_;refine cT (hb pins s1 σ H1 _ I1 q1) fun u s2 ⟨y,H2,I2,r2,q2⟩=> ?_;exact hf v u s2 x y H2 I2 r1 r2 q2
theorem bx {op:Operator} {r:R2} (ho:qG X (binaryOp op) r) (ha:PE X a ta) (hb:PE X b tb):PE X (.BinOp a op b pos) (Dt r ta tb):=by
 intro pins s σ H Q I h;exact wpAny_BinOp (RK ha hb I h fun v u s2 x y H2 I2 rx ry q=>ho pins s2 σ H2 x y v u Q I2 rx ry q)
theorem DY {op:UnaryOp} {r:V->Hp->VK->Prop} (ho:UnR X (unaryOp op) r) (ha:PE X a ta):PE X (.UnaryOp op a pos) (tUn r ta):=by
 intro pins s σ H Q I h;exact UnaryOp_ (cT (ha pins s σ H _ I h) fun v s1 ⟨x,H1,I1,r1,q1⟩=>ho pins s1 σ H1 x v Q I1 r1 q1)
theorem TX {f:Value->Value->Sem Value} {C:Int->Int->Prop} {g:Int->Int->Int}
 (rule:∀(i j:Int) (t u:Tok) (s:Shared) (Q:Value->Shared->Prop) (E:Value->Shared->Prop),C i j->Q (.int (g i j) s.toks) {s with toks:=s.toks+1}->wpAny (model X.prog X.w) X.A (f (.int i t) (.int j u)) Q E s):
 qG X f (rI C fun i j=> .int (g i j)):=by
 intro pins s σ H x y v u Q I rx ry h;obtain ⟨i,j,rfl,rfl,hc,q⟩:=h;obtain ⟨t,rfl⟩:=rx;obtain ⟨t',rfl⟩:=ry;exact rule i j t t' s _ _ hc ⟨.int (g i j),H,I.tok _,⟨_,rfl⟩,q⟩
theorem TV {f:Value->Value->Sem Value} {g:Int->Int->Int}
 (rule:∀(i j:Int) (t u:Tok) (s:Shared) (Q:Value->Shared->Prop) (E:Value->Shared->Prop),Q (.int (g i j) s.toks) {s with toks:=s.toks+1}->wpAny (model X.prog X.w) X.A (f (.int i t) (.int j u)) Q E s):
 qG X f (Qp fun i j=> .int (g i j)):=by
 intro pins s σ H x y v u Q I rx ry h;obtain ⟨i,j,rfl,rfl,q⟩:=h;obtain ⟨t,rfl⟩:=rx;obtain ⟨t',rfl⟩:=ry;exact rule i j t t' s _ _ ⟨.int (g i j),H,I.tok _,⟨_,rfl⟩,q⟩
theorem Qy {f:Value->Value->Sem Value} {g:Int->Int->Bool}
 (rule:∀(i j:Int) (t u:Tok) (s:Shared) (Q:Value->Shared->Prop) (E:Value->Shared->Prop),Q (.bool (g i j)) s->wpAny (model X.prog X.w) X.A (f (.int i t) (.int j u)) Q E s):
 qG X f (Qp fun i j=> .bl (g i j)):=by
 intro pins s σ H x y v u Q I rx ry h;obtain ⟨i,j,rfl,rfl,q⟩:=h;obtain ⟨t,rfl⟩:=rx;obtain ⟨t',rfl⟩:=ry;exact rule i j t t' s _ _ ⟨.bl (g i j),H,I,rfl,q⟩
def K9 (i j:Int):Prop:=0<j/\j<1073741824
def RV (i j:Int):Prop:=0<=j/\j<=1000000/\i.natAbs<2 ^ 64
def RW (i j:Int):Prop:=(-(2 ^ 64)<i/\i<2 ^ 64)\/(-(2 ^ 64)<j/\j<2 ^ 64)
theorem RW.ok {i j:Int} (h:RW i j):IntMulOk i j:=by
 rcases h with ⟨h1,h2⟩|⟨h1,h2⟩
 ·exact .of_left (intBits_le_64 h1 h2)
 ·exact .of_right (intBits_le_64 h1 h2)
theorem cX:qG X (binaryOp .Add) (Qp fun i j=> .int (i+j)):=TV fun _ _ _ _ _ _ _ q=>add_int q
theorem pR:qG X (binaryOp .Sub) (Qp fun i j=> .int (i - j)):=TV fun _ _ _ _ _ _ _ q=>sub_int q
theorem lU:qG X (binaryOp .Mult) (rI RW fun i j=> .int (i*j)):=TX fun _ _ _ _ _ _ _ hc q=>mul_int q hc.ok
theorem rF:qG X (binaryOp .FloorDiv) (rI K9 fun i j=> .int (i / j)):=TX fun i j _ _ _ _ _ hc q=>by
 have h1:(0:Int)<j:=hc.1;have h2:j<1073741824:=hc.2;exact floordiv_int (by omega) (by rw [Int.fdiv_eq_ediv_of_nonneg i (by omega)];exact q) (.inl (PyProof.noPylong_small (by omega)))
theorem jH:qG X (binaryOp .Mod) (rI (fun _ j=>0<j) fun i j=> .int (i % j)):=TX fun i j _ _ _ _ _ hc q=>by
 have h1:(0:Int)<j:=hc;exact mod_int' (by omega) (by rw [Int.fmod_eq_emod_of_nonneg i (by omega)];exact q)
theorem Jv:qG X (binaryOp .Pow) (rI RV fun i j=> .int (i ^ j.toNat)):=TX fun _ _ _ _ _ _ _ hc q=>pow_int_small hc.1 hc.2.1 hc.2.2 q
theorem unI {f:Value->Sem Value} {g:Int->Int}
 (rule:∀(i:Int) (t:Tok) (s:Shared) (Q:Value->Shared->Prop) (E:Value->Shared->Prop),Q (.int (g i) s.toks) {s with toks:=s.toks+1}->wpAny (model X.prog X.w) X.A (f (.int i t)) Q E s):
 UnR X f (rU fun i=> .int (g i)):=by
 intro pins s σ H x v Q I rx h;obtain ⟨i,rfl,q⟩:=h;obtain ⟨t,rfl⟩:=rx;exact rule i t s _ _ ⟨.int (g i),H,I.tok _,⟨_,rfl⟩,q⟩
theorem vY:UnR X (unaryOp .USub) (rU fun i=> .int (-i)):=unI fun _ _ _ _ _ q=>neg_int q
end
def Te:V->V->Bool
 | .non,.non=>true | .non,.int _=>true | .int _,.non=>true | .non,.bl _=>true | .bl _,.non=>true | .non,.str _=>true | .str _,.non=>true
 | .int _,.int _=>true | .bl _,.bl _=>true | .str _,.str _=>true | .EY _,.EY _=>true
 | .int _,.str _=>true | .str _,.int _=>true | .bl _,.str _=>true | .str _,.bl _=>true
 | _,_=>false
def rEq:R2:=fun x y H Q=>Te x y=true/\Q (.bl (decide (x=y))) H
def Wv:R2:=fun x y H Q=>Te x y=true/\Q (.bl (!decide (x=y))) H
theorem Eo {i j:Int}:decide (V.int i=V.int j)=(i==j):=by
 rw [Bool.eq_iff_iff];simp
theorem Kg {i j:Bool}:decide (V.bl i=V.bl j)=(i==j):=by
 rw [Bool.eq_iff_iff];simp
theorem En {i j:Str}:decide (V.str i=V.str j)=(i==j):=by
 rw [Bool.eq_iff_iff];simp
theorem Ep {i j:Array UInt8}:decide (V.EY i=V.EY j)=(i.toList==j.toList):=by
 rw [Bool.eq_iff_iff];cases i;cases j;simp
section
variable {X:Cx} {a b c:Expr} {ta tb tc:TE} {pos:Pos}
theorem bO {pins:List (Addr×Obj)} {σ:St} {H:Hp} {s:Shared} {Q:VK} {k k':Bool} (I:Inv X pins σ H s) (q:Q (.bl k) H) (e:k=k'):EP X pins σ Q (.bool k') s:=by
 subst e;exact ⟨.bl k,H,I,rfl,q⟩
theorem nF:qG X (compareOp .Eq) rEq:=by
 intro pins s σ H x y v u Q I rx ry h;obtain ⟨hs,q⟩:=h;cases x with
 | non=>
   cases rx;cases y with
   | non=>cases ry;exact PySem.EqNone.eq_none_none (bO I q (by simp))
   | bl j=>cases ry;exact PySem.EqNone.eq_none_bool (bO I q (by simp))
   | int j=>obtain ⟨t',rfl⟩:=ry;exact PySem.EqNone.eq_none_int (bO I q (by simp))
   | str j=>obtain ⟨t',rfl⟩:=ry;exact PySem.EqNone.eq_none_str (bO I q (by simp))
   | _=>exact absurd (show false=true from hs) Bool.false_ne_true
 | bl i=>
   cases rx;cases y with
   | non=>cases ry;exact PySem.EqNone.eq_bool_none (bO I q (by simp))
   | bl j=>cases ry;exact eq_bool (bO I q Kg)
   | str j=>obtain ⟨t',rfl⟩:=ry;exact PySem.EqMixed.eq_bool_str (bO I q (by simp))
   | _=>exact absurd (show false=true from hs) Bool.false_ne_true
 | int i=>
   obtain ⟨t,rfl⟩:=rx;cases y with
   | non=>cases ry;exact PySem.EqNone.eq_int_none (bO I q (by simp))
   | int j=>obtain ⟨t',rfl⟩:=ry;exact eq_int (bO I q Eo)
   | str j=>obtain ⟨t',rfl⟩:=ry;exact PySem.EqMixed.eq_int_str (bO I q (by simp))
   | _=>exact absurd (show false=true from hs) Bool.false_ne_true
 | str i=>
   obtain ⟨t,rfl⟩:=rx;cases y with
   | non=>cases ry;exact PySem.EqNone.eq_str_none (bO I q (by simp))
   | bl j=>cases ry;exact PySem.EqMixed.eq_str_bool (bO I q (by simp))
   | int j=>obtain ⟨t',rfl⟩:=ry;exact PySem.EqMixed.eq_str_int (bO I q (by simp))
   | str j=>obtain ⟨t',rfl⟩:=ry;exact eq_str (bO I q En)
   | _=>exact absurd (show false=true from hs) Bool.false_ne_true
 | EY i=>
   obtain ⟨t,rfl⟩:=rx;cases y with
   | EY j=>obtain ⟨t',rfl⟩:=ry;exact PySem.W.eq_bytes (bO I q Ep)
   | _=>exact absurd (show false=true from hs) Bool.false_ne_true
 | _=>cases y<;>exact absurd (show false=true from hs) Bool.false_ne_true
theorem jQ:qG X (compareOp .NotEq) Wv:=by
 intro pins s σ H x y v u Q I rx ry h;obtain ⟨hs,q⟩:=h;cases x with
 | non=>
   cases rx;cases y with
   | non=>cases ry;exact PySem.EqNone.ne_none_none (bO I q (by simp))
   | bl j=>cases ry;exact PySem.EqNone.ne_none_bool (bO I q (by simp))
   | int j=>obtain ⟨t',rfl⟩:=ry;exact PySem.EqNone.ne_none_int (bO I q (by simp))
   | str j=>obtain ⟨t',rfl⟩:=ry;exact PySem.EqNone.ne_none_str (bO I q (by simp))
   | _=>exact absurd (show false=true from hs) Bool.false_ne_true
 | bl i=>
   cases rx;cases y with
   | non=>cases ry;exact PySem.EqNone.ne_bool_none (bO I q (by simp))
   | bl j=>cases ry;exact ne_bool (bO I q (congrArg not Kg))
   | str j=>obtain ⟨t',rfl⟩:=ry;exact PySem.EqMixed.ne_bool_str (bO I q (by simp))
   | _=>exact absurd (show false=true from hs) Bool.false_ne_true
 | int i=>
   obtain ⟨t,rfl⟩:=rx;cases y with
   | non=>cases ry;exact PySem.EqNone.ne_int_none (bO I q (by simp))
   | int j=>obtain ⟨t',rfl⟩:=ry;exact ne_int (bO I q (congrArg not Eo))
   | str j=>obtain ⟨t',rfl⟩:=ry;exact PySem.EqMixed.ne_int_str (bO I q (by simp))
   | _=>exact absurd (show false=true from hs) Bool.false_ne_true
 | str i=>
   obtain ⟨t,rfl⟩:=rx;cases y with
   | non=>cases ry;exact PySem.EqNone.ne_str_none (bO I q (by simp))
   | bl j=>cases ry;exact PySem.EqMixed.ne_str_bool (bO I q (by simp))
   | int j=>obtain ⟨t',rfl⟩:=ry;exact PySem.EqMixed.ne_str_int (bO I q (by simp))
   | str j=>obtain ⟨t',rfl⟩:=ry;exact ne_str (bO I q (congrArg not En))
   | _=>exact absurd (show false=true from hs) Bool.false_ne_true
 | EY i=>
   obtain ⟨t,rfl⟩:=rx;cases y with
   | EY j=>obtain ⟨t',rfl⟩:=ry;exact PySem.W.ne_bytes (bO I q (congrArg not Ep))
   | _=>exact absurd (show false=true from hs) Bool.false_ne_true
 | _=>cases y<;>exact absurd (show false=true from hs) Bool.false_ne_true
theorem sV:qG X (compareOp .Lt) (Qp fun i j=> .bl (decide (i<j))):=Qy fun _ _ _ _ _ _ _ q=>lt_int q
theorem yO:qG X (compareOp .LtE) (Qp fun i j=> .bl (decide (i<=j))):=Qy fun _ _ _ _ _ _ _ q=>le_int q
theorem O8:qG X (compareOp .GtE) (Qp fun i j=> .bl (decide (j<=i))):=Qy fun _ _ _ _ _ _ _ q=>ge_int q
def isObj:HO->Bool
 | .lst _=>true
 | .ins _ _ _=>true
 | _=>false
theorem bL (b:Expr) {op:CmpOp} (h:op ≠ .In:=by decide) (h2:op ≠ .NotIn:=by decide):behindInMarks op b=false:=by
 have e1:(op==CmpOp.In)=false:=by cases op<;>first |rfl|exact absurd rfl h
 have e2:(op==CmpOp.NotIn)=false:=by cases op<;>first |rfl|exact absurd rfl h2
 cases b<;>simp [behindInMarks,e1,e2]
theorem gH {op:CmpOp} {r:R2} (ho:qG X (compareOp op) r) (ha:PE X a ta) (hb:PE X b tb) (hm:behindInMarks op b=false):PE X (.Compare a [op] [b] pos) (Dt r ta tb):=by
 intro pins s σ H Q I h;exact wpAny_Compare1 (RK ha hb I h fun v u s2 x y H2 I2 rx ry q=>ho pins s2 σ H2 x y v u Q I2 rx ry q) hm
def Ds (t:TE):TT:=fun σ H Q=>t σ H fun x H'=>∃k,x = .bl k/\Q k H'
theorem cF {op:CmpOp} {r:R2} (ho:qG X (compareOp op) r) (ha:PE X a ta) (hb:PE X b tb) (hm:behindInMarks op b=false):PT X (.Compare a [op] [b] pos) (Ds (Dt r ta tb)):=by
 intro pins s σ H Q I h
 refine wpAny_isTrue_Compare1 (cT (ha pins s σ H _ I h) fun v s1 ⟨x,H1,I1,r1,q1⟩=>cT (hb pins s1 σ H1 _ I1 q1) fun u s2 ⟨y,H2,I2,r2,q2⟩=>
  cT (ho pins s2 σ H2 x y v u _ I2 r1 r2 q2) fun c s3 ⟨z,H3,I3,r3,k,e,q3⟩=> ?_) hm
 subst e;cases r3;exact wpAny_truthy_bool ⟨H3,I3,q3⟩
def Iz (r r':R2) (ta tb tc:TE):TE:=fun σ H Q=>ta σ H fun x H1=>tb σ H1 fun y H2=>r x y H2 fun z H3=>∃k,z = .bl k /\
 (if k=true then tc σ H3 fun w' H4=>r' y w' H4 Q else Q (.bl false) H3)
theorem Jt {op op':CmpOp} {r r':R2} (ho:qG X (compareOp op) r) (ho':qG X (compareOp op') r') (ha:PE X a ta) (hb:PE X b tb) (hc:PE X c tc)
 (hm:lastMarks [op,op'] [b,c]=false:=by with_unfolding_all rfl):PE X (.Compare a [op,op'] [b,c] pos) (Iz r r' ta tb tc):=by
 intro pins s σ H Q I h
 refine Compare_chain (cT (ha pins s σ H _ I h) fun v s1 ⟨x,H1,I1,r1,q1⟩=>chain_link (cT (hb pins s1 σ H1 _ I1 q1) fun u s2 ⟨y,H2,I2,r2,q2⟩=>
  cT (ho pins s2 σ H2 x y v u _ I2 r1 r2 q2) fun d s3 ⟨z,H3,I3,r3,k,e,q3⟩=> ?_)) hm
 subst e;cases r3;refine wpAny_truthy_bool ?_;cases k with
 | false=>exact ite_ff ⟨.bl false,H3,I3,rfl,q3⟩
 | true=>exact ite_tt (chain_last (cT (hc pins s3 σ H3 _ I3 q3) fun w' s4 ⟨z',H4,I4,r4,q4⟩=>ho' pins s4 σ H4 y z' u w' Q I4 r2 r4 q4))
theorem yJ {op op':CmpOp} {r r':R2} (ho:qG X (compareOp op) r) (ho':qG X (compareOp op') r') (ha:PE X a ta) (hb:PE X b tb) (hc:PE X c tc)
 (hm:lastMarks [op,op'] [b,c]=false:=by with_unfolding_all rfl):PT X (.Compare a [op,op'] [b,c] pos) (Ds (Iz r r' ta tb tc)):=by
 intro pins s σ H Q I h
 refine isTrue_chain (cT (ha pins s σ H _ I h) fun v s1 ⟨x,H1,I1,r1,q1⟩=>test_link (cT (hb pins s1 σ H1 _ I1 q1) fun u s2 ⟨y,H2,I2,r2,q2⟩=>
  cT (ho pins s2 σ H2 x y v u _ I2 r1 r2 q2) fun d s3 ⟨z,H3,I3,r3,k,e,q3⟩=> ?_)) hm
 subst e;cases r3;refine wpAny_truthy_bool ?_;cases k with
 | false=>
   obtain ⟨k',e',q'⟩:=q3;cases e';exact ite_ff ⟨H3,I3,q'⟩
 | true=>
   refine ite_tt (test_last (cT (hc pins s3 σ H3 _ I3 q3) fun w' s4 ⟨z',H4,I4,r4,q4⟩=>cT (ho' pins s4 σ H4 y z' u w' _ I4 r2 r4 q4) fun d' s5 ⟨z2,H5,I5,r5,k2,e2,q5⟩=> ?_));subst e2;cases r5;exact wpAny_truthy_bool ⟨H5,I5,q5⟩
def Ol (K:PySem.W.Frag) (x:V) (H:Hp) (k:Bool):Prop:=
 match x with
 | .non=>k=false
 | .bl b=>k=b
 | .int i=>k=(i != 0)
 | .str y=>y.length<=sizeLine/\k=((y.length:Int) != 0)
 | .EY y=>y.size<=sizeLine/\k=((y.size:Int) != 0)
 | .ref p=>(∃xs,aW K H p xs/\k = !xs.isEmpty)\/(∃xs,cu K H p xs/\k = !xs.isEmpty) \/ ∃kvs,H p=some (.dK kvs)/\k = !kvs.isEmpty
 | _=>False
theorem Cq {κ:Type} {kvs:List (κ×V)} {vs:List (κ×Value)} (r:KV kvs vs):(!vs.isEmpty) = !kvs.isEmpty:=by
 cases r<;>rfl
theorem tH {xs:List V} {its:List Value} (r:Vals xs its):(!its.toArray.isEmpty) = !xs.isEmpty:=by
 cases r<;>simp
theorem pX:(sizeLine:Nat)<2 ^ 63:=by rw [sizeLine_eq];decide
theorem Iu:aed X (fun x H Q=>∃k,Ol X.K x H k/\Q k H):=by
 intro pins s σ H x v Q I rx h;obtain ⟨k,e,q⟩:=h;have hl:=pX;have hs:sizeLine=16777216:=sizeLine_eq;cases x with
 | non=>
   cases rx;have e':k=false:=e;subst e';exact truthy_none ⟨H,I,q⟩
 | bl b=>
   cases rx;have e':k=b:=e;subst e';exact wpAny_truthy_bool ⟨H,I,q⟩
 | int i=>
   obtain ⟨t,rfl⟩:=rx;have e':k=(i != 0):=e;subst e';exact PySem.P.truthy_int ⟨H,I,q⟩
 | str y=>
   obtain ⟨t,rfl⟩:=rx;obtain ⟨hy,e'⟩:y.length<=sizeLine/\k=((y.length:Int) != 0):=e;subst e';exact PySem.P.truthy_str (by omega) ⟨H,I.tok _,q⟩
 | EY y=>
   obtain ⟨t,rfl⟩:=rx;obtain ⟨hy,e'⟩:y.size<=sizeLine/\k=((y.size:Int) != 0):=e;subst e';exact PySem.W.truthy_bytes (by omega) ⟨H,I.tok _,q⟩
 | ref p=>
   cases rx;have e':(∃xs,aW X.K H p xs/\k = !xs.isEmpty)\/(∃xs,cu X.K H p xs/\k = !xs.isEmpty) \/ ∃kvs,H p=some (.dK kvs)/\k = !kvs.isEmpty:=e;rcases e' with ⟨xs,hx,e'⟩|⟨xs,hx,e'⟩|⟨kvs,hx,e'⟩
   ·subst e'
    obtain ⟨its,r,pl,hz⟩:=I.list hx;have hlen:=r.length;exact wpAny_truthy_list pl.isList (by simp only [List.size_toArray];omega) ⟨H,I.tok _,by rw [tH r];exact q⟩
   ·subst e'
    obtain ⟨its,r,pl,hz⟩:=I.tuple hx;have hlen:=r.length;exact truthy_tuple pl (by simp only [List.size_toArray];omega) ⟨H,I.tok _,by rw [tH r];exact q⟩
   ·subst e'
    obtain ⟨hz,hS,vs,r,m⟩:kvs.length<=sizeLine/\(p==sysModules)=false /\ ∃vs,KV kvs vs/\s.heap.DictOf (bY X.prog X.w) p vs:=I.hok p _ hx;have hlen:kvs.length=vs.length:=Paired.length r;exact wpAny_truthy_dict hS m (by omega) ⟨H,I.tok _,by rw [Cq r];exact q⟩
 | _=>exact (show False from e).elim
theorem Jh (ha:PE X a ta) (he:∀whole,isTrue a X.env whole=(do let v ←whole;standAt a.pos;holding [v] (truthy v))):
 PT X a (fun σ H Q=>ta σ H fun x H'=>∃k,Ol X.K x H' k/\Q k H'):=by
 intro pins s σ H Q I h;exact isTrue_plain (cT (ha pins s σ H _ I h) fun v s1 ⟨x,H1,I1,r1,q1⟩=>Iu pins s1 σ H1 x v Q I1 r1 q1) (he _)
theorem vals1 {x:V} {us:List Value} (r:Vals [x] us):∃u,us=[u]/\RelV x u:=by
 cases r with
 | cons r1 r2=>cases r2;exact ⟨_,rfl,r1⟩
theorem vals2 {x y:V} {us:List Value} (r:Vals [x,y] us):∃u w',us=[u,w']/\RelV x u/\RelV y w':=by
 cases r with
 | cons r1 r2=>
   cases r2 with
   | cons r3 r4=>cases r4;exact ⟨_,_,rfl,r1,r3⟩
theorem nj (hc:X.calm=true):jG X (.builtin "max") (fun xs H Q=>∃i j,xs=[.int i,.int j]/\Q (.int (if j>i then j else i)) H):=by
 intro pins s σ H xs us Q I r h;obtain ⟨i,j,rfl,q⟩:=h;obtain ⟨u,w',rfl,⟨t,rfl⟩,⟨t',rfl⟩⟩:=vals2 r;refine max_two_ints (I.ok.hd hc) fun h' tk k=>⟨_,H,I.kept k, ?_,q⟩
 by_cases hj:j>i
 ·rw [if_pos hj,if_pos hj];exact ⟨_,rfl⟩
 ·rw [if_neg hj,if_neg hj];exact ⟨_,rfl⟩
end
end L2
namespace L2
open PySem PySem.Spec PyProof.Rows
structure RP (h:Heap) (x dx C:Addr) (mA:Str->Option Value):Prop where
 obj:h.get? x=some (PySem.W.instObj C dx)
 ns:h.Ns1 dx mA
 ne:dx≠x
theorem Gw {h:Heap} {dx:Addr} {mA:Str->Option Value} (n:h.Ns1 dx mA):∃od,h.get? dx=some od /\ ∀name,PySem.W.lookIn name od=some (mA name):=by
 obtain ⟨o,es,ep,ho,hd,hk,_,hm⟩:=n;refine ⟨o,ho,fun name=> ?_⟩;have e:=hm name;unfold nsFind findBy at e;rw [←Array.find?_toList] at e;unfold PySem.W.lookIn;rw [hd];dsimp only;split
 ·rename_i y q
  rw [q] at e;exact congrArg some e
 ·rename_i q
  rw [q] at e
  have a:es.toList.any (·.refKey)=false:=by
   rw [List.any_eq_false];intro y hy;obtain ⟨z,t,hkey⟩:=hk y (Array.mem_toList_iff.mp hy);simp [DictEntry.refKey,hkey]
  have a':¬es.toList.any (·.refKey)=true:=by rw [a];exact Bool.false_ne_true
  rw [if_neg a'];exact congrArg some e
theorem RP.look {h:Heap} {x dx C:Addr} {mA:Str->Option Value} (I:RP h x dx C mA):∃od,PySem.W.InstAt h x (PySem.W.instObj C dx) C (some od) /\ ∀name,PySem.W.lookIn name od=some (mA name):=
 let ⟨od,ho,hl⟩:=Gw I.ns
 ⟨od,⟨I.obj,rfl,rfl,ho⟩,hl⟩
section
variable {prog:Program} {w:World} {A:Around} {E:Value->Shared->Prop} {s:Shared} {K:PySem.W.Frag} {x dx C f:Addr} {mA:Str->Option Value} {name:Str} {v:Value}
end
theorem qd.some_of {v:V} {o:Option Value} (r:qd (some v) o):∃u,o=some u/\RelV v u:=by
 cases o with
 | none=>exact (show False from r).elim
 | some u=>exact ⟨u,rfl,r⟩
section
variable {P:Program} {w:World} {H H':Hp} {h h':Heap} {a C dx:Addr} {fs fs':List (Str×V)}
theorem Np (hok:n6 P w H h) (e:H a=some (.ins C dx fs)):∃mA,RP h a dx C mA/\(∀f,qd (fs.lookup f) (mA f))/\PySem.Within mA (fs.map (·.1))/\fs.length<=1000/\H dx=some (.own a):=by
 obtain ⟨d,z,ne,ob,mA,n,r,q⟩:=(show cD P w H h a (.ins C dx fs) from hok a _ e);exact ⟨mA,⟨ob,n,ne⟩,r,q,z,d⟩
end
structure Cls (K:PySem.W.Frag) (C:Addr):Prop where
 pg:PySem.W.plainGet K C Str.empty=true
 hd:PySem.W.hasDictIn K C=true
 po:PySem.W.plainOver K C=true
 sa:PySem.W.findIn K (.ref C) "__setattr__" = some (some (.builtin "object.__setattr__"))
theorem Cls.get {K:PySem.W.Frag} {C:Addr} (c:Cls K C) (f:Str):PySem.W.plainGet K C f=true:=c.pg
section
variable {X:Cx} {pins:List (Addr×Obj)} {σ:St} {H:Hp} {s:Shared} {a C dx:Addr} {fs:List (Str×V)} {f:Str} {v:V} {A:Around} {E:Value->Shared->Prop}
end
section
variable {X:Cx} {o e value:Expr} {f:Str} {pos pos' tpos:Pos} {ta tv:TE}
end
section
variable {X:Cx} {pins:List (Addr×Obj)} {σ:St} {H:Hp} {s:Shared} {A:Around} {E:Value->Shared->Prop} {Q:Value->Shared->Prop} {c:Value} {b:Bool}
inductive o9 (K:PySem.W.Frag) (H:Hp):V->Value->Prop where
 | non:o9 K H .non (.type "NoneType")
 | bl (x:Bool):o9 K H (.bl x) (.type "bool")
 | int (i:Int):o9 K H (.int i) (.type "int")
 | str (x:Str):o9 K H (.str x) (.type "str")
 | flt (x:UInt64):o9 K H (.flt x) (.type "float")
 | lst {a:Addr} {xs:List V} (e:H a=some (.lst xs)):o9 K H (.ref a) (.type "list")
 | lF {a:Addr} {o:Obj} {xs:List V} (e:H a=some (.lF o (.lst xs))):o9 K H (.ref a) (.type "list")
 | tup {a:Addr} {xs:List V} (e:H a=some (.tup xs)):o9 K H (.ref a) (.type "tuple")
 | dK {a:Addr} {kvs:List (Key×V)} (e:H a=some (.dK kvs)):o9 K H (.ref a) (.type "dict")
 | dT {a:Addr} {kvs:List (List Key×V)} (e:H a=some (.dT kvs)):o9 K H (.ref a) (.type "dict")
 | ins {a C dx:Addr} {fs:List (Str×V)} (e:H a=some (.ins C dx fs)) (cl:Cls K C) (ha:PySem.W.findIn K (.ref C) "__class__" = some (some (.builtin "object.__class__")))
    (hn:PySem.W.specialIn K (.builtin "object.__class__") "__get__" = some (some (.builtin "getset_descriptor.__get__"))) (htk:PySem.W.takesIn K (.builtin "object.__class__")=some true)
    (hm:PySem.W.mroIn K C (.type "object")=some true):o9 K H (.ref a) (.ref C)
theorem GC {x:V} {u t:Value} (I:Inv X pins σ H s) (rx:RelV x u) (ty:o9 X.K H x t) (e:PySem.W.kitOne X.K t c=some b) (h:∀tk,Q (.bool b) {s with toks:=tk}):
 wpAny (model X.prog X.w) A (call (.builtin "isinstance") [u,c]) Q E s:=by
 cases ty with
 | non=>cases (show u=Value.none from rx);exact PySem.W.kia_one PySem.W.kitx_none I.vH True.intro e (fun z=>nomatch z) h
 | bl y=>cases (show u=Value.bool y from rx);exact PySem.W.kia_one PySem.W.kitx_bool I.vH True.intro e (fun z=>nomatch z) h
 | int i=>obtain ⟨t,q⟩:=(show ∃t,u=Value.int i t from rx);cases q;exact PySem.W.kia_one PySem.W.kitx_int I.vH True.intro e (fun z=>nomatch z) h
 | str y=>obtain ⟨t,q⟩:=(show ∃t,u=Value.str y t from rx);cases q;exact PySem.W.kia_one PySem.W.kitx_str I.vH True.intro e (fun z=>nomatch z) h
 | flt y=>obtain ⟨t,q⟩:=(show ∃t,u=Value.float y t from rx);cases q;exact PySem.W.kia_one PySem.W.kitx_float I.vH True.intro e (fun z=>nomatch z) h
 | @lst a xs ea=>
   cases (show u=Value.ref a from rx);obtain ⟨_,_,n,_,h1⟩:=(show cD X.prog X.w H s.heap a (.lst xs) from I.hok a _ ea);exact PySem.W.kia_one PySem.W.kitx_list I.vH ⟨_,h1,rfl⟩ e (fun z=>nomatch z) h
 | @lF a ob xs ea=>
   cases (show u=Value.ref a from rx);obtain ⟨_,_,_,n,_,h1⟩:=(show cD X.prog X.w H s.heap a (.lF ob (.lst xs)) from I.hok a _ ea);exact PySem.W.kia_one PySem.W.kitx_list I.vH ⟨_,h1,rfl⟩ e (fun z=>nomatch z) h
 | @tup a xs ea=>
   cases (show u=Value.ref a from rx);obtain ⟨_,_,_,p⟩:=(show cD X.prog X.w H s.heap a (.tup xs) from I.hok a _ ea);obtain ⟨o,h1,h2,_⟩:=p;exact PySem.W.kia_one PySem.W.kitx_tuple I.vH ⟨o,h1,h2⟩ e (fun z=>nomatch z) h
 | @dK a kvs ea=>
   cases (show u=Value.ref a from rx);obtain ⟨_,_,vs,_,p⟩:=(show cD X.prog X.w H s.heap a (.dK kvs) from I.hok a _ ea);obtain ⟨o,es,ep,h1,h2,_⟩:=p;exact PySem.W.kia_one PySem.W.kitx_dict I.vH ⟨o,h1,h2.1⟩ e (fun z=>nomatch z) h
 | @dT a kvs ea=>
   cases (show u=Value.ref a from rx);obtain ⟨_,_,xs,_,o,es,ep,h1,h2,_⟩:=(show cD X.prog X.w H s.heap a (.dT kvs) from I.hok a _ ea);exact PySem.W.kia_one PySem.W.kitx_dict I.vH ⟨o,h1,h2.1⟩ e (fun z=>nomatch z) h
 | @ins a C dx fs ea cl ha hn htk hm=>
   cases (show u=Value.ref a from rx);obtain ⟨mA,O,_⟩:=Np I.hok ea;obtain ⟨od,J,_⟩:=O.look;exact PySem.W.kia_one (PySem.W.kitx_own (cl.get _) cl.hd ha hn htk hm) I.vH J e (fun z=>nomatch z) h
end
end L2
namespace L2
open PySem PySem.Spec PyProof.Rows
structure kW (k:Nat) (A:Around):Prop where
 hd:A.handled=none
 dp:A.depth+3*k+5<recursionLimit
 un:A.units+16*k+200<cLine
theorem kW.mono {j k:Nat} {A:Around} (r:kW k A) (h:j<=k):kW j A:=⟨r.hd,by have:=r.dp;omega,by have:=r.un;omega⟩
theorem kW.deeper {k:Nat} {A:Around} (r:kW (k+1) A) (env:Env):kW k (A.deeper env):=
 ⟨r.hd,by have:=r.dp;show A.depth+1+3*k+5<_;omega,by have:=r.un;show A.units+3+16*k+200<_;omega⟩
theorem kW.depth {k:Nat} {A:Around} (r:kW k A):A.depth<recursionLimit:=by have:=r.dp;omega
theorem kW.units {k:Nat} {A:Around} (r:kW k A):A.units+64<cLine:=by have:=r.un;omega
def PJ:TA:=fun _ H Q=>Q [] H
def S9 (ta:TE) (tr:TA):TA:=fun σ H Q=>ta σ H fun x H1=>tr σ H1 fun xs H2=>Q (x::xs) H2
section
variable {X:Cx} {e:Expr} {es:List Expr} {te:TE} {t:TA} {pos:Pos}
theorem ao:PA X [] PJ:=fun _ _ _ _ H Q I h=>Calls.spliced_nil ⟨[],H,I,.nil,h⟩
theorem aj (ha:PE X e te) (hr:PA X es t) (hs:starEach (e::es) X.env=(false,eval e X.env)::starEach es X.env:=by rfl):PA X (e::es) (S9 te t):=by
 intro pos pins s σ H Q I h;rw [hs];show wpAny _ _ (spliced ((false,eval e X.env)::backTo pos (starEach es X.env))) _ _ s;refine Calls.spliced_cons (cT (ha pins s σ H _ I h) fun u s1 ⟨x,H1,I1,r1,q1⟩=> ?_);exact cT (hr pos pins s1 σ H1 _ I1 q1) fun us s2 ⟨xs,H2,I2,r2,q2⟩=>⟨x::xs,H2,I2,.cons r1 r2,q2⟩
def Yu (t:TA):TE:=fun σ H Q=>t σ H fun xs H1=>xs.length<=sizeLine /\ ∀p,H1 p=none->Q (.ref p) (upd H1 p (.tup xs))
def Yx (t:TA):TE:=fun σ H Q=>t σ H fun xs H1=>xs.length<=sizeLine /\ ∀p,H1 p=none->Q (.ref p) (upd H1 p (.lst xs))
theorem fU {x1} (h:PA X es t):PE X (.Tuple es x1 pos) (Yu t):=by
 intro pins s σ H Q I hq;refine wpAny_Tuple_spliced (cT (h pos pins s σ H _ I hq) fun us s1 ⟨xs,H1,I1,r,z,q⟩=>⟨by rw [←r.length];exact z, ?_⟩);have hf:H1 s1.heap.objs.size=none:=I1.hok.fresh (Nat.le_refl _);refine ⟨.ref s1.heap.objs.size,upd H1 s1.heap.objs.size (.tup xs),I1.laid (t':=s1.toks) (fun b u e=>Heap.get?_push_of_some _ e) (Nat.le_refl _) ?_,rfl,q _ hf⟩;exact ⟨z,us,r,⟨_,Heap.get?_push_size _ rfl,rfl,_,rfl⟩⟩
theorem cW (h:PA X es t):PE X (.List es pos) (Yx t):=by
 intro pins s σ H Q I hq;refine wpAny_List_spliced (cT (h pos pins s σ H _ I hq) fun us s1 ⟨xs,H1,I1,r,z,q⟩=>⟨by rw [←r.length];exact z, ?_⟩);have hf:H1 s1.heap.objs.size=none:=I1.hok.fresh (Nat.le_refl _);refine ⟨.ref s1.heap.objs.size,upd H1 s1.heap.objs.size (.lst xs),I1.laid (t':=s1.toks) (fun b u e=>Heap.get?_push_of_some _ e) (Nat.le_refl _) ?_,rfl,q _ hf⟩;exact ⟨z,us,0,r,Heap.get?_push_size _ rfl⟩
end
abbrev Sp:=List V->Hp->VK->XK->Prop
abbrev K8:=List Env->Hp->Shared->XK->Value->Shared->Prop
structure Ot (P:Program) (w:World) (K:PySem.W.Frag) (mg:Str->Option Value) (base:Heap) (A:Around) (outer:List Env) (s:Shared) (H:Hp):Prop where
 frames:A.frames=some outer
 mod:Mod K mg base
 bs:∀b o,base.get? b=some o->s.heap.get? b=some o/\H b=none
 Lj:base.objs.size<=s.heap.objs.size
 tO:s.heap.FunFrames base outer
 Ss:∀b∈frs outer,H b=none
 hok:n6 P w H s.heap
 bare:AllBare s.gens
def CE (outer:List Env) (P:Program) (w:World) (H:Hp) (s:Shared) (Q:VK) (u:Value) (s':Shared):Prop:=
 ∃v H',s'.os=s.os/\AllBare s'.gens/\Un (frs outer) [] H H' s.heap s'.heap/\n6 P w H' s'.heap/\RelV v u/\Q v H'
def CR (CX:K8) (outer:List Env) (P:Program) (w:World) (H:Hp) (s:Shared) (Q:VK) (E:XK) (r:Result) (s':Shared):Prop:=
 match r with
 | .ok (.ret u)=>CE outer P w H s Q u s'
 | .ok _=>False
 | .error e=>CX outer H s E e s'
structure cY (P:Program) (w:World) (K:PySem.W.Frag) (mg:Str->Option Value) (base:Heap) (CX:K8) (k:Nat) (f:Addr) (fd:FuncData) (ps:List Str) (sp:Sp):Prop where
 len:∀vs H Q E,sp vs H Q E->vs.length=ps.length
 run:∀(A:Around) (outer:List Env) (s:Shared) (H:Hp) (args:Args) (us:List Value) (vs:List V) (Q:VK) (E:XK),kW k A->Ot P w K mg base A outer s H->BindsTo s fd args (ps.zip us)->Vals vs us->sp vs H Q E ->
  codeAny (model P w) A (.call (.ref f) args) (CR CX outer P w H s Q E) s
section
variable {X:Cx} {pins:List (Addr×Obj)} {σ:St} {H:Hp} {s s':Shared}
theorem Inv.env0 (I:Inv X pins σ H s):Ot X.prog X.w X.K X.mg X.base X.A X.stack s H:=
 ⟨I.ok.frames,I.ok.mod,I.bs,Nat.le_trans I.ok.Lj I.sz,I.stack,I.vZ,I.hok,I.bare⟩
theorem Inv.after {Q:VK} {u:Value} (I:Inv X pins σ H s) (h:CE X.stack X.prog X.w H s Q u s'):EP X pins σ Q u s':=by
 obtain ⟨v,H',os,bare,un,hok,r,q⟩:=h;obtain ⟨hh,g,d,t,os'⟩:=s';obtain rfl:os'=s.os:=os;exact ⟨v,H',I.call (h':=hh) (g':=g) (d':=d) (t':=t) (ch:=[]) un hok bare (fun b z=>absurd z (by simp)),r,q⟩
end
def OD (sp:Sp) (HW:List V) (E:XK) (t:TA):TE:=fun σ H Q=>t σ H fun vs H1=>sp (vs++HW) H1 Q E
def Binds (K:PySem.W.Frag) (fd:FuncData) (ps:List Str) (ds:List Value):Prop:=
 ∀(s:Shared) (us:List Value),K.In s.heap->(us++ds).length=ps.length->BindsTo s fd ⟨us,[]⟩ (ps.zip (us++ds))
theorem Binds.all {K:PySem.W.Frag} {fd:FuncData} {ps:List Str} (h:∀us:List Value,us.length=ps.length->bindArgs fd ⟨us,[]⟩=pure (ps.zip us)):Binds K fd ps []:=fun s us _ hl=>by
 rw [List.append_nil] at hl ⊢;exact .of_eq (h us hl)
def Passes (CX:K8) (X:Cx) (E:XK):Prop:=∀(pins:List (Addr×Obj)) (σ:St) (H:Hp) (s:Shared) (e:Value) (s':Shared),Inv X pins σ H s->CX X.stack H s E e s'->X.xe e s'
section
variable {X:Cx} {CX:K8} {k:Nat} {f C:Addr} {fd:FuncData} {ps:List Str} {sp:Sp} {HW:List V} {ds:List Value} {E:XK} {x m:Str} {p pos apos:Pos} {e o:Expr} {es:List Expr} {ta:TE} {t:TA}
theorem Ql {pins:List (Addr×Obj)} {σ:St} {H:Hp} {s:Shared} {Q:VK} {us:List Value} {vs:List V} (F:cY X.prog X.w X.K X.mg X.base CX k f fd ps sp) (hr:kW k X.A) (hb:Binds X.K fd ps ds) (hd:Vals HW ds) (hx:Passes CX X E)
 (I:Inv X pins σ H s) (r:Vals vs us) (h:sp (vs++HW) H Q E):wpAny (model X.prog X.w) X.A (call (.ref f) us) (EP X pins σ Q) X.xe s:=by
 have r2:Vals (vs++HW) (us++ds):=r.append hd;have hl:(us++ds).length=ps.length:=by rw [←r2.length];exact F.len _ _ _ _ h
 refine wpAny_call (codeAny_mono (F.run X.A X.stack s H ⟨us,[]⟩ (us++ds) (vs++HW) Q E hr I.env0 (hb s us I.vH hl) r2 h) fun r s' hq=> ?_);cases r with
 | error e=>exact hx pins σ H s e s' I hq
 | ok fl=>
   cases fl with
   | ret u=>exact I.after hq
   | next=>exact False.elim hq
   | brk=>exact False.elim hq
   | cont=>exact False.elim hq
theorem Ms (F:cY X.prog X.w X.K X.mg X.base CX k f fd ps sp) (hr:kW k X.A) (hg:Gl X x) (hm:X.mg x=some (.ref f)) (hk:PySem.W.keepIn X.K (.ref f)=true) (hb:Binds X.K fd ps ds) (hd:Vals HW ds) (hx:Passes CX X E)
 (ha:PA X (e::es) t) (hdb:(x==("__debug__" :Str))=false:=by decide) (he:starEach (e::es) X.env=(false,eval e X.env)::starEach es X.env:=by rfl) (hpl:(backTo pos (starEach es X.env)).any (·.1)=false:=by rfl):
 PE X (.Call (.Name x p) (e::es) [] pos) (OD sp HW E t):=by
 intro pins s σ H Q I h;refine wpAny_Call_Name_kw (Ei I hg hm ?_ hdb);refine PySem.W.callWith_K (h₀:=X.base) I.ok.mod.kin hk (cT (ha pos pins s σ H _ I h) fun us s1 ⟨vs,H1,I1,r,q⟩=>⟨I1.vH, ?_⟩) he hpl;exact Ql F hr hb hd hx I1 r q
end
section
variable {X:Cx} {CX:K8} {k:Nat} {f C:Addr} {fd:FuncData} {ps ks:List Str} {sp:Sp} {E:XK} {x m:Str} {p pos apos kpos:Pos} {e o:Expr} {es:List Expr} {kws:List Keyword} {te ta:TE} {t tk:TA} {nm:Option Str}
variable {g:List Value->List Value->List Value} {gV:List V->List V->List V}
end
structure bf (N P:List Str) (sc:Scope):Prop where
 kind:sc.kind = .function
 co:sc.isCoroutine=false
 gen:sc.isGenerator=false
 nd:N.Nodup
 pre:N.take P.length=P
 par:∀x∈P,sc.names.lookup x=some .local\/sc.names.lookup x=some .cell
 QG:∀y∈sc.names,y.2 ≠ .free
theorem vO {kindOf:Str->Option NameKind} {x:Str}:∀{binds:List (Str×Value)} {m:Str->Option Value},(∀v,(x,v)∉binds)->bindL kindOf binds m x=m x
 | [],_,_=>rfl
 | (n,v)::r,m,h=>by
   unfold bindL;rw [vO fun w hw=>h w (List.mem_cons_of_mem _ hw)];split
   ·have:x≠n:=by rintro rfl;exact h v List.mem_cons_self
    simp [this]
   ·rfl
theorem vQ {kindOf:Str->Option NameKind} {x:Str}:∀{binds:List (Str×Value)} {m:Str->Option Value},(∀v,(x,v)∉binds)->bindC kindOf binds m x=m x
 | [],_,_=>rfl
 | (n,v)::r,m,h=>by
   unfold bindC;rw [vQ fun w hw=>h w (List.mem_cons_of_mem _ hw)];split
   ·rfl
   ·have:x≠n:=by rintro rfl;exact h v List.mem_cons_self
    simp [this]
theorem vP {kindOf:Str->Option NameKind} {x:Str} {v:Value}:∀{P:List Str} {vs:List Value} {i:Nat} {m:Str->Option Value},P.Nodup->P[i]? = some x->vs[i]? = some v->kindOf x=some .local ->
 bindL kindOf (P.zip vs) m x=some v
 | [],_,_,_,_,h,_,_=>by simp at h
 | _::_,[],_,_,_,_,h,_=>by simp at h
 | p::P,w::vs,0,m,nd,h1,h2,hk=>by
   simp at h1 h2;subst h1;subst h2;show bindL kindOf ((p,w)::P.zip vs) m p=_;unfold bindL;rw [vO fun v hv=>(List.nodup_cons.mp nd).1 (List.of_mem_zip hv).1,if_pos hk];simp
 | p::P,w::vs,i+1,m,nd,h1,h2,hk=>by
   show bindL kindOf ((p,w)::P.zip vs) m x=_;unfold bindL;exact vP (i:=i) (List.nodup_cons.mp nd).2 (by simpa using h1) (by simpa using h2) hk
theorem vR {kindOf:Str->Option NameKind} {x:Str} {v:Value}:∀{P:List Str} {vs:List Value} {i:Nat} {m:Str->Option Value},P.Nodup->P[i]? = some x->vs[i]? = some v->kindOf x≠some .local ->
 bindC kindOf (P.zip vs) m x=some v
 | [],_,_,_,_,h,_,_=>by simp at h
 | _::_,[],_,_,_,_,h,_=>by simp at h
 | p::P,w::vs,0,m,nd,h1,h2,hk=>by
   simp at h1 h2;subst h1;subst h2;show bindC kindOf ((p,w)::P.zip vs) m p=_;unfold bindC;rw [vQ fun v hv=>(List.nodup_cons.mp nd).1 (List.of_mem_zip hv).1,if_neg hk];simp
 | p::P,w::vs,i+1,m,nd,h1,h2,hk=>by
   show bindC kindOf ((p,w)::P.zip vs) m x=_;unfold bindC;exact vR (i:=i) (List.nodup_cons.mp nd).2 (by simpa using h1) (by simpa using h2) hk
def start (N:List Str) (vs:List V):St:=vs.map some++List.replicate (N.length - vs.length) none
def G4 (CX:K8) (P:Program) (w:World) (K:PySem.W.Frag) (mg:Str->Option Value) (base:Heap) (N:List Str) (qual:Str) (scope:Scope) (f:Addr) (cd:Value) (A:Around) (outer:List Env) (s:Shared) (H:Hp) (E:XK):Cx where
 prog:=P
 w:=w
 K:=K
 mg:=mg
 base:=base
 A:=A.deeper (envOfC qual scope s.heap.objs.size f cd)
 N:=N
 s₀:=s
 H₀:=H
 env:=envOfC qual scope s.heap.objs.size f cd
 outer:=outer
 stack:=envOfC qual scope s.heap.objs.size f cd::outer
 ex:=[]
 calm:=true
 fn:=fun _=>true
 pn:=[]
 xe:=fun e s'=>wpAny (model P w) (A.deeper (envOfC qual scope s.heap.objs.size f cd)) (leaving (envOfC qual scope s.heap.objs.size f cd) e) (fun _ s''=>CX outer H s E e s'') (fun e' s''=>CX outer H s E e' s'') s'
theorem z8 {sc:Scope} {n:Nat} {x:Str} (h:sc.names.lookup x=some .cell):∃c,(cellsFrom n sc.names []).lookup x=some c:=by
 have q:=PySem.W.cellsFrom_some sc.names n [] (.inl h);exact Option.isSome_iff_exists.mp q
theorem GF {CX:K8} {P:Program} {w:World} {K:PySem.W.Frag} {mg:Str->Option Value} {base:Heap} {N ps:List Str} {qual:Str} {scope:Scope} {f:Addr} {cd:Value} {A:Around} {outer:List Env} {s s1:Shared} {H:Hp} {E:XK} {us:List Value} {vs:List V}
 (S:bf N ps scope) (hd:A.handled=none) (e0:Ot P w K mg base A outer s H) (hl:vs.length=ps.length) (r:Vals vs us)
 (x:InCallC s s.heap.objs.size (bindL (envOfC qual scope s.heap.objs.size f cd).kindOf (ps.zip us) fun _=>none) (cellsFrom (s.heap.objs.size+1) scope.names []) (bindC (envOfC qual scope s.heap.objs.size f cd).kindOf (ps.zip us) fun _=>none) s1):
 Inv (G4 CX P w K mg base N qual scope f cd A outer s H E) [] (start N vs) H s1:=by
 have hpl:ps.length<=N.length:=by have:=congrArg List.length S.pre;rw [List.length_take] at this;omega
 obtain ⟨h1,tk,rfl,hk⟩:=x.done;have T5:∀b:Addr,b∉(G4 CX P w K mg base N qual scope f cd A outer s H E).ex:=fun b z=>absurd (show b∈([]:List Addr) from z) (by simp)
 refine ⟨⟨e0.mod,S.kind,rfl,rfl,Nat.le_refl _,fun y z c h1 h2=> ?_,fun y hy=> ?_,fun y c _ h=> ?_,fun _=>hd,Around.frames_deeper e0.frames,.inr ⟨rfl,rfl⟩,fun b z=>absurd z (T5 b),e0.bs,e0.Lj,fun b _ _=>T5 b,fun b z=>absurd z (T5 b),e0.tO,e0.Ss⟩,
  rfl,e0.bare,Un.kept hk,⟨_,x.toInCall.ns,fun i y v h1 h2 h3=> ?_⟩,fun y c h=>⟨_,x.cell y c h⟩,e0.hok.fresh (Nat.le_refl _),fun y c h=> ?_,fun p hp=>absurd (show p∈([]:List (Addr×Obj)) from hp) (by simp),e0.hok.kept hk, ?_⟩
 ·exact name_of_addr x.apart (PySem.mem_of_lookup h1) (PySem.mem_of_lookup h2)
 ·have hy:scope.names.lookup y=some .cell\/scope.names.lookup y=some .free:=hy
  rcases hy with hy|hy
  ·exact z8 hy
  ·exact absurd rfl (S.QG _ (PySem.mem_of_lookup hy))
 ·exact Nat.le_of_lt (x.above y c (PySem.mem_of_lookup h))
 ·have hi:i<vs.length:=by
   unfold start at h2
   by_cases hi:i<vs.length
   ·exact hi
   ·rw [List.getElem?_append_right (by simpa using hi)] at h2
    rw [List.getElem?_replicate] at h2;split at h2<;>cases h2
  have ha:vs[i]? = some v:=by
   unfold start at h2;rw [List.getElem?_append_left (by simpa using hi),List.getElem?_map] at h2;cases e:vs[i]? with
   | none=>rw [e] at h2;cases h2
   | some a=>rw [e] at h2;cases h2;rfl
  obtain ⟨u,hu,rv⟩:=r.get ha
  have hp:ps[i]? = some y:=by
   rw [←S.pre,List.getElem?_take_of_lt (by omega)];exact h1
  have ndP:ps.Nodup:=by rw [←S.pre];exact S.nd.sublist (List.take_sublist _ _)
  refine ⟨u,rv, ?_⟩;rcases S.par y (List.mem_of_getElem? hp) with k|k
  ·exact .inl ⟨k,vP ndP hp hu k⟩
  ·obtain ⟨c,e⟩:=z8 (n:=s.heap.objs.size+1) k
   refine .inr ⟨.inl k,c,e, ?_⟩;have q:=x.cell y c e;rw [vR ndP hp hu (by show scope.names.lookup y≠_;rw [k];decide)] at q;exact q
 ·exact e0.hok.fresh (Nat.le_of_lt (x.above y c (PySem.mem_of_lookup h)))
 ·unfold start
  show _=N.length;rw [List.length_append,List.length_map,List.length_replicate];omega
theorem UW {CX:K8} {P:Program} {w:World} {K:PySem.W.Frag} {mg:Str->Option Value} {base:Heap} {k:Nat} {f:Addr} {name qual:Str} {params:Arguments} {body:List Stmt} {scope:Scope} {dV kV doc pm cdv ct oc:Value} {an od:Option Addr}
 {osl:Array (Option Value)} {N ps:List Str} {sp:Sp} (lk:K.lookup f=some ⟨oc,od,.func (PySem.W.fnOf name qual params body scope dV kV doc pm an cdv ct),osl⟩) (hcd:PySem.W.codeIn K cdv qual=true) (S:bf N ps scope)
 (len:∀vs H Q E,sp vs H Q E->vs.length=ps.length)
 (hbody:∀(A:Around) (outer:List Env) (s:Shared) (H:Hp) (vs:List V) (Q:VK) (E:XK),kW k (A.deeper (envOfC qual scope s.heap.objs.size f cdv))->sp vs H Q E ->
   ∃t,Hv (G4 CX P w K mg base N qual scope f cdv A outer s H E) body t/\t {nx:=fun _ H'=>Q .non H',rt:=Q} (start N vs) H):
 cY P w K mg base CX (k+1) f (PySem.W.fnOf name qual params body scope dV kV doc pm an cdv ct) ps sp:=by
 refine ⟨len,fun A outer s H args us vs Q E hr e0 hb r hsp=> ?_⟩;have hl:=len _ _ _ _ hsp;have KX:K.In s.heap:=e0.mod.kin.keeps fun b o e=>(e0.bs b o e).1;have lim:s.heap.NoLimit:=e0.mod.nolimit.keeps fun b o e=>(e0.bs b o e).1
 have hkind:∀y∈ps.zip us,scope.names.lookup y.1=some .local\/(scope.names.lookup y.1=some .cell/\((cellsFrom (s.heap.objs.size+1) scope.names []).lookup y.1).isSome=true):=fun ⟨n,v⟩ hy=>by
  rcases S.par n (List.of_mem_zip hy).1 with q|q
  ·exact .inl q
  ·exact .inr ⟨q,PySem.W.cellsFrom_some _ _ _ (.inl q)⟩
 refine codeAny_call_function hr.depth (KX _ _ lk) rfl S.co S.gen rfl (PySem.W.codeRec_of KX hcd) (hb _ _ _ _ ?_);refine wpAny_newFunctionEnv_cells S.kind hkind fun env he s1 x=> ?_;subst he;refine ⟨lim.keeps x.toInCall.keep,codeAny_func ?_⟩;obtain ⟨t,ht,hq⟩:=hbody A outer s H vs Q E (hr.deeper _) hsp;have I:Inv (G4 CX P w K mg base N qual scope f cdv A outer s H E) [] (start N vs) H s1:=GF S hr.hd e0 hl r x;refine wpAny_mono (ht [] s1 (start N vs) H _ I hq) (fun fl s' hs=> ?_) fun e s' hs=>hs
 have fin:∀{σ':St} {H':Hp} {v:V} {u:Value},Inv (G4 CX P w K mg base N qual scope f cdv A outer s H E) [] σ' H' s'->RelV v u->Q v H'->CE outer P w H s Q u s':=
  fun {σ' H' v u} J rv q=>⟨v,H',J.os,J.bare,J.base,J.hok,rv,q⟩
 cases fl with
 | ret u=>
   obtain ⟨v,σ',H',J,rv,q⟩:=hs;exact fin J rv q
 | next=>
   obtain ⟨σ',H',J,q⟩:=hs;exact fin (v:=V.non) (u:=Value.none) J rfl q
 | brk=>
   obtain ⟨_,_,_,q⟩:=hs;exact False.elim q
 | cont=>
   obtain ⟨_,_,_,q⟩:=hs;exact False.elim q
end L2
namespace L2
open PySem PySem.Spec PyProof.Rows
section
variable {X:Cx} {x:Str} {p pos:Pos} {e:Expr} {es:List Expr} {t:TA} {id T:String} {r:List V->Hp->VK->Prop}
def tCB (r:List V->Hp->VK->Prop) (t:TA):TE:=fun σ H Q=>t σ H fun vs H1=>r vs H1 Q
theorem aO (hc:jG X (.builtin id) r) (hg:Gl X x) (hm:X.mg x=none) (hv:bootBuiltins x=some (.builtin id)) (ha:PA X (e::es) t) (hn:x ≠ "__name__" :=by decide) (hdb:(x==("__debug__" :Str))=false:=by decide)
 (he:starEach (e::es) X.env=(false,eval e X.env)::starEach es X.env:=by rfl) (hpl:(backTo pos (starEach es X.env)).any (·.1)=false:=by rfl):PE X (.Call (.Name x p) (e::es) [] pos) (tCB r t):=by
 intro pins s σ H Q I h;refine wpAny_Call_Name_kw (nW I hg hm hv ?_ hn hdb);exact PyProof.Rows.callWith_builtin1 (cT (ha pos pins s σ H _ I h) fun us s1 ⟨vs,H1,I1,r1,q1⟩=>hc pins s1 σ H1 vs us Q I1 r1 q1) he hpl
theorem mV (hc:jG X (.type T) r) (hg:Gl X x) (hm:X.mg x=none) (hv:bootBuiltins x=some (.type T)) (ha:PA X (e::es) t) (hn:x ≠ "__name__" :=by decide) (hdb:(x==("__debug__" :Str))=false:=by decide)
 (he:starEach (e::es) X.env=(false,eval e X.env)::starEach es X.env:=by rfl) (hpl:(backTo pos (starEach es X.env)).any (·.1)=false:=by rfl):PE X (.Call (.Name x p) (e::es) [] pos) (tCB r t):=by
 intro pins s σ H Q I h;refine wpAny_Call_Name_kw (nW I hg hm hv ?_ hn hdb);exact PyProof.Rows.callWith_type1 (cT (ha pos pins s σ H _ I h) fun us s1 ⟨vs,H1,I1,r1,q1⟩=>hc pins s1 σ H1 vs us Q I1 r1 q1) he hpl
end
end L2
namespace HT
open PySem PyProof.Rows
section
open PySem.SeqAt
open PySem.AutoSeq1 (wpAny_loadPart')
open PySem.MeetsSeq PySem.MeetsSeq2 PySem.MeetsSeq3
end
section
variable {prog:Program} {w:World} {A:Around} {E:Value->Shared->Prop} {s:Shared}
theorem Oe {t b:Addr} {vs ws:List Value} {Q:Value->Shared->Prop} (ht:IsTup s.heap t vs.toArray) (hb:IsTup s.heap b ws.toArray) (hv:vs≠[])
 (h1:ws=[]->Q (.ref t) s) (h2:ws≠[]->Q (.ref s.heap.objs.size) {s with heap:=s.heap.push {cls:= .type "tuple",data:= .seq (vs++ws).toArray}})
 (hsz:vs.length+ws.length<=sizeLine):wpAny (model prog w) A (binaryOp .Add (.ref t) (.ref b)) Q E s:=by
 obtain ⟨⟨cls,dd,data,sl⟩,ho,hc,n,hd⟩:=id ht;obtain ⟨⟨cls2,dd2,data2,sl2⟩,ho2,hc2,n2,hd2⟩:=id hb;simp only at hc hd hc2 hd2;subst hc hd hc2 hd2;have e:vs.toArray++ws.toArray=(vs++ws).toArray:=by simp
 by_cases hw:ws=[]
 ·exact concat_meets ⟨_,ho,rfl⟩ ⟨_,ho2,rfl⟩ noFill_tuple_add seq_tuple_add PySem.F.slot_tuple_add PySem.F.entry_tuple_add (PySem.F.args_tuple_add_2 _ _)
   (tuple_addW1 t b vs.toArray ws.toArray n n2 dd dd2 sl sl2 (by simpa using hv) (by simp [hw])) ⟨ho,ho2,h1 hw⟩
 ·refine concat_meets ⟨_,ho,rfl⟩ ⟨_,ho2,rfl⟩ noFill_tuple_add seq_tuple_add PySem.F.slot_tuple_add PySem.F.entry_tuple_add (PySem.F.args_tuple_add_2 _ _)
   (tuple_addW2 t b vs.toArray ws.toArray n n2 dd dd2 sl sl2 (by simpa using hv) (by simpa using hw) (by rw [List.size_toArray,List.size_toArray];exact hsz)) ⟨ho,ho2, ?_⟩
  rw [e];exact h2 hw
def gR (n d:Nat):Option Int->Nat
 | none=>d
 | some v=>if v<0 then (v+(n:Int)).toNat else min v.toNat n
theorem yG (n d:Nat):gR n d none=d:=rfl
theorem Dz (n d k:Nat):gR n d (some (k:Int))=min k n:=by
 show (if (k:Int)<0 then ((k:Int)+(n:Int)).toNat else min (k:Int).toNat n)=min k n;rw [if_neg (by omega),Int.toNat_natCast]
theorem Qi (n d:Nat) (hd:d<=n) (o:Option Int):gR n d o<=n:=by
 cases o with
 | none=>exact hd
 | some v=>
   show (if v<0 then (v+(n:Int)).toNat else min v.toNat n)<=n
   by_cases hv:v<0
   ·rw [if_pos hv];omega
   ·rw [if_neg hv];exact Nat.min_le_right _ _
theorem Ez (v:Int) (n d:Nat):(if v<0 then max (v+(n:Int)) 0 else min v (n:Int))=((gR n d (some v):Nat):Int):=by
 show (if v<0 then max (v+(n:Int)) 0 else min v (n:Int))=(((if v<0 then (v+(n:Int)).toNat else min v.toNat n):Nat):Int)
 by_cases hv:v<0
 ·simp only [if_pos hv];omega
 ·simp only [if_neg hv];omega
theorem Dk (lo hi:Option Int) (n:Nat):Builtin.Slice.sliceAdjust lo hi 1 (n:Int)=(((gR n 0 lo:Nat):Int),((gR n n hi:Nat):Int)):=by
 have h1:¬((1:Int)<0):=by omega
 unfold Builtin.Slice.sliceAdjust;simp only [h1,if_false];refine Prod.ext ?_ ?_
 ·cases lo with
  | none=>rfl
  | some v=>exact Ez v n 0
 ·cases hi with
  | none=>rfl
  | some v=>exact Ez v n n
theorem Bu (i j:Nat):Builtin.Slice.slicePlaces (i:Int) (j:Int) 1=j - i:=by
 unfold Builtin.Slice.slicePlaces;have h1:(1:Int)>0:=by omega
 simp only [h1,if_true,Int.ediv_one];split<;>omega
theorem su {v:Value} {o:Option Int} {Q:Option Int->Shared->Prop} (p:IsPart v o) (h:Q o s):wpAny (model prog w) A (Builtin.Slice.slicePartIndex v) Q E s:=by
 cases p with
 | none=>exact slicePart_none h
 | int i t=>exact slicePart_int h
theorem pN {sl:Addr} {vl vu:Value} {lo hi:Option Int} {n:Nat} {Q:Int×Int×Nat->Shared->Prop} (hs:s.heap.IsSliceOf sl vl vu .none) (pl:IsPart vl lo) (pu:IsPart vu hi)
 (h:Q (((gR n 0 lo:Nat):Int),1,gR n n hi - gR n 0 lo) s):wpAny (model prog w) A (Builtin.Slice.sliceApplied (.ref sl) (pure (n:Int))) Q E s:=by
 obtain ⟨os,hos,hcs,hds⟩:=id hs;unfold Builtin.Slice.sliceApplied Builtin.Slice.sliceFields;refine wpAny_bind (wpAny_bind (wpAny_field hos hds (x:=vl) rfl (wpAny_bind (wpAny_field hos hds (x:=vu) rfl (wpAny_bind (wpAny_field hos hds (x:= .none) rfl (wpAny_pure ?_)))))));refine wpAny_bind (slicePart_none ?_);show wpAny _ _ (if ((1:Int)==0)=true then _ else _) _ _ s;rw [if_neg (by decide)];refine wpAny_bind (su pl (wpAny_bind (su pu (wpAny_bind (wpAny_pure ?_)))));show wpAny _ _ (match Builtin.Slice.sliceAdjust lo hi 1 (n:Int) with |(lo,hi)=>pure (lo,(1:Int),Builtin.Slice.slicePlaces lo hi 1)) _ _ s;rw [Dk lo hi n];show wpAny _ _ (pure (((gR n 0 lo:Nat):Int),(1:Int),Builtin.Slice.slicePlaces ((gR n 0 lo:Nat):Int) ((gR n n hi:Nat):Int) 1)) _ _ s;rw [Bu];exact wpAny_pure h
theorem Jo (xs:Array Value) (i k:Nat):((List.range k).filterMap fun (m:Nat)=>xs[((i:Int)+(m:Int)*1).toNat]?).toArray=((xs.toList.drop i).take k).toArray:=by
 have e:(fun (m:Nat)=>xs[((i:Int)+(m:Int)*1).toNat]?)=fun m=>xs[i+m]? :=by
  funext m;have:((i:Int)+(m:Int)*1).toNat=i+m:=by omega
  rw [this]
 rw [e];have:=pick_run xs i k;rw [List.filterMap_map] at this;have e2:((fun x=>xs[x]?)∘fun x=>i+x)=fun m=>xs[i+m]? :=rfl;rw [e2] at this;rw [this]
theorem oV {t sl:Addr} {items:Array Value} {vl vu:Value} {lo hi:Option Int} {Q:Value->Shared->Prop} (ht:IsTup s.heap t items) (hs:s.heap.IsSliceOf sl vl vu .none) (pl:IsPart vl lo) (pu:IsPart vu hi)
 (hw:¬(gR items.size 0 lo=0/\gR items.size items.size hi=items.size))
 (h:Q (.ref s.heap.objs.size) {s with heap:=s.heap.push {cls:= .type "tuple",data:= .seq ((items.toList.drop (gR items.size 0 lo)).take (gR items.size items.size hi - gR items.size 0 lo)).toArray}})
 (hsz:items.size<=sizeLine):wpAny (model prog w) A (getItem (.ref t) (.ref sl)) Q E s:=by
 have Em:sizeOk (.seq ((items.toList.drop (gR items.size 0 lo)).take (gR items.size items.size hi - gR items.size 0 lo)).toArray):=by
  show ((items.toList.drop (gR items.size 0 lo)).take (gR items.size items.size hi - gR items.size 0 lo)).toArray.size<=sizeLine;rw [List.size_toArray,List.length_take,List.length_drop,Array.length_toList];omega
 have hj:gR items.size items.size hi<=items.size:=Qi _ _ (Nat.le_refl _) hi;obtain ⟨os,hos,hcs,hds⟩:=id hs;have hTs:s.TypeIs (.ref sl) "slice" :=⟨os,hos,hcs⟩;unfold getItem
 try with_reducible refine wpAny_holding ?_
 first |refine wpAny_bind (wpAny_pure ?_)|skip
 refine wpAny_bind (wpAny_sequenceKey ht.typeIs (by decide) ?_)
 refine wpAny_bind (wpAny_callSpecial?_slot (name:=Str.ofString "__getitem__") ht.typeIs PyProof.Rows.slot_tuple_getitem
  (wpAny_call_entry PyProof.Rows.slot_tuple_getitem ht.typeIs entry_tuple_getitem ?_ (args_tuple_getitem _ _)))
 show wpAny _ _ (Builtin.Tuple.tupleItemsOf (.ref t) >>= _) _ _ s;refine wpAny_bind (tupleItemsOf_ ht ?_);refine wpAny_bind (wpAny_typeOf hTs ?_);rw [if_pos (by decide)];refine wpAny_bind (pN hs pl pu ?_)
 have hno:¬((((gR items.size 0 lo:Nat):Int)==0&&(1:Int)==1&&(gR items.size items.size hi - gR items.size 0 lo)==items.size)=true):=by
  intro q;rw [Bool.and_eq_true,Bool.and_eq_true] at q;have q1:((gR items.size 0 lo:Nat):Int)=0:=eq_of_beq q.1.1;have q2:gR items.size items.size hi - gR items.size 0 lo=items.size:=eq_of_beq q.2;exact hw ⟨by omega,by omega⟩
 show wpAny _ _ (if (((gR items.size 0 lo:Nat):Int)==0&&(1:Int)==1&&(gR items.size items.size hi - gR items.size 0 lo)==items.size)=true then _ else _) _ _ s;rw [if_neg hno,Jo]
 first
  | exact wpAny_bind (m:=Builtin.Tuple.tupleExact _) (wpAny_newObj_type (wpAny_pure ⟨_,rfl,wpAny_pure h⟩) Em)
  | exact wpAny_bind (m:=Builtin.Tuple.tupleExact _) (wpAny_newObj_type (wpAny_bind (wpAny_pure (wpAny_pure ⟨_,rfl,wpAny_pure h⟩))) Em)
  | exact wpAny_bind (wpAny_bind (m:=Builtin.Tuple.tupleExact _) (wpAny_newObj_type (wpAny_pure (wpAny_pure ⟨_,rfl,wpAny_pure h⟩)) Em))
  | exact wpAny_bind (wpAny_bind (m:=Builtin.Tuple.tupleExact _) (wpAny_newObj_type (wpAny_pure ⟨_,rfl,wpAny_pure h⟩) Em))
end
end HT
namespace L2
open PySem PySem.Spec PyProof.Rows
abbrev TO:=St->Hp->(Option Int->Hp->Prop)->Prop
def PO (X:Cx) (e:Option Expr) (t:TO):Prop:=
 ∀(pins:List (Addr×Obj)) (s:Shared) (σ:St) (H:Hp) (Q:Option Int->Hp->Prop),Inv X pins σ H s->t σ H Q ->
  wpAny (model X.prog X.w) X.A (evalPart e X.env) (fun u s'=>∃o H',Inv X pins σ H' s'/\IsPart u o/\Q o H') X.xe s
def Lr:TO:=fun _ H Q=>Q none H
def SM (t:TE):TO:=fun σ H Q=>t σ H fun x H1=>∃i,x = .int i/\Q (some i) H1
section
variable {X:Cx} {e:Expr} {te:TE} {lo hi:Option Expr} {tl th:TO} {pos p2:Pos}
theorem iz:PO X none Lr:=by
 intro pins s σ H Q I h;rw [evalPart_none];exact wpAny_pure ⟨none,H,I,.none,h⟩
theorem iy (h:PE X e te):PO X (some e) (SM te):=by
 intro pins s σ H Q I hw;rw [evalPart_some];refine cT (h pins s σ H _ I hw) fun u s1 ⟨x,H1,I1,r1,q1⟩=> ?_;obtain ⟨i,rfl,q⟩:=q1;obtain ⟨t,rfl⟩:=r1;exact ⟨some i,H1,I1,.int i t,q⟩
def VF (X:Cx) (r:V->Option Int->Option Int->Hp->VK->Prop):Prop:=
 ∀(pins:List (Addr×Obj)) (s:Shared) (σ:St) (H:Hp) (x:V) (v vl vu:Value) (lo hi:Option Int) (sl:Addr) (Q:VK),Inv X pins σ H s->RelV x v->s.heap.IsSliceOf sl vl vu .none->IsPart vl lo->IsPart vu hi->r x lo hi H Q ->
  ∃T id,typeLookup (.type T) "__getitem__" = pure (some (.builtin id))/\s.TypeIs v T/\wpAny (model X.prog X.w) X.A (getItem v (.ref sl)) (EP X pins σ Q) X.xe s
def tSl (r:V->Option Int->Option Int->Hp->VK->Prop) (te:TE) (tl th:TO):TE:=fun σ H Q=>te σ H fun x H1=>tl σ H1 fun l H2=>th σ H2 fun u H3=>r x l u H3 Q
theorem fM {r:V->Option Int->Option Int->Hp->VK->Prop} (hr:VF X r) (he:PE X e te) (hl:PO X lo tl) (hu:PO X hi th):PE X (.Subscript e (.Slice lo hi none p2) pos) (tSl r te tl th):=by
 intro pins s σ H Q I h;refine Subscript_ (cT (he pins s σ H _ I h) fun v s1 ⟨x,H1,I1,r1,q1⟩=> ?_);refine wpAny_Slice (cT (hl pins s1 σ H1 _ I1 q1) fun vl s2 ⟨l,H2,I2,pl,q2⟩=>cT (hu pins s2 σ H2 _ I2 q2) fun vu s3 ⟨u,H3,I3,pu,q3⟩=> ?_);rw [evalPart_none];refine wpAny_pure ?_;have I4:Inv X pins σ H3 {s3 with heap:=s3.heap.push {cls:= .type "slice",data:= .fields #[vl,vu,.none]}}:=I3.kept (t':=s3.toks) fun b ob q=>Heap.get?_push_of_some _ q;obtain ⟨T,id,hT,ht,hg⟩:=hr pins {s3 with heap:=s3.heap.push {cls:= .type "slice",data:= .fields #[vl,vu,.none]}} σ H3 x v vl vu l u s3.heap.objs.size Q I4 r1 (Heap.IsSliceOf.new ..) pl pu q3;show wpAny (model X.prog X.w) X.A (subscriptTail e (.Slice lo hi none p2) v (.ref s3.heap.objs.size)) (EP X pins σ Q) X.xe {s3 with heap:=s3.heap.push {cls:= .type "slice",data:= .fields #[vl,vu,.none]}};exact tail_any (ops:=[.ref s3.heap.objs.size,v]) ht hT hg (by with_unfolding_all rfl)
def jA (xs:List V) (lo hi:Option Int):List V:=(xs.drop (HT.gR xs.length 0 lo)).take (HT.gR xs.length xs.length hi - HT.gR xs.length 0 lo)
theorem qy (xs:List V) (lo hi:Option Int):(jA xs lo hi).length<=xs.length:=by
 unfold jA;rw [List.length_take,List.length_drop];omega
def Tq (K:PySem.W.Frag):V->Option Int->Option Int->Hp->VK->Prop:=fun x lo hi H Q=>∃a xs,x = .ref a/\cu K H a xs /\
 ¬(HT.gR xs.length 0 lo=0/\HT.gR xs.length xs.length hi=xs.length) /\ ∀p,H p=none->Q (.ref p) (upd H p (.tup (jA xs lo hi)))
theorem Qf:VF X (Tq X.K):=by
 intro pins s σ H x v vl vu lo hi sl Q I rx hs pl pu h;obtain ⟨a,xs,rfl,hx,hw,q⟩:=h;cases rx;obtain ⟨its,r,ht,hz⟩:=I.tuple hx;have hlen:its.toArray.size=xs.length:=by rw [List.size_toArray];exact r.length.symm
 refine ⟨"tuple",_,PyProof.Rows.slot_tuple_getitem.lookup,ht.typeIs, ?_⟩;refine HT.oV ht hs pl pu (by rw [hlen];exact hw) ?_ (by rw [hlen];exact hz);rw [hlen];refine ⟨.ref s.heap.objs.size,_,I.laid (t':=s.toks) (o:= .tup (jA xs lo hi)) (fun b ob q=>Heap.get?_push_of_some _ q) (Nat.le_refl _) ?_,rfl,q _ (I.hok.fresh (Nat.le_refl _))⟩;exact ⟨Nat.le_trans (qy xs lo hi) hz,_,(r.drop (HT.gR xs.length 0 lo)).take (HT.gR xs.length xs.length hi - HT.gR xs.length 0 lo),IsTup.new _ _⟩
def O6 (K:PySem.W.Frag):R2:=fun x y H Q=>∃a b xs ys,x = .ref a/\y = .ref b/\cu K H a xs/\cu K H b ys/\xs≠[]/\xs.length+ys.length<=sizeLine /\
 (ys=[]->Q (.ref a) H)/\(ys≠[] -> ∀p,H p=none->Q (.ref p) (upd H p (.tup (xs++ys))))
theorem Vals.wO {xs:List V} {us:List Value} (r:Vals xs us):us=[]↔xs=[]:=by
 cases r with
 | nil=>simp
 | cons _ _=>simp
theorem Mt:qG X (binaryOp .Add) (O6 X.K):=by
 intro pins s σ H x y v u Q I rx ry h;obtain ⟨a,b,xs,ys,rfl,rfl,ha,hb,hx,hz,q1,q2⟩:=h;cases rx;cases ry;obtain ⟨its,r1,p1,_⟩:=I.tuple ha;obtain ⟨its2,r2,p2,_⟩:=I.tuple hb;refine HT.Oe p1 p2 (fun z=>hx (r1.wO.mp z)) (fun z=>⟨.ref a,H,I,rfl,q1 (r2.wO.mp z)⟩) (fun z=> ?_) (by rw [←r1.length,←r2.length];exact hz);refine ⟨.ref s.heap.objs.size,_,I.laid (t':=s.toks) (o:= .tup (xs++ys)) (fun b ob q=>Heap.get?_push_of_some _ q) (Nat.le_refl _) ?_,rfl,q2 (fun w=>z (r2.wO.mpr w)) _ (I.hok.fresh (Nat.le_refl _))⟩;exact ⟨by rw [List.length_append];exact hz,_,r1.append r2,IsTup.new _ _⟩
end
end L2
namespace L2
open PySem PySem.Spec PyProof.Rows
def Nk (n:Nat) (i:Int):Option Nat:=if 0<=i then (if i<n then some i.toNat else none) else if -(n:Int)<=i then some (i+n).toNat else none
def vU {α:Type} (xs:List α) (i:Int):Option α:=(Nk xs.length i).bind fun j=>xs[j]?
theorem El {n:Nat} {i:Int} {j:Nat} (h:Nk n i=some j):seqIndex? i n=some j/\j<n /\ -(n:Int)<=i/\i<n:=by
 unfold Nk at h
 by_cases h0:0<=i
 ·rw [if_pos h0] at h
  by_cases h1:i<n
  ·rw [if_pos h1] at h
   have e:i.toNat=j:=Option.some.inj h;exact ⟨by rw [seqIndex_of h0 h1,e],by omega,by omega,h1⟩
  ·rw [if_neg h1] at h;cases h
 ·rw [if_neg h0] at h
  by_cases h1: -(n:Int)<=i
  ·rw [if_pos h1] at h
   have e:(i+n).toNat=j:=Option.some.inj h;exact ⟨by rw [seqIndex_neg (by omega) h1,e],by omega,h1,by omega⟩
  ·rw [if_neg h1] at h;cases h
theorem xO {α:Type} {xs:List α} {i:Int} {v:α} (h:vU xs i=some v):∃j,seqIndex? i xs.length=some j/\xs[j]? = some v/\j<xs.length /\ -(xs.length:Int)<=i/\i<xs.length:=by
 unfold vU at h;cases e:Nk xs.length i with
 | none=>rw [e] at h;cases h
 | some j=>
   rw [e] at h;obtain ⟨h1,h2,h3,h4⟩:=El e;exact ⟨j,h1,h,h2,h3,h4⟩
theorem cP {α:Type} {xs:List α} {j:Nat} {v:α} (h:xs[j]? = some v):vU xs (j:Int)=some v:=by
 have hj:j<xs.length:=(List.getElem?_eq_some_iff.mp h).1
 have e:Nk xs.length (j:Int)=some j:=by
  unfold Nk;rw [if_pos (by omega),if_pos (by omega)];simp
 unfold vU;rw [e];exact h
def Om (b:Expr):Prop:=∀o i,subscripted b false o i=operate [o,i] (getItem o i)
def HY (X:Cx) (r:R2):Prop:=
 ∀(value slice:Expr) (pins:List (Addr×Obj)) (s:Shared) (σ:St) (H:Hp) (x y:V) (v u:Value) (Q:VK),Inv X pins σ H s->RelV x v->RelV y u->r x y H Q ->
  subscripted slice false v u=operate [v,u] (getItem v u)->wpAny (model X.prog X.w) X.A (subscriptTail value slice v u) (EP X pins σ Q) X.xe s
def Yk (X:Cx) (id:String) (r:V->List V->Hp->VK->Prop):Prop:=
 ∀(pins:List (Addr×Obj)) (s:Shared) (σ:St) (H:Hp) (x:V) (xs:List V) (v:Value) (us:List Value) (Q:VK),Inv X pins σ H s->RelV x v->Vals xs us->r x xs H Q ->
  wpAny (model X.prog X.w) X.A (call (.builtin id) (v::us)) (EP X pins σ Q) X.xe s
section
variable {X:Cx} {a b:Expr} {ta tb:TE} {pos:Pos}
theorem HY.or {r r':R2} (h:HY X r) (h':HY X r'):HY X (fun x y H Q=>r x y H Q\/r' x y H Q):=by
 intro value slice pins s σ H x y v u Q I rx ry q hs;rcases q with q|q
 ·exact h value slice pins s σ H x y v u Q I rx ry q hs
 ·exact h' value slice pins s σ H x y v u Q I rx ry q hs
theorem aJ {r:R2} (hr:HY X r) (ha:PE X a ta) (hb:PE X b tb) (hs:Om b):PE X (.Subscript a b pos) (Dt r ta tb):=by
 intro pins s σ H Q I h;exact Subscript_ (RK ha hb I h fun v u s2 x y H2 I2 rx ry q=>hr a b pins s2 σ H2 x y v u Q I2 rx ry q (hs _ _))
def Qo (K:PySem.W.Frag):R2:=fun x y H Q=>∃p xs i v,x = .ref p/\y = .int i/\aW K H p xs/\vU xs i=some v/\Q v H
def wD (K:PySem.W.Frag):R2:=fun x y H Q=>∃p xs i v,x = .ref p/\y = .int i/\cu K H p xs/\vU xs i=some v/\Q v H
def Tv:R2:=fun x y H Q=>∃z i c,x = .str z/\y = .int i/\z.length<=sizeLine/\vU z.cps.toList i=some c/\Q (.str ⟨#[c]⟩) H
theorem Ek:HY X (Qo X.K):=by
 intro value slice pins s σ H x y v u Q I rx ry h hs;obtain ⟨p,xs,i,z,rfl,rfl,hq,he,q⟩:=h;cases rx;obtain ⟨t,rfl⟩:=ry;obtain ⟨its,r,pl,hz⟩:=I.list hq;obtain ⟨j,h1,h2,h3,h4,h5⟩:=xO he;obtain ⟨w,ew,rw'⟩:=r.get h2;have hl:=r.length;have hn:=pX;have fin:EP X pins σ Q w s:=⟨z,H,I,rw',q⟩
 by_cases h0:0<=i
 ·have hj:i.toNat=j:=by
   rw [seqIndex_of h0 h5] at h1;exact Option.some.inj h1
  exact item_listR pl.isList h0 (by omega) (by rw [hj];simpa using ew) fin hs
 ·have hj:(i+(its.toArray.size:Int)).toNat=j:=by
   rw [seqIndex_neg (by omega) h4] at h1;rw [List.size_toArray,←hl];exact Option.some.inj h1
  exact subscriptTail_builtinR (x:=w) pl.isList.typeIs slot_list_getitem.lookup
   (wpAny_getItem_list_neg (Q:=fun r s'=>r=w/\EP X pins σ Q r s') pl.isList (by omega) (by rw [List.size_toArray]<;>omega) (by omega) (by rw [hj];simpa using ew) ⟨rfl,fin⟩) hs
theorem JZ:HY X (wD X.K):=by
 intro value slice pins s σ H x y v u Q I rx ry h hs;obtain ⟨p,xs,i,z,rfl,rfl,hq,he,q⟩:=h;cases rx;obtain ⟨t,rfl⟩:=ry;obtain ⟨its,r,pl,hz⟩:=I.tuple hq;obtain ⟨j,h1,h2,h3,h4,h5⟩:=xO he;obtain ⟨w,ew,rw'⟩:=r.get h2;have hl:=r.length;have hn:=pX;have fin:EP X pins σ Q w s:=⟨z,H,I,rw',q⟩
 exact subscriptTail_builtinR (x:=w) pl.typeIs slot_tuple_getitem.lookup
  (getItem_tuple (j:=j) (Q:=fun r s'=>r=w/\EP X pins σ Q r s') pl (by omega) (by omega) (by rw [List.size_toArray,←hl];exact h1) (by simpa using ew) ⟨rfl,fin⟩) hs
theorem Q8:HY X Tv:=by
 intro value slice pins s σ H x y v u Q I rx ry h hs;obtain ⟨z,i,c,rfl,rfl,hz,he,q⟩:=h;obtain ⟨t,rfl⟩:=rx;obtain ⟨t',rfl⟩:=ry;obtain ⟨j,h1,h2,h3,h4,h5⟩:=xO he;have hl:z.cps.toList.length=z.length:=by simp [Str.length]
 rw [hl] at h1 h4 h5;have hn:=pX
 exact tail_any (typeIs_str s z t) slot_str_getitem.lookup (getItem_str (c:=c) (by
  have e1:decide (i < -(2 ^ 63:Int))=false:=decide_eq_false (by omega);have e2:decide (i≥2 ^ 63)=false:=decide_eq_false (by omega);rw [e1,e2,Bool.or_false]) (by rw [h1];simpa using h2) ⟨.str ⟨#[c]⟩,H,I.tok _,⟨_,rfl⟩,q⟩) hs
def rIx (K:PySem.W.Frag):R2:=fun x y H Q=>Qo K x y H Q\/wD K x y H Q\/Tv x y H Q
theorem Q9:HY X (rIx X.K):=Ek.or (JZ.or Q8)
theorem Cp (its:List Value) (n j:Nat) (u:Value):Obj.mapSeq (·.setIfInBounds j u) {cls:= .type "list",data:= .seq its.toArray n}={cls:= .type "list",data:= .seq (its.set j u).toArray n}:=by
 simp [Obj.mapSeq]
theorem Inv.lst {pins:List (Addr×Obj)} {σ:St} {H:Hp} {s:Shared} {p:Addr} {xs:List V} (I:Inv X pins σ H s) (h:H p=some (.lst xs)):
 ∃(its:List Value) (n:Nat),Vals xs its/\s.heap.get? p=some {cls:= .type "list",data:= .seq its.toArray n}/\xs.length<=sizeLine:=by
 obtain ⟨z,its,n,r,e⟩:=I.hok p _ h;exact ⟨its,n,r,e,z⟩
theorem Inv.QV {pins:List (Addr×Obj)} {σ:St} {H:Hp} {s:Shared} {p:Addr} {xs ys:List V} {its its':List Value} {n n':Nat} {f:Obj->Obj} (I:Inv X pins σ H s) (h:H p=some (.lst xs))
 (ho:s.heap.get? p=some {cls:= .type "list",data:= .seq its.toArray n}) (hf:f {cls:= .type "list",data:= .seq its.toArray n}={cls:= .type "list",data:= .seq its'.toArray n'}) (r:Vals ys its') (hz:ys.length<=sizeLine) (t:Nat):
 Inv X pins σ (upd H p (.lst ys)) {s with heap:=s.heap.update p f,toks:=t}:=by
 have e:(s.heap.update p f).get? p=some {cls:= .type "list",data:= .seq its'.toArray n'}:=by
  rw [Heap.get?_update_self f ho (by rw [hf]<;>rfl),hf]
 refine I.write (x:=p) (e:=p) (by rw [h];trivial) (.inl rfl) (fun b u hb q=>(Heap.get?_update_other _ _ (Ne.symm hb)).trans q) ⟨_,e⟩ ?_;exact ⟨hz,its',n',r,e⟩
def Tt:V->V->V->Hp->(Hp->Prop)->Prop:=fun o i v H Q=>∃p xs k j,o = .ref p/\i = .int k/\H p=some (.lst xs)/\Nk xs.length k=some j/\Q (upd H p (.lst (xs.set j v)))
theorem set_list:V0 X Tt:=by
 intro pins s σ H o i v ov iv u Q I ro ri rv h;obtain ⟨p,xs,k,j,rfl,rfl,hp,hj,q⟩:=h;cases ro;obtain ⟨t,rfl⟩:=ri;obtain ⟨its,n,r,ho,hz⟩:=I.lst hp;obtain ⟨h1,h2,h3,h4⟩:=El hj;have hl:=r.length;have hn:=pX
 have I':Inv X pins σ (upd H p (.lst (xs.set j v))) {s with heap:=s.heap.update p (Obj.mapSeq (·.setIfInBounds j u))}:=
  I.QV hp ho (Cp its n j u) (r.set rv j) (by rw [List.length_set];exact hz) s.toks
 by_cases h0:0<=k
 ·have hk:k.toNat=j:=by
   rw [seqIndex_of h0 h4] at h1;exact Option.some.inj h1
  exact PySem.W.ki_setAt ho h0 (by omega) (by rw [List.size_toArray,←hl];exact h4) (by rw [hk];exact ⟨_,I',q⟩)
 ·have hk:(k+(its.toArray.size:Int)).toNat=j:=by
   rw [seqIndex_neg (by omega) h3] at h1;rw [List.size_toArray,←hl];exact Option.some.inj h1
  exact PySem.W.ki_setBack ho (by omega) (by rw [List.size_toArray,←hl];exact h3) (by omega) (by rw [hk];exact ⟨_,I',q⟩)
theorem wB (lo hi:Option Int) (n:Nat):(sliceBounds lo hi none n).1=((HT.gR n 0 lo:Nat):Int)/\(sliceBounds lo hi none n).2.1=((HT.gR n n hi:Nat):Int)/\(sliceBounds lo hi none n).2.2=1:=by
 refine ⟨?_, ?_,rfl⟩
 ·cases lo with
  | none=>simp [sliceBounds,HT.gR]
  | some i=>
    simp only [sliceBounds,HT.gR,Option.getD_none,show (1:Int)>0 by decide,if_true]
    by_cases h:i<0
    ·simp only [h,if_true]<;>omega
    ·simp only [h,if_false]<;>omega
 ·cases hi with
  | none=>simp [sliceBounds,HT.gR]
  | some i=>
    simp only [sliceBounds,HT.gR,Option.getD_none,show (1:Int)>0 by decide,if_true]
    by_cases h:i<0
    ·simp only [h,if_true]<;>omega
    ·simp only [h,if_false]<;>omega
theorem uP (its:List Value) (lo hi:Option Int):slicePick its.toArray lo hi none=((its.drop (HT.gR its.length 0 lo)).take (HT.gR its.length its.length hi - HT.gR its.length 0 lo)).toArray:=by
 obtain ⟨h1,h2,h3⟩:=wB lo hi its.toArray.size;unfold slicePick;rw [h1,h2,h3];simp only [sliceRange_one,pick_run,List.size_toArray]<;>rfl
def Tr (K:PySem.W.Frag):V->Option Int->Option Int->Hp->VK->Prop:=fun x lo hi H Q=>∃a xs,x = .ref a/\aW K H a xs /\ ∀p,H p=none->Q (.ref p) (upd H p (.lst (jA xs lo hi)))
theorem Lw:VF X (Tr X.K):=by
 intro pins s σ H x v vl vu lo hi sl Q I rx hs pl pu h;obtain ⟨a,xs,rfl,hx,q⟩:=h;cases rx;obtain ⟨its,r,ht,hz⟩:=I.list hx;have hlen:=r.length;refine ⟨"list",_,slot_list_getitem.lookup,ht.isList.typeIs, ?_⟩;refine wpAny_getItem_list_slice ht.isList hs pl pu .none (by simp) ?_ (by rw [List.size_toArray]<;>omega);rw [uP,←hlen];refine ⟨.ref s.heap.objs.size,_,I.laid (t':=s.toks) (o:= .lst (jA xs lo hi)) (fun b ob q=>Heap.get?_push_of_some _ q) (Nat.le_refl _) ?_,rfl,q _ (I.hok.fresh (Nat.le_refl _))⟩;exact ⟨Nat.le_trans (qy xs lo hi) hz,_,0,(r.drop (HT.gR xs.length 0 lo)).take (HT.gR xs.length xs.length hi - HT.gR xs.length 0 lo),Heap.get?_push_size _ rfl⟩
theorem xq:jG X (.builtin "len") (fun xs H Q=>∃p ys,xs=[.ref p]/\(aW X.K H p ys\/cu X.K H p ys)/\Q (.int ys.length) H):=by
 intro pins s σ H xs us Q I r h;obtain ⟨p,ys,rfl,hq,q⟩:=h;obtain ⟨u,rfl,rx⟩:=vals1 r;cases rx;have hn:=pX;rcases hq with hq|hq
 ·obtain ⟨its,r',pl,hz⟩:=I.list hq
  have hlen:=r'.length;exact Calls.call_len_list pl.isList (by simp only [List.size_toArray]<;>omega) ⟨.int ys.length,H,I.tok _,⟨s.toks+1,by rw [List.size_toArray,hlen]⟩,q⟩
 ·obtain ⟨its,r',pl,hz⟩:=I.tuple hq
  have hlen:=r'.length;exact len_tuple pl (by simp only [List.size_toArray]<;>omega) ⟨.int ys.length,H,I.tok _,⟨s.toks+1,by rw [List.size_toArray,hlen]⟩,q⟩
theorem xg:jG X (.type "list") (fun xs H Q=>∃p ys,xs=[.ref p]/\(aW X.K H p ys\/cu X.K H p ys) /\ ∀l,H l=none->Q (.ref l) (upd H l (.lst ys))):=by
 intro pins s σ H xs us Q I r h;obtain ⟨p,ys,rfl,hq,q⟩:=h;obtain ⟨u,rfl,rx⟩:=vals1 r;cases rx
 have fin:∀(its:List Value),Vals ys its->ys.length<=sizeLine -> ∀(h':Heap) (c':Nat),(∀b o',s.heap.get? b=some o'->h'.get? b=some o') ->
  h'.get? s.heap.objs.size=some {cls:= .type "list",dict:=none,data:= .seq its.toArray c',slots:= #[]}->EP X pins σ Q (.ref s.heap.objs.size) {s with heap:=h'}:=fun its r' hz h' c' kp e=>
  ⟨.ref s.heap.objs.size,_,I.laid (t':=s.toks) kp (Nat.le_refl _) (show cD X.prog X.w _ h' _ (.lst ys) from ⟨hz,its,c',r',e⟩),rfl,q _ (I.hok.fresh (Nat.le_refl _))⟩
 rcases hq with hq|hq
 ·obtain ⟨its,r',pl,hz⟩:=I.list hq
  have hlen:=r'.length;obtain ⟨o,ho,hc,n,hd⟩:=pl.isList;exact call_list_seq p (.inl rfl) ho hc hd (fun h' c' kp e=>fin its r' hz h' c' kp e) (by simp only [List.size_toArray]<;>omega)
 ·obtain ⟨its,r',pl,hz⟩:=I.tuple hq
  have hlen:=r'.length;obtain ⟨o,ho,hc,n,hd⟩:=pl;exact call_list_seq p (.inr rfl) ho hc hd (fun h' c' kp e=>fin its r' hz h' c' kp e) (by simp only [List.size_toArray]<;>omega)
def tyV (K:PySem.W.Frag) (T:String) (x:V) (H:Hp):Prop:=match x with
 | .str _=>T = "str"
 | .int _=>T = "int"
 | .ref p=>(T = "list" /\ ∃xs,aW K H p xs)\/(T = "tuple" /\ ∃o,K.lookup p=some o/\o.cls = .type "tuple" /\ o.dict=none) \/
    (T = "dict" /\ ((∃kvs,H p=some (.dK kvs)) \/ ∃kvs,H p=some (.dT kvs)))\/(T = "set" /\ ∃S n,H p=some (.set S n))
 | _=>False
theorem Px {pins:List (Addr×Obj)} {σ:St} {H:Hp} {s:Shared} {T:String} {x:V} {v:Value} (I:Inv X pins σ H s) (r:RelV x v) (ty:tyV X.K T x H):
 s.TypeIs v T /\ ∀a,v = .ref a -> ∃ob,s.heap.get? a=some ob/\ob.dict=none:=by
 cases x with
 | str z=>
   obtain ⟨t,rfl⟩:=r;cases (show T = "str" from ty);exact ⟨typeIs_str s z t,fun _ e=>nomatch e⟩
 | int i=>
   obtain ⟨t,rfl⟩:=r;cases (show T = "int" from ty);exact ⟨typeIs_int s i t,fun _ e=>nomatch e⟩
 | ref p=>
   cases r;rcases ty with ⟨rfl,xs,hq⟩|⟨rfl,o,hk,hc,hd⟩|⟨rfl,hk⟩|⟨rfl,S,n,hk⟩
   ·obtain ⟨its,_,pl,_⟩:=I.list hq
    refine ⟨pl.isList.typeIs,fun a e=> ?_⟩;cases e;obtain ⟨o,n,e,c,hd,_⟩:=pl;exact ⟨o,e,hd⟩
   ·refine ⟨⟨o,I.vH p o hk,hc⟩,fun a e=> ?_⟩
    cases e;exact ⟨o,I.vH _ o hk,hd⟩
   ·have z:∃o,s.heap.get? p=some o/\o.ExactDict:=by
     rcases hk with ⟨kvs,hk⟩|⟨kvs,hk⟩
     ·obtain ⟨_,_,_,_,o,_,_,e,ex,_⟩:=I.hok p _ hk
      exact ⟨o,e,ex⟩
     ·obtain ⟨_,_,_,_,o,_,_,e,ex,_⟩:=I.hok p _ hk
      exact ⟨o,e,ex⟩
    obtain ⟨o,e,ex⟩:=z;refine ⟨⟨o,e,ex.1⟩,fun a e2=> ?_⟩;cases e2;exact ⟨o,e,ex.2.1⟩
   ·obtain ⟨o,_,_,_,e,ex,_⟩:=I.hok p _ hk
    refine ⟨⟨o,e,ex.1⟩,fun a e2=> ?_⟩;cases e2;exact ⟨o,e,ex.2.1⟩
 | _=>exact False.elim ty
def Yz (K:PySem.W.Frag) (T:String) (r:V->List V->Hp->VK->Prop) (to:TE) (t:TA):TE:=fun σ H Q=>to σ H fun x H1=>tyV K T x H1/\t σ H1 fun xs H2=>r x xs H2 Q
variable {o e:Expr} {es:List Expr} {to:TE} {t:TA} {name:Str} {apos cpos:Pos} {T id:String} {r:V->List V->Hp->VK->Prop}
theorem O7 (pa:PlainAttrs T) (slot:Slot T name id) (hty:typeOf (.builtin id)=pure (.type "method_descriptor")) (hm:Yk X id r) (ho:PE X o to) (ha:PA X (e::es) t)
 (hbase:attributeBase o name X.env (eval o X.env)=eval o X.env:=by rfl)
 (hfew:((backTo cpos (starEach (e::es) X.env)).all (fun x=> !x.1)&&(backToKw cpos (keywordEach [] X.env)).all (fun x=>x.1.isSome)
   && decide ((e::es).length+([]:List Keyword).length+(if ([]:List Keyword).isEmpty then 0 else 1)<30))=true:=by rfl)
 (hline:(apos.endLine==cpos.line)=true:=by rfl) (hs:starEach (e::es) X.env=(false,eval e X.env)::starEach es X.env:=by rfl) (hplain:(backTo cpos (starEach es X.env)).any (·.1)=false:=by rfl):
 PE X (.Call (.Attribute o name apos) (e::es) [] cpos) (Yz X.K T r to t):=by
 intro pins s σ H Q I h;refine wpAny_Call_method_late hbase hfew hline rfl (cT (ho pins s σ H _ I h) fun v s1 ⟨x,H1,I1,r1,ty,q1⟩=> ?_);obtain ⟨h1,h2⟩:=Px I1 r1 ty;refine ⟨T,id,pa,slot,hty,h1,h2, ?_⟩;have hA:=ha cpos pins s1 σ H1 _ I1 q1;rw [hs] at hA ⊢;refine Calls.callWith_builtin (by show (false||(backTo cpos (starEach es X.env)).any (·.1))=false;rw [hplain]<;>rfl) (Calls.evalArgs_plain ?_);exact cT hA fun us s2 ⟨vs,H2,I2,r2,q2⟩=>hm pins s2 σ H2 x vs v us Q I2 r1 r2 q2
end
end L2
namespace L2
open PySem PySem.Spec PyProof.Rows
def MtM (X:Cx) (id:String) (r:V->List V->Hp->VK->Prop):Prop:=
 ∀(pins:List (Addr×Obj)) (s:Shared) (σ:St) (H:Hp) (x:V) (xs:List V) (v:Value) (us:List Value) (Q:VK),Inv X pins σ H s->RelV x v->Vals xs us->r x xs H Q ->
  wpAny (model X.prog X.w) X.A (call (.builtin id) (v::us)) (EP X pins σ Q) X.xe s
theorem Vals.one {x:V} {us:List Value} (h:Vals [x] us):∃u,us=[u]/\RelV x u:=by
 cases h with
 | cons r t=>cases t;exact ⟨_,rfl,r⟩
theorem Vals.rep {xs:List V} {us:List Value} (h:Vals xs us):∀k:Nat,Vals (List.replicate k xs).flatten (List.replicate k us).flatten
 | 0=> .nil
 | k+1=>by
   rw [List.replicate_succ,List.replicate_succ,List.flatten_cons,List.flatten_cons];exact Vals.append h (Vals.rep h k)
theorem foldl_rep (its:List Value):∀(k:Nat) (acc:List Value),
 List.foldl (fun x1 x2=>x1++x2) acc.toArray (List.replicate k its.toArray)=(acc++(List.replicate k its).flatten).toArray
 | 0,acc=>by simp
 | k+1,acc=>by
   have e:acc.toArray++its.toArray=(acc++its).toArray:=by simp
   have e2:(acc++its)++(List.replicate k its).flatten=acc++(List.replicate (k+1) its).flatten:=by
    rw [List.replicate_succ,List.flatten_cons,List.append_assoc]
   rw [←e2,←foldl_rep its k (acc++its),←e,List.replicate_succ,List.foldl_cons]
section
variable {X:Cx} {pins:List (Addr×Obj)} {σ:St} {H:Hp} {s:Shared} {l b:Addr} {xs ys zs:List V}
theorem Inv.T_ {its its':List Value} {n:Nat} {f:Array Value->Array Value} {t':Nat} (I:Inv X pins σ H s) (hH:H l=some (.lst xs))
 (e:s.heap.get? l=some {cls:= .type "list",data:= .seq its.toArray n}) (hf:f its.toArray=its'.toArray) (hv:Vals ys its') (hz:ys.length<=sizeLine):
 Inv X pins σ (upd H l (.lst ys)) {s with heap:=s.heap.update l (Obj.mapSeq f),toks:=t'}:=by
 have q:=PySem.IsL.update e f;rw [hf] at q;refine I.write (x:=l) (e:=l) (by rw [hH];exact trivial) (.inl rfl) (fun b' u hb hu=>(Heap.get?_update_other s.heap (Obj.mapSeq f) (Ne.symm hb)).trans hu) ⟨_,q⟩ ?_;exact ⟨hz,its',_,hv,q⟩
theorem Inv.Ua {its:List Value} {t':Nat} (I:Inv X pins σ H s) (hv:Vals ys its) (hz:ys.length<=sizeLine):
 Inv X pins σ (upd H s.heap.objs.size (.lst ys)) {s with heap:=s.heap.push {cls:= .type "list",data:= .seq its.toArray},toks:=t'}:=
 I.laid (fun _ _ q=>Heap.get?_push_of_some _ q) (Nat.le_refl _) ⟨hz,its,0,hv,Heap.get?_push_size _ rfl⟩
theorem Inv.fresh (I:Inv X pins σ H s):H s.heap.objs.size=none:=I.hok.fresh (Nat.le_refl _)
theorem Inv.Gu (I:Inv X pins σ H s) (hH:H l=some (.lst xs)):xs.length<=sizeLine /\ ∃(its:List Value) (n:Nat),Vals xs its/\xs.length=its.length/\s.heap.get? l=some {cls:= .type "list",data:= .seq its.toArray n}:=by
 obtain ⟨z,its,n,r,e⟩:=I.hok l _ hH;exact ⟨z,its,n,r,r.length,e⟩
theorem yW {n:Nat} (h:n<=sizeLine):Builtin.List.listTooLong n=false:=by
 unfold Builtin.List.listTooLong;exact decide_eq_false (by omega)
end
section
variable {X:Cx}
def DP:V->List V->Hp->VK->Prop:=fun x vs H Q=>∃l xs y,x = .ref l/\vs=[y]/\H l=some (.lst xs)/\xs.length<sizeLine/\Q .non (upd H l (.lst (xs++[y])))
theorem pU:MtM X "list.append" DP:=by
 intro pins s σ H x vs v us Q I rx rv h;obtain ⟨l,xs,y,rfl,rfl,hH,hz,q⟩:=h;cases rx;obtain ⟨u,rfl,ru⟩:=rv.one;obtain ⟨z,its,n,r,hl,e⟩:=I.Gu hH;refine call_meets F.slot_list_append ⟨_,e,rfl⟩ F.entry_list_append (F.args_list_append_2 _ _) (PySem.list_append l its.toArray n u (by rw [List.size_toArray];omega)) ⟨e, ?_⟩;refine ⟨.non,_,I.T_ (its':=its++[u]) hH e (by simp) (r.append (.cons ru .nil)) ?_,rfl,q⟩;rw [List.length_append,List.length_singleton];omega
def LK:V->List V->Hp->VK->Prop:=fun x vs H Q=>∃l b xs zs,x = .ref l/\vs=[.ref b]/\H l=some (.lst xs)/\H b=some (.lst zs)/\xs.length+zs.length<=sizeLine/\Q .non (upd H l (.lst (xs++zs)))
theorem Gp:MtM X "list.extend" LK:=by
 intro pins s σ H x vs v us Q I rx rv h;obtain ⟨l,b,xs,zs,rfl,rfl,hH,hB,hz,q⟩:=h;cases rx;obtain ⟨u,rfl,ru⟩:=rv.one;cases ru;obtain ⟨z,its,n,r,hl,e⟩:=I.Gu hH;obtain ⟨z2,its2,n2,r2,hl2,e2⟩:=I.Gu hB;have hsz:its.toArray.size+its2.toArray.size<=sizeLine:=by rw [List.size_toArray,List.size_toArray];omega
 have J1:¬(!its.toArray.isEmpty&&Builtin.List.listTooLong (its.toArray.size+its2.toArray.size))=true:=by
  rw [yW hsz,Bool.and_false];exact Bool.false_ne_true
 refine call_meets F.slot_list_extend ⟨_,e,rfl⟩ F.entry_list_extend (F.args_list_extend_2 _ _)
  (AutoSeq1.list_extend_list_list_0 l its.toArray n b its2.toArray n2 J1 (by rw [List.size_toArray];omega) (by omega)) ⟨e,e2, ?_⟩
 refine ⟨.non,_,I.T_ (its':=its++its2) hH e (by simp) (r.append r2) ?_,rfl,q⟩;rw [List.length_append];omega
def Zu:R2:=fun x y H Q=>∃l b xs zs,x = .ref l/\y = .ref b/\H l=some (.lst xs)/\H b=some (.lst zs)/\xs.length+zs.length<=sizeLine /\ ∀p,H p=none->Q (.ref p) (upd H p (.lst (xs++zs)))
theorem BJ:qG X (binaryOp .Add) Zu:=by
 intro pins s σ H x y v u Q I rx ry h;obtain ⟨l,b,xs,zs,rfl,rfl,hH,hB,hz,q⟩:=h;cases rx;cases ry;obtain ⟨z,its,n,r,hl,e⟩:=I.Gu hH;obtain ⟨z2,its2,n2,r2,hl2,e2⟩:=I.Gu hB;refine PySem.P.add_list e e2 ?_ (by rw [List.size_toArray,List.size_toArray];omega);have ea:its.toArray++its2.toArray=(its++its2).toArray:=by simp
 rw [ea];exact ⟨.ref _,_,I.Ua (t':=s.toks) (r.append r2) (by rw [List.length_append];omega),rfl,q _ I.fresh⟩
def Zq:R2:=fun x y H Q=>∃l k xs,x = .ref l/\y = .int k/\H l=some (.lst xs) /\ -(2 ^ 63)<=k/\k<2 ^ 63/\xs.length*k.toNat<=sizeLine /\
 ∀p,H p=none->Q (.ref p) (upd H p (.lst (List.replicate k.toNat xs).flatten))
theorem len_rep {α:Type} (xs:List α) (k:Nat):(List.replicate k xs).flatten.length=k*xs.length:=by
 induction k with
 | zero=>simp
 | succ k ih=>rw [List.replicate_succ,List.flatten_cons,List.length_append,ih,Nat.succ_mul,Nat.add_comm]
theorem wK:qG X (binaryOp .Mult) Zq:=by
 intro pins s σ H x y v u Q I rx ry h;obtain ⟨l,k,xs,rfl,rfl,hH,h1,h2,hz,q⟩:=h;cases rx;obtain ⟨t,rfl⟩:=ry;obtain ⟨z,its,n,r,hl,e⟩:=I.Gu hH;have hlen:its.toArray.size*k.toNat<=sizeLine:=by rw [List.size_toArray,←hl];exact hz
 have hcap:¬its.toArray.size*k.toNat>(2 ^ 63 - 1) / 8:=by
  have:(sizeLine:Nat)<=(2 ^ 63 - 1) / 8:=by decide
  omega
 have hfit:¬(!Builtin.List.listFitsIndex k)=true:=by
  rw [fitsIndex_both h1 h2];exact Bool.false_ne_true
 have J1:¬Builtin.List.listTooLong (its.toArray.size*k.toNat)=true:=by
  rw [yW hlen];exact Bool.false_ne_true
 have hnew:List.foldl (fun x1 x2=>x1++x2) #[] (List.replicate (if its.toArray.isEmpty=true then 0 else k.toNat) its.toArray)=(List.replicate k.toNat its).flatten.toArray:=by
  have f0:∀m:Nat,List.foldl (fun x1 x2=>x1++x2) #[] (List.replicate m its.toArray)=(List.replicate m its).flatten.toArray:=fun m=>by
   have:=foldl_rep its m [];rw [List.nil_append] at this;exact this
  rw [f0];cases its with
  | nil=>simp
  | cons a r'=>rw [if_neg (by simp)]
 refine wpAny_binaryOp_repeat_ref (T:= "list") (U:= "int") (by decide) ⟨_,e,rfl⟩ (fun s'=>typeIs_int s' k t) noFill_list_mul F.fills_int_mul F.slot_int_rmul repeat_list F.slot_int_index.lookup
  (call_meets F.slot_int_rmul (typeIs_int s k t) F.entry_int_rmul (F.args_int_rmul_2 _ _) (int___rmul___int_list k t l its.toArray n)
    ⟨e,rfl,⟨_,e,rfl⟩,call_meets F.slot_list_mul ⟨_,e,rfl⟩ F.entry_list_mul (F.args_list_mul_2 _ _) (AutoListH.list___mul___list_int_3 l its.toArray n k t hfit hcap J1) ⟨e, ?_⟩⟩)
 rw [hnew];exact ⟨.ref _,_,I.Ua (t':=s.toks) (r.rep k.toNat) (by rw [len_rep,Nat.mul_comm];exact hz),rfl,q _ I.fresh⟩
end
section
variable {prog:Program} {w:World} {A:Around} {E:Value->Shared->Prop} {s:Shared}
end
section
variable {X:Cx}
end
end L2
namespace L2
open PySem PySem.Spec PyProof.Rows
section
variable {κ:Type} [DecidableEq κ]
def gW (kvs:List (κ×V)) (k:κ):Option V:=(kvs.find? fun kv=>decide (kv.1=k)).map (·.2)
def putK (kvs:List (κ×V)) (k:κ) (v:V):List (κ×V):=
 if (kvs.any fun kv=>decide (kv.1=k))=true then kvs.map (fun kv=>if kv.1=k then (kv.1,v) else kv) else kvs++[(k,v)]
theorem dY {p:κ×V} {r:List (κ×V)} {k:κ} (e:p.1=k):gW (p::r) k=some p.2:=by simp [gW,List.find?_cons,e]
theorem dZ {p:κ×V} {r:List (κ×V)} {k:κ} (e:¬p.1=k):gW (p::r) k=gW r k:=by simp [gW,List.find?_cons,e]
theorem lH (k:κ):∀kvs:List (κ×V),(kvs.any fun kv=>decide (kv.1=k))=(gW kvs k).isSome
 | []=>rfl
 | p::r=>by
   rw [List.any_cons]
   by_cases e:p.1=k
   ·simp only [dY e,decide_eq_true e,Bool.true_or,Option.isSome_some]
   ·rw [dZ e,decide_eq_false e,Bool.false_or];exact lH k r
theorem yq (k j:κ) (y:V):∀kvs:List (κ×V),gW (kvs.map fun kv=>if kv.1=k then (kv.1,y) else kv) j=(gW kvs j).map fun x=>if j=k then y else x
 | []=>rfl
 | p::r=>by
   have ih:=yq k j y r;rw [List.map_cons]
   by_cases h:p.1=k
   ·rw [if_pos h]
    by_cases e:p.1=j
    ·rw [dY (p:=(p.1,y)) e,dY e,Option.map_some,if_pos (e.symm.trans h)]
    ·rw [dZ (p:=(p.1,y)) e,dZ e,ih]
   ·rw [if_neg h]
    by_cases e:p.1=j
    ·rw [dY (p:=p) e,dY e,Option.map_some,if_neg (fun z=>h (e.trans z))]
    ·rw [dZ (p:=p) e,dZ e,ih]
theorem vo (k j:κ) (y:V):∀kvs:List (κ×V),gW kvs k=none->gW (kvs++[(k,y)]) j=if j=k then some y else gW kvs j
 | [],_=>by
   by_cases e:k=j
   ·rw [if_pos e.symm];exact dY (p:=(k,y)) e
   ·rw [if_neg (fun z=>e z.symm)];exact dZ (p:=(k,y)) e
 | p::r,hn=>by
   rw [List.cons_append];have hk:¬p.1=k:=fun z=>by rw [dY z] at hn;cases hn
   rw [dZ hk] at hn;have ih:=vo k j y r hn
   by_cases e:p.1=j
   ·rw [dY e,dY e,if_neg (fun z=>hk (e.trans z))]
   ·rw [dZ e,dZ e,ih]
theorem rN (kvs:List (κ×V)) (k j:κ) (y:V):gW (putK kvs k y) j=if j=k then some y else gW kvs j:=by
 unfold putK
 by_cases a:(kvs.any fun kv=>decide (kv.1=k))=true
 ·rw [if_pos a,yq]
  rw [lH] at a
  by_cases e:j=k
  ·obtain ⟨x,hx⟩:=Option.isSome_iff_exists.mp a
   rw [if_pos e,e,hx,Option.map_some,if_pos rfl]
  ·rw [if_neg e]
   cases gW kvs j with
   | none=>rfl
   | some x=>rw [Option.map_some,if_neg e]
 ·rw [if_neg a]
  refine vo k j y kvs ?_;rw [lH] at a;cases q:gW kvs k with
  | none=>rfl
  | some x=>rw [q] at a;exact (a rfl).elim
theorem iH (kvs:List (κ×V)) (k:κ) (v:V):(putK kvs k v).length<=kvs.length+1:=by
 unfold putK;split
 ·rw [List.length_map];omega
 ·rw [List.length_append,List.length_cons,List.length_nil];omega
theorem qd.GD {o:Option V} {u:Option Value} (r:qd o u):o.isSome=u.isSome:=by
 cases o with
 | none=>cases u with
   | none=>rfl
   | some _=>exact (show False from r).elim
 | some _=>cases u with
   | none=>exact (show False from r).elim
   | some _=>rfl
theorem qd.getD {o:Option V} {u:Option Value} {d:V} {d':Value} (r:qd o u) (rd:RelV d d'):RelV (o.getD d) (u.getD d'):=by
 cases o with
 | none=>cases u with
   | none=>exact rd
   | some _=>exact (show False from r).elim
 | some _=>cases u with
   | none=>exact (show False from r).elim
   | some _=>exact r
theorem KV.val {kvs:List (κ×V)} {vs:List (κ×Value)} (r:KV kvs vs) (k:κ):qd (gW kvs k) (valueAt vs k):=by
 unfold KV at r
 induction r with
 | nil=>exact True.intro
 | @cons p q ps qs h t ih=>
   obtain ⟨h1,h2⟩:=h
   by_cases e:p.1=k
   ·have e':q.1=k:=h1.symm.trans e
    have b:valueAt (q::qs) k=some q.2:=by simp [valueAt,List.find?_cons,e']
    rw [dY e,b];exact h2
   ·have e':¬q.1=k:=fun z=>e (h1.trans z)
    have b:valueAt (q::qs) k=valueAt qs k:=by simp [valueAt,List.find?_cons,e']
    rw [dZ e,b];exact ih
theorem KV.any {kvs:List (κ×V)} {vs:List (κ×Value)} (r:KV kvs vs) (k:κ):(kvs.any fun kv=>decide (kv.1=k))=vs.any fun kv=>decide (kv.1=k):=by
 unfold KV at r
 induction r with
 | nil=>rfl
 | cons h t ih=>rw [List.any_cons,List.any_cons,ih,h.1]
theorem KV.repl {kvs:List (κ×V)} {vs:List (κ×Value)} (r:KV kvs vs) (k:κ) {y:V} {u:Value} (ry:RelV y u):
 KV (kvs.map fun kv=>if kv.1=k then (kv.1,y) else kv) (vs.map fun kv=>if kv.1=k then (kv.1,u) else kv):=by
 unfold KV at r ⊢
 induction r with
 | nil=>exact .nil
 | @cons p q ps qs h t ih=>
   rw [List.map_cons,List.map_cons];refine .cons ?_ ih;obtain ⟨h1,h2⟩:=h
   by_cases e:p.1=k
   ·rw [if_pos e,if_pos (h1.symm.trans e)];exact ⟨h1,ry⟩
   ·rw [if_neg e,if_neg (fun z=>e (h1.trans z))];exact ⟨h1,h2⟩
theorem KV.put {kvs:List (κ×V)} {vs:List (κ×Value)} (r:KV kvs vs) (k:κ) {y:V} {u:Value} (ry:RelV y u):KV (putK kvs k y) (stored vs k u):=by
 unfold putK stored;rw [r.any k]
 by_cases e:(vs.any fun kv=>decide (kv.1=k))=true
 ·rw [if_pos e,if_pos e];exact r.repl k ry
 ·rw [if_neg e,if_neg e];exact Paired.snoc r ⟨rfl,ry⟩
theorem KV.length {kvs:List (κ×V)} {vs:List (κ×Value)} (r:KV kvs vs):kvs.length=vs.length:=Paired.length r
end
theorem zE {P:Program} {w:World} {k:Key} {u:Value} (r:RelV (kV k) u):(bY P w).is k u=true:=by
 cases k with
 | inl i=>obtain ⟨t,e⟩:=(show ∃t,u=Value.int i t from r);subst e;exact zj P w i t
 | inr x=>obtain ⟨t,e⟩:=(show ∃t,u=Value.str x t from r);subst e;exact zf P w x t
theorem vI {P:Program} {w:World}:∀{ks:List Key} {us:List Value},Vals (ks.map kV) us->ItemsAre (bY P w) ks us
 | [],_,r=>by rw [List.map_nil] at r;cases r;exact .nil
 | k::ks,_,r=>by
   rw [List.map_cons] at r;cases r with
   | cons h t=>exact .cons (zE h) (vI t)
abbrev KT (H:Hp):List (List Key×V)->List (List Key×Addr×Value)->Prop:=Paired fun p q=>p.1=q.1/\H q.2.1=some (.tup (p.1.map kV))/\RelV p.2 q.2.2
theorem KT.val {H:Hp} {kvs:List (List Key×V)} {xs:List (List Key×Addr×Value)} (r:KT H kvs xs) (k:List Key):qd (gW kvs k) ((atKey xs k).map (·.2)):=by
 induction r with
 | nil=>exact True.intro
 | @cons p q ps qs h t ih=>
   obtain ⟨h1,_,h2⟩:=h
   by_cases e:p.1=k
   ·have e':q.1=k:=h1.symm.trans e
    have b:atKey (q::qs) k=some q.2:=by simp [atKey,List.find?_cons,e']
    rw [dY e,b];exact h2
   ·have e':¬q.1=k:=fun z=>e (h1.trans z)
    have b:atKey (q::qs) k=atKey qs k:=by simp [atKey,List.find?_cons,e']
    rw [dZ e,b];exact ih
theorem KT.repl {H:Hp} {kvs:List (List Key×V)} {xs:List (List Key×Addr×Value)} (r:KT H kvs xs) (k:List Key) {y:V} {u:Value} (ry:RelV y u):
 KT H (kvs.map fun kv=>if kv.1=k then (kv.1,y) else kv) (xs.map (putAt k u)):=by
 induction r with
 | nil=>exact .nil
 | @cons p q ps qs h t ih=>
   rw [List.map_cons,List.map_cons];refine .cons ?_ ih;obtain ⟨h1,h2,h3⟩:=h;unfold putAt
   by_cases e:p.1=k
   ·rw [if_pos e,if_pos (h1.symm.trans e)];exact ⟨h1,h2,ry⟩
   ·rw [if_neg e,if_neg (fun z=>e (h1.trans z))];exact ⟨h1,h2,h3⟩
theorem KT.put {H:Hp} {kvs:List (List Key×V)} {xs:List (List Key×Addr×Value)} (r:KT H kvs xs) (k:List Key) {b:Addr} {y:V} {u:Value} (hb:H b=some (.tup (k.map kV))) (ry:RelV y u):
 KT H (putK kvs k y) (storedH xs k b u):=by
 have e:(kvs.any fun kv=>decide (kv.1=k))=(atKey xs k).isSome:=by
  rw [lH,(r.val k).GD,Option.isSome_map]
 unfold putK storedH;rw [e]
 by_cases q:(atKey xs k).isSome=true
 ·rw [if_pos q,if_pos q];exact r.repl k ry
 ·rw [if_neg q,if_neg q];exact Paired.snoc r ⟨rfl,hb,ry⟩
theorem KT.keeps {H H':Hp} {kvs:List (List Key×V)} {xs:List (List Key×Addr×Value)} (r:KT H kvs xs) (ht:∀b ys,H b=some (.tup ys)->H' b=some (.tup ys)):KT H' kvs xs:=
 Paired.T9 r fun _ _ z=>⟨z.1,ht _ _ z.2.1,z.2.2⟩
section
variable {P:Program} {w:World} {H:Hp} {h:Heap} {a:Addr}
theorem O5 {u:HO} (ok:n6 P w H h) (e:Rd H a u):cD P w H h a u:=e.ok ok
theorem zT {kvs:List (Key×V)} (ok:n6 P w H h) (e:Rd H a (.dK kvs)):kvs.length<=sizeLine/\(a==sysModules)=false /\ ∃vs,KV kvs vs/\h.DictOf (bY P w) a vs:=
 show cD P w H h a (.dK kvs) from O5 ok e
theorem Ke {kvs:List (Key×V)} (ok:n6 P w H h) (e:H a=some (.dK kvs)):kvs.length<=sizeLine/\(a==sysModules)=false /\ ∃vs,KV kvs vs/\h.DictOf (bY P w) a vs:=zT ok (.inl e)
theorem wU {ks:List Key} (ok:n6 P w H h) (e:H a=some (.tup (ks.map kV))):(tupleKind (bY P w)).is h ks a:=by
 obtain ⟨_,its,r,o,h1,h2,n,h3⟩:=(show cD P w H h a (.tup (ks.map kV)) from ok a _ e);exact ⟨o,its.toArray,n,h1,h2,h3,by simpa using vI r⟩
theorem zQ {kvs:List (List Key×V)} (ok:n6 P w H h) (e:Rd H a (.dT kvs)):kvs.length<=sizeLine/\(a==sysModules)=false /\
 ∃xs,KT H kvs xs/\h.DictOfH (tupleKind (bY P w)) a xs:=by
 obtain ⟨z,y,xs,r,o,es,ep,h1,h2,h3,h4,h5⟩:=(show cD P w H h a (.dT kvs) from O5 ok e);refine ⟨z,y,xs,r,o,es,ep,h1,h2,h3,h4,fun x hx=> ?_,h5⟩
 have all:∀{l:List (List Key×V)} {m:List (List Key×Addr×Value)},KT H l m -> ∀x∈m,(tupleKind (bY P w)).is h x.1 x.2.1:=by
  intro l m q
  induction q with
  | nil=>intro x hx;exact nomatch hx
  | @cons p q ps qs hq t ih=>
    intro x hx;rcases List.mem_cons.mp hx with e|hx
    ·subst e
     exact wU ok (by rw [←hq.1];exact hq.2.1)
    ·exact ih x hx
 exact all r x hx
theorem U8 {kvs:List (List Key×V)} (ok:n6 P w H h) (e:H a=some (.dT kvs)):kvs.length<=sizeLine/\(a==sysModules)=false /\
 ∃xs,KT H kvs xs/\h.DictOfH (tupleKind (bY P w)) a xs:=zQ ok (.inl e)
end
def nZ (H:Hp) (a:Addr) (y:V) (r:Option V):Prop:=
 (∃kvs k,Rd H a (.dK kvs)/\y=kV k/\r=gW kvs k) \/ ∃kvs k b,Rd H a (.dT kvs)/\y = .ref b/\H b=some (.tup (k.map kV))/\r=gW kvs k
def xV (H:Hp) (a:Addr) (y v:V) (H':Hp):Prop:=
 (∃kvs k,H a=some (.dK kvs)/\y=kV k/\kvs.length<sizeLine/\H'=upd H a (.dK (putK kvs k v))) \/
 ∃kvs k b,H a=some (.dT kvs)/\y = .ref b/\H b=some (.tup (k.map kV))/\kvs.length<sizeLine/\H'=upd H a (.dT (putK kvs k v))
theorem nZ.k {H:Hp} {a:Addr} {kvs:List (Key×V)} {k:Key} (e:H a=some (.dK kvs)):nZ H a (kV k) (gW kvs k):= .inl ⟨kvs,k,.inl e,rfl,rfl⟩
theorem nZ.t {H:Hp} {a b:Addr} {kvs:List (List Key×V)} {k:List Key} (e:H a=some (.dT kvs)) (eb:H b=some (.tup (k.map kV))):nZ H a (.ref b) (gW kvs k):= .inr ⟨kvs,k,b,.inl e,rfl,eb,rfl⟩
theorem xV.k {H:Hp} {a:Addr} {kvs:List (Key×V)} {k:Key} {v:V} (e:H a=some (.dK kvs)) (hl:kvs.length<sizeLine):xV H a (kV k) v (upd H a (.dK (putK kvs k v))):= .inl ⟨kvs,k,e,rfl,hl,rfl⟩
theorem xV.t {H:Hp} {a b:Addr} {kvs:List (List Key×V)} {k:List Key} {v:V} (e:H a=some (.dT kvs)) (eb:H b=some (.tup (k.map kV))) (hl:kvs.length<sizeLine):
 xV H a (.ref b) v (upd H a (.dT (putK kvs k v))):= .inr ⟨kvs,k,b,e,rfl,eb,hl,rfl⟩
section
variable {X:Cx} {pins:List (Addr×Obj)} {σ:St} {H:Hp} {s:Shared} {a:Addr} {y v:V} {u r:Value} {o:Option V} {A:Around} {E:Value->Shared->Prop}
theorem Inv.big (I:Inv X pins σ H s):sysModules<s.heap.objs.size:=by
 have h:mainGlobals<s.heap.objs.size:=(I.mod.glob.keeps I.bk).lt;exact Nat.lt_trans (by decide) h
theorem G3 {Q:Value->Shared->Prop} (hu:A.units+1<cLine) (I:Inv X pins σ H s) (g:nZ H a y (some v)) (ry:RelV y u) (h:∀w' s',Inv X pins σ H s'->RelV v w'->Q w' s'):
 wpAny (model X.prog X.w) A (getItem (.ref a) u) Q E s:=by
 rcases g with ⟨kvs,k,e,ey,l⟩|⟨kvs,k,b,e,ey,eb,l⟩
 ·subst ey
  obtain ⟨z,hd,vs,rel,dd⟩:=zT I.hok e;obtain ⟨w',hw,rw'⟩:=qd.some_of (v:=v) (o:=valueAt vs k) (by rw [l];exact rel.val k);exact wpAny_getItem_of (zE ry) dd.mapOf hw (h w' _ (I.tok _) rw')
 ·subst ey
  cases (show u=Value.ref b from ry);obtain ⟨z,hd,xs,rel,dd⟩:=zQ I.hok e;obtain ⟨w',hw,rw'⟩:=qd.some_of (v:=v) (o:=(atKey xs k).map (·.2)) (by rw [l];exact rel.val k);obtain ⟨p,hp,hp2⟩:=Option.map_eq_some_iff.mp hw;refine wpAny_getItem_heap (tupleKind_room_in1 hu) (wU I.hok eb) dd hp ?_;rw [hp2];exact h w' _ (I.tok _) rw'
theorem w6 {h':Heap} {t':Nat} {ob:HO} (I:Inv X pins σ H s) (mu:V3 (H a)) (hs:Heap.SameBut a s.heap h') (he:∃q,h'.get? a=some q) (new:cD X.prog X.w (upd H a ob) h' a ob):
 Inv X pins σ (upd H a ob) {s with heap:=h',toks:=t'}:=
 I.write (x:=a) (e:=a) mu (.inl rfl) (fun b q hb z=>(hs.2 b hb).trans z) he new
theorem Kf {P:Program} {w:World} {H':Hp} {h':Heap} {kvs:List (Key×V)} {vs:List (Key×Value)} (z:kvs.length<=sizeLine) (hd:(a==sysModules)=false) (rel:KV kvs vs) (dd:h'.DictOf (bY P w) a vs):
 cD P w H' h' a (.dK kvs):=⟨z,hd,vs,rel,dd⟩
theorem GZ {H':Hp} {Q:Unit->Shared->Prop} (hu:A.units+1<cLine) (I:Inv X pins σ H s) (g:xV H a y v H') (ry:RelV y u) (rv:RelV v r) (h:∀s',Inv X pins σ H' s'->Q () s'):
 wpAny (model X.prog X.w) A (setItem (.ref a) u r) Q E s:=by
 rcases g with ⟨kvs,k,e,ey,l,eH⟩|⟨kvs,k,b,e,ey,eb,l,eH⟩
 ·subst ey eH
  obtain ⟨z,hd,vs,rel,dd⟩:=Ke I.hok e;have hz:vs.length<=sizeLine:=by rw [←rel.length];exact z
  have hl:(putK kvs k v).length<=sizeLine:=by have:=iH kvs k v;omega
  refine wpAny_setItem_pairs (hsz:=hz) (zE ry) dd fun h' Rw hs=>h _ ?_;have he:∃q,h'.get? a=some q:=let ⟨q,_,_,hq,_⟩:=Rw;⟨q,hq⟩
  exact w6 I (by rw [e];exact True.intro) hs he (Kf hl hd (rel.put k rv) Rw)
 ·subst ey eH
  cases (show u=Value.ref b from ry);obtain ⟨z,hd,xs,rel,dd⟩:=U8 I.hok e;have hz:xs.length<=sizeLine:=by rw [←Paired.length rel];exact z
  have hl:(putK kvs k v).length<=sizeLine:=by have:=iH kvs k v;omega
  refine wpAny_setItem_heap (hsz:=hz) (tupleKind_room_in1 hu) (wU I.hok eb) dd fun h' Rw hs=>h _ ?_;obtain ⟨q,es,ep,hq,h2,h3,h4,_,h5⟩:=Rw;refine w6 I (by rw [e];exact True.intro) hs ⟨q,hq⟩ ⟨hl,hd,_,(rel.put k eb rv).keeps fun c ys ec=> ?_,q,es,ep,hq,h2,h3,h4,h5⟩;rw [bA (k_ ec e (fun z=>nomatch z))];exact ec
end
section
variable {X:Cx} {pins:List (Addr×Obj)} {σ:St} {H:Hp} {s:Shared} {a:Addr} {kvs:List (Key×V)} {k:Key} {u:Value} {A:Around} {E:Value->Shared->Prop}
end
def V2 (i:Expr):Prop:=∀ov iv,subscripted i false ov iv=operate [ov,iv] (getItem ov iv)
theorem Ls {prog:Program} {w:World} {A:Around} {E:Value->Shared->Prop} {s:Shared} {env:Env} {value slice:Expr} {pos:Pos} {T id:String} {Q:Value->Shared->Prop}
 (hl:typeLookup (.type T) "__getitem__" = pure (some (.builtin id))) (hs:V2 slice)
 (h:wpAny (model prog w) A (eval value env) (fun o s₁=>wpAny (model prog w) A (eval slice env) (fun i s₂=>s₂.TypeIs o T/\wpAny (model prog w) A (getItem o i) Q E s₂) E s₁) E s):
 wpAny (model prog w) A (eval (.Subscript value slice pos) env) Q E s:=by
 refine Subscript_ (wpAny_mono h (fun o s₁ h₁=>wpAny_mono h₁ (fun i s₂ h₂=> ?_) fun _ _ x=>x) fun _ _ x=>x);obtain ⟨hT,h₂⟩:=h₂;unfold subscriptTail;refine wpAny_bind ?_;rw [getitemInPython_of_ne hT.not_modules];refine wpAny_bind (wpAny_specialOf hT hl ?_)
 have fin:wpAny (model prog w) A (subscripted slice false o i) (fun r s₃=>wpAny (model prog w) A (letTemporaryGo value o r >>= fun _=>pure r) Q E s₃) E s₂:=by
  rw [hs o i];exact wpAny_operating (wpAny_mono h₂ (fun r s₃ h₃=>wpAny_bind (wpAny_letTemporaryGo (wpAny_pure h₃))) fun _ _ x=>x)
 first
  | exact wpAny_pure (wpAny_bind fin)
  | exact wpAny_bind (wpAny_pure (wpAny_bind fin))
  | exact wpAny_bind fin
theorem zV {X:Cx} {pins:List (Addr×Obj)} {σ:St} {H:Hp} {s:Shared} {a:Addr} {y:V} {o:Option V} (I:Inv X pins σ H s) (g:nZ H a y o):s.TypeIs (.ref a) "dict" :=by
 rcases g with ⟨kvs,k,e,_,_⟩|⟨kvs,k,b,e,_,_,_⟩
 ·obtain ⟨_,_,vs,_,dd⟩:=zT I.hok e
  exact dd.typeIs
 ·obtain ⟨_,_,xs,_,dd⟩:=zQ I.hok e
  exact dd.typeIs
def S8 (td ty:TE):TE:=fun σ H Q=>td σ H fun x H1=>ty σ H1 fun y H2=>∃a v,x = .ref a/\nZ H2 a y (some v)/\Q v H2
def Tg (td ty tv:TE):TS:=fun D σ H=>tv σ H fun v H1=>td σ H1 fun x H2=>ty σ H2 fun y H3=>∃a H4,x = .ref a/\xV H3 a y v H4/\D.nx σ H4
section
variable {X:Cx} {o i e value:Expr} {pos pos' tpos:Pos} {td ty tv:TE}
theorem wJ (hu:X.A.units+1<cLine) (ho:PE X o td) (hi:PE X i ty) (hs:V2 i):PE X (.Subscript o i pos) (S8 td ty):=by
 intro pins s σ H Q I h;refine Ls PySem.F.slot_dict_getitem.lookup hs (cT (ho pins s σ H _ I h) fun u s1 ⟨x,H1,I1,rx,q1⟩=>cT (hi pins s1 σ H1 _ I1 q1) fun iv s2 ⟨y,H2,I2,ry,a,v,ex,g,q2⟩=> ?_);subst ex;obtain rfl:u=Value.ref a:=rx;exact ⟨zV I2 g,G3 hu I2 g ry fun w' s3 I3 rw'=>⟨v,H2,I3,rw',q2⟩⟩
theorem wG (hu:X.A.units+1<cLine) (ho:PE X o td) (hi:PE X i ty) (hv:PE X value tv) (hs:swapsWith value (some (.Subscript o i pos')) pos.line X.env=pure false):
 PS X (.Assign [.Subscript o i pos'] value pos) (Tg td ty tv):=by
 intro pins s σ H D I h;refine wpAny_Assign_Subscript (cT (hv pins s σ H _ I h) fun r s1 ⟨v,H1,I1,rv,q1⟩=>cT (ho pins s1 σ H1 _ I1 q1) fun u s2 ⟨x,H2,I2,rx,q2⟩=>cT (hi pins s2 σ H2 _ I2 q2) fun iv s3 ⟨y,H3,I3,ry,a,H4,ex,g,q3⟩=> ?_) hs;subst ex;obtain rfl:u=Value.ref a:=rx;exact GZ hu I3 g ry rv fun s4 I4=>⟨σ,H4,I4,q3⟩
end
theorem zU {P:Program} {w:World} {H:Hp} (h:Heap) (hb:sysModules<h.objs.size):cD P w H (h.push {cls:= .type "dict",data:= .dict #[]}) h.objs.size (.dK []):=
 ⟨Nat.zero_le _,beq_eq_false_iff_ne.mpr (Ne.symm (Nat.ne_of_lt hb)),[],.nil,Heap.DictOf.new h⟩
theorem Kd {P:Program} {w:World} {H:Hp} (h:Heap) (hb:sysModules<h.objs.size):cD P w H (h.push {cls:= .type "dict",data:= .dict #[]}) h.objs.size (.dT []):=
 ⟨Nat.zero_le _,beq_eq_false_iff_ne.mpr (Ne.symm (Nat.ne_of_lt hb)),[],.nil,_, #[],0,Heap.get?_push_size _ rfl,⟨rfl,rfl,rfl⟩,rfl,rfl,List.nodup_nil⟩
def PN:TE:=fun _ H Q=>∀p,H p=none->Q (.ref p) (upd H p (.dK []))
def PL:TE:=fun _ H Q=>∀p,H p=none->Q (.ref p) (upd H p (.dT []))
section
variable {X:Cx} {pos:Pos}
theorem yM:PE X (.Dict [] [] pos) PN:=fun pins s σ H Q I h=>
 wpAny_Dict_empty ⟨.ref s.heap.objs.size,_,I.laid (a:=s.heap.objs.size) (o:= .dK []) (t':=s.toks) (fun _ _ q=>Heap.get?_push_of_some _ q) (Nat.le_refl _) (zU s.heap I.big),rfl,h _ (I.hok.fresh (Nat.le_refl _))⟩
theorem Jr:PE X (.Dict [] [] pos) PL:=fun pins s σ H Q I h=>
 wpAny_Dict_empty ⟨.ref s.heap.objs.size,_,I.laid (a:=s.heap.objs.size) (o:= .dT []) (t':=s.toks) (fun _ _ q=>Heap.get?_push_of_some _ q) (Nat.le_refl _) (Kd s.heap I.big),rfl,h _ (I.hok.fresh (Nat.le_refl _))⟩
end
def Bc:List (TE×TE)->St->Hp->(List (V×V)->Hp->Prop)->Prop
 | [],_,H,Q=>Q [] H
 | (tk,tv)::r,σ,H,Q=>tk σ H fun x H1=>tv σ H1 fun y H2=>Bc r σ H2 fun ps H3=>Q ((x,y)::ps) H3
abbrev VV:List (V×V)->List (Value×Value)->Prop:=Paired fun p q=>RelV p.1 q.1/\RelV p.2 q.2
def Yj (X:Cx) (pos:Pos) (keys:List (Option Expr)) (values:List Expr) (Lq:List (TE×TE)):Prop:=
 ∀(pins:List (Addr×Obj)) (s:Shared) (σ:St) (H:Hp) (Q:List (V×V)->Hp->Prop),Inv X pins σ H s->Bc Lq σ H Q ->
  wpAny (model X.prog X.w) X.A (evalPairs (pairTrees keys values X.env pos)) (fun vs s'=>∃ps H',Inv X pins σ H' s'/\VV ps vs/\Q ps H') X.xe s
theorem Ma {X:Cx} {pos:Pos}:Yj X pos [] [] []:=fun pins s σ H Q I h=>pairTrees_nil_walk ⟨[],H,I,.nil,h⟩
theorem Jj {X:Cx} {pos:Pos} {k v:Expr} {ks:List (Option Expr)} {vs:List Expr} {tk tv:TE} {Lq:List (TE×TE)} (hk:PE X k tk) (hv:PE X v tv) (hr:Yj X pos ks vs Lq):
 Yj X pos (some k::ks) (v::vs) ((tk,tv)::Lq):=fun pins s σ H Q I h=>
 pairTrees_cons_walk (cT (hk pins s σ H _ I h) fun u s1 ⟨x,H1,I1,rx,q1⟩=>cT (hv pins s1 σ H1 _ I1 q1) fun w2 s2 ⟨y,H2,I2,ry,q2⟩=>
  cT (hr pins s2 σ H2 _ I2 q2) fun ws s3 ⟨ps,H3,I3,rel,q3⟩=>⟨(x,y)::ps,H3,I3,.cons ⟨rx,ry⟩ rel,q3⟩)
def pW (kvs more:List (Key×V)):List (Key×V):=more.foldl (fun acc kv=>putK acc kv.1 kv.2) kvs
theorem KV.merge:∀{more:List (Key×V)} {rs:List (Key×Value)} {kvs:List (Key×V)} {vs:List (Key×Value)},KV more rs->KV kvs vs->KV (pW kvs more) (merged vs rs):=by
 intro more rs kvs vs r;unfold KV at r
 induction r generalizing kvs vs with
 | nil=>intro q;exact q
 | @cons p q ps qs h t ih=>
   intro r0
   have e:KV (putK kvs p.1 p.2) (stored vs q.1 q.2):=by
    have:=r0.put p.1 h.2;rw [←h.1];exact this
   exact ih e
theorem nG:∀(more kvs:List (Key×V)),(pW kvs more).length<=kvs.length+more.length
 | [],kvs=>by show kvs.length<=kvs.length+0;omega
 | p::r,kvs=>by
   have h1:=nG r (putK kvs p.1 p.2);have h2:=iH kvs p.1 p.2;show (pW (putK kvs p.1 p.2) r).length<=_;rw [List.length_cons];omega
theorem ur {P:Program} {w:World}:∀{kvs:List (Key×V)} {ws:List (Value×Value)},VV (kvs.map fun kv=>(kV kv.1,kv.2)) ws -> ∃rs,Carries (bY P w) ws rs/\KV kvs rs
 | [],_,r=>by rw [List.map_nil] at r;cases r;exact ⟨[],True.intro,.nil⟩
 | p::kvs,_,r=>by
   rw [List.map_cons] at r;cases r with
   | @cons a b as bs h t=>
     obtain ⟨rs,c,q⟩:=ur (P:=P) (w:=w) t;obtain ⟨b1,b2⟩:=b;exact ⟨(p.1,b2)::rs,⟨zE h.1,rfl,c⟩,.cons ⟨rfl,h.2⟩ q⟩
def S7 (Lq:List (TE×TE)):TE:=fun σ H Q=>∀p,H p=none->Bc Lq σ (upd H p (.dK [])) fun ps H2=>H2 p=some (.dK []) /\ ∃kvs:List (Key×V),ps=kvs.map (fun kv=>(kV kv.1,kv.2))/\kvs.length<=15/\Q (.ref p) (upd H2 p (.dK (pW [] kvs)))
theorem Mr {X:Cx} {pos:Pos} {keys:List (Option Expr)} {values:List Expr} {Lq:List (TE×TE)} (h:Yj X pos keys values Lq) (hall:keys.all (·.isSome)=true) (hl:keys.length=values.length) (h0:keys≠[])
 (h15:keys.length<=15):PE X (.Dict keys values pos) (S7 Lq):=by
 intro pins s σ H Q I q;have hn:=I.hok.fresh (Nat.le_refl s.heap.objs.size);have I1:=I.laid (a:=s.heap.objs.size) (o:= .dK []) (h':=s.heap.push {cls:= .type "dict",data:= .dict #[]}) (t':=s.toks) (fun _ _ q=>Heap.get?_push_of_some _ q) (Nat.le_refl _) (zU s.heap I.big);refine wpAny_Dict_walk (knd:=bY X.prog X.w) hall hl h0 h15 (cT (h pins _ σ _ _ I1 (q _ hn)) fun ws s2 ⟨ps,H2,I2,rel,e,kvs,ep,lk,q2⟩=> ?_);subst ep;obtain ⟨rs,c,rk⟩:=ur (P:=X.prog) (w:=X.w) rel;obtain ⟨z,hd,vs0,r0,dd⟩:=Ke I2.hok e;cases r0;refine ⟨rs,c,dd,fun h' Rw hs=>⟨.ref s.heap.objs.size,_, ?_,rfl,q2⟩⟩
 have hz:(pW [] kvs).length<=sizeLine:=by
  have h1:=nG kvs [];rw [List.length_nil] at h1;rw [sizeLine_eq];omega
 have he:∃q,h'.get? s.heap.objs.size=some q:=let ⟨q,_,_,hq,_⟩:=Rw;⟨q,hq⟩
 exact w6 I2 (by rw [e];exact True.intro) hs he (Kf hz hd (rk.merge .nil) Rw)
structure M2 (X:Cx) (o:Expr) (m:Str) (apos:Pos) (e f:Expr) (cpos:Pos):Prop where
 base:attributeBase o m X.env (eval o X.env)=eval o X.env
 few:((backTo cpos (starEach [e,f] X.env)).all (fun x=> !x.1)&&(backToKw cpos (keywordEach [] X.env)).all (fun x=>x.1.isSome)
  && decide (([e,f]:List Expr).length+([]:List Keyword).length+(if ([]:List Keyword).isEmpty then 0 else 1)<30))=true
 line:(apos.endLine==cpos.line)=true
 trees:backTo cpos (starEach [e,f] X.env)=[(false,eval e X.env),(false,eval f X.env)]
def IsD (H:Hp) (a:Addr):Prop:=(∃kvs,Rd H a (.dK kvs)) \/ ∃kvs,Rd H a (.dT kvs)
theorem Q_ {X:Cx} {pins:List (Addr×Obj)} {σ:St} {H:Hp} {s:Shared} {a:Addr} (I:Inv X pins σ H s) (d:IsD H a):
 s.TypeIs (.ref a) "dict" /\ (∀b,Value.ref a = .ref b -> ∃ob,s.heap.get? b=some ob/\ob.dict=none)/\(a==sysModules)=false:=by
 rcases d with ⟨kvs,e⟩|⟨kvs,e⟩
 ·obtain ⟨_,hd,vs,_,dd⟩:=zT I.hok e
  refine ⟨dd.typeIs,fun b q=> ?_,hd⟩;cases q;obtain ⟨ob,_,_,h1,h2,_⟩:=dd;exact ⟨ob,h1,h2.2.1⟩
 ·obtain ⟨_,hd,xs,_,dd⟩:=zQ I.hok e
  refine ⟨dd.typeIs,fun b q=> ?_,hd⟩;cases q;obtain ⟨ob,_,_,h1,h2,_⟩:=dd;exact ⟨ob,h1,h2.2.1⟩
section
variable {X:Cx} {pins:List (Addr×Obj)} {σ:St} {H:Hp} {s:Shared} {a:Addr} {y d:V} {u r:Value} {o:Option V} {A:Around} {E:Value->Shared->Prop}
theorem RB {Q:Value->Shared->Prop} (hu:A.units+1<cLine) (I:Inv X pins σ H s) (g:nZ H a y o) (ry:RelV y u) (rd:RelV d r) (h:∀w' s',Inv X pins σ H s'->RelV (o.getD d) w'->Q w' s'):
 wpAny (model X.prog X.w) A (call (.builtin "dict.get") [.ref a,u,r]) Q E s:=by
 rcases g with ⟨kvs,k,e,ey,l⟩|⟨kvs,k,b,e,ey,eb,l⟩
 ·subst ey
  obtain ⟨z,hd,vs,rel,dd⟩:=zT I.hok e;refine call_meetsIn PySem.F.slot_dict_get dd.typeIs PySem.F.entry_dict_get (PySem.F.args_dict_get_3 _ _ _) (meets_dict_get_default (bY X.prog X.w) a (zE ry) hd r) ⟨_,dd.mapOf,h _ _ (I.tok _) ?_⟩;rw [l];exact (rel.val k).getD rd
 ·subst ey
  cases (show u=Value.ref b from ry);obtain ⟨z,hd,xs,rel,dd⟩:=zQ I.hok e;refine call_meetsIn PySem.F.slot_dict_get dd.typeIs PySem.F.entry_dict_get (PySem.F.args_dict_get_3 _ _ _) (meetsH_dict_get_default (tupleKind (bY X.prog X.w)) a b hd r) ⟨tupleKind_room_in1 hu,k,xs,wU I.hok eb,dd,h _ _ (I.tok _) ?_⟩;rw [l];exact (rel.val k).getD rd
end
def PX (td ty tx:TE):TE:=fun σ H Q=>td σ H fun x H1=>∃a,x = .ref a/\IsD H1 a/\ty σ H1 fun y H2=>tx σ H2 fun z H3=>∃o,nZ H3 a y o/\Q (o.getD z) H3
section
variable {X:Cx} {o e f:Expr} {apos cpos:Pos} {td ty tx:TE}
theorem sS (hu:X.A.units+1<cLine) (ho:PE X o td) (he:PE X e ty) (hf:PE X f tx) (m:M2 X o "get" apos e f cpos):PE X (.Call (.Attribute o "get" apos) [e,f] [] cpos) (PX td ty tx):=by
 intro pins s σ H Q I h;refine wpAny_Call_method m.base m.few m.line PySem.F.plainAttrs_dict PySem.F.slot_dict_get PySem.F.type_dict_get (cT (ho pins s σ H _ I h) fun u s1 ⟨x,H1,I1,rx,a,ex,d,q1⟩=> ?_);subst ex;obtain rfl:u=Value.ref a:=rx;obtain ⟨t1,t2,_⟩:=Q_ I1 d;refine ⟨t1,t2, ?_⟩;rw [m.trees]
 refine Calls.callWith_builtin rfl (Calls.evalArgs_plain (Calls.spliced_cons (cT (he pins s1 σ H1 _ I1 q1) fun iv s2 ⟨y,H2,I2,ry,q2⟩=>
  Calls.spliced_cons (cT (hf pins s2 σ H2 _ I2 q2) fun fv s3 ⟨z,H3,I3,rz,ov,g,q3⟩=>Calls.spliced_nil ?_))))
 exact RB hu I3 g ry rz fun w' s4 I4 rw'=>⟨_,H3,I4,rw',q3⟩
end
section
variable {X:Cx} {pins:List (Addr×Obj)} {σ:St} {H:Hp} {s:Shared} {a:Addr} {kvs:List (Key×V)} {A:Around} {E:Value->Shared->Prop}
end
section
variable {X:Cx} {pins:List (Addr×Obj)} {σ:St} {H:Hp} {s:Shared} {a:Addr} {y:V} {u:Value} {A:Around} {E:Value->Shared->Prop}
end
end L2
namespace Att
open PySem PySem.W PySem.Calls PyProof.Rows
theorem qP {P:Params} {h:Heap}:∀(ns:List Int) (vs:List Value),WellAll P h vs (ns.map WData.int)->IntsAre vs ns:=by
 intro ns
 induction ns with
 | nil=>
   intro vs w;rw [List.map_nil] at w;cases w;exact .nil
 | cons n ns ih=>
   intro vs w;rw [List.map_cons] at w;cases w with
   | cons a b=>
     cases a;exact .cons _ _ (ih _ b)
theorem FN {l:OpenLaw} {n:Nat} (hn:l.most=some n) {P:Params} {h:Heap} {args:List WData} {vals:List Value}
 (hpre:l.row.toRowW.claim.pre args=true) (hwl:WellAll P h vals args):
 ∃a vs ns,vals=[Value.ref a]/\args=[WData.list (ns.map WData.int)]/\h.get? a=some {cls:= .type "list",data:= .seq vs.toArray}/\IntsAre vs ns/\ns.length<=n:=by
 have hsh:WShape.hasAll [] args [.list .int]=true:=(pre_splitW hpre).1;have hc:l.pre.holds [] {args:=args}=true:=(pre_splitW hpre).2;obtain ⟨d,r,rfl,h1,h2⟩:=hasAllW_cons hsh;obtain rfl:=hasAllW_nil h2;obtain ⟨xs,rfl,h3⟩:=hasW_list h1;obtain ⟨ns,rfl⟩:=items_int h3
 have hlen:ns.length<=n:=by
  unfold OpenLaw.pre at hc
  have h4:(WTm.not (.lt (.lit (.int (n:Int))) (.len (.arg 0)))).holds [] {args:=[.list (ns.map .int)]}=true:=by
   have h4:=(holds_andW hc).1;rw [hn] at h4;exact h4
  have h5:=condW_of h4 (w_not (w_lt w_lit (w_len_list (w_arg rfl))));rw [List.length_map] at h5;refine Nat.le_of_not_lt fun q=> ?_;have q':(n:Int)<((ns.length:Nat):Int):=by omega
  first
   | (rw [decide_eq_true q'] at h5;exact absurd h5 (by decide))
   | (simp at h5;omega)
 cases hwl with
 | cons w1 w2=>
   cases w2;cases w1 with
   | list ho hall=>exact ⟨_,_,ns,rfl,rfl,ho,qP ns _ hall,hlen⟩
theorem Ga (l:OpenLaw) (args:List WData):l.row.toRowW.claim.post args (.bool true) args=true:=
 postW_of (r:=l.row.toRowW) (X:=(true==true))
  (show WShape.has [] (.bool true) .bool=true by first |rfl|decide|simp [WShape.has,WShape.arms,WShape.armsAll])
  (show (WTm.eq .res (.lit (.bool true))).value [] {args:=args,res:=some (.bool true),after:=args}=some (.bool (true==true)) from w_eq_bool (w_res rfl) w_lit) rfl
theorem Ah {l:OpenLaw} {n:Nat} {q:Program} {loose:List Str} {XP:(Str->Option Value)->Heap->Prop} {YP:World->Heap->Prop} {d:DefRec}
 (hn:l.most=some n) (hdf:d.params.defaults=[])
 (call:∀(w:World) (s₀ s₁:Shared) (mg mb:Str->Option Value) (fa:Addr) (o:Obj) (pm cd doc:Value) (a:Addr) (vs:List Value) (ns:List Int),
   Ground q loose [] XP w s₀ mg mb s₁.heap->YP w s₁.heap ->
   s₁.heap.get? fa=some o->o.data = .func (docDef d.name d.params d.body d.scope pm cd doc)->s₁.heap.CodeRec cd d.name->mg d.name=some (.ref fa) ->
   s₁.heap.get? a=some {cls:= .type "list",data:= .seq vs.toArray}->IntsAre vs ns->ns.length<=n->s₁.gens = #[] ->
   codeAny (model l.prog w) callerA (.call (.ref fa) ⟨[.ref a],[]⟩) (fun r s'=>r = .ok (.ret (.bool true))/\OldK s₁.heap s'.heap/\s'.os=s₁.os/\AllBare s'.gens) s₁):
 WalkO q loose XP YP l.row.toRowW d [] (fun f vs=>PySem.call f vs):=by
 intro w s₀ s₁ mg mb G Y fa o pm cd doc dV kV ho hd hcd hD hmg hg args vals as hpre hlay hrd hwl hlo;obtain rfl:dV = .none:=Dflts.none hD hdf;obtain rfl:kV = .none:=Dflts.noKw hD;obtain ⟨a,vs,ns,rfl,rfl,hobj,hints,hlen⟩:=FN hn hpre hwl;refine enter_call (codeAny_mono (call w s₀ s₁ mg mb fa o pm cd doc a vs ns G Y ho (fd_plain hd) hcd hmg hobj hints hlen hg) fun r s' hq=> ?_);obtain ⟨rfl,h2,h3,h4⟩:=hq;exact ⟨.inl ⟨.bool true,.bool true,[],rfl,fun _=>rfl,.bool true,Ga l _,fun _=>⟨List.Pairwise.nil,fun _ hm=>(nomatch hm)⟩⟩,h2,h3,h4⟩
section
variable {prog:Program} {w:World} {A:Around} {E:Value->Shared->Prop} {s:Shared} {K:Frag}
def ledger (h:Heap) (L d:Addr):List (Addr×Obj):=(List.range h.objs.size).filterMap fun a=>if a=L\/a=d then none else (h.get? a).map fun o=>(a,o)
end
end Att
namespace L2
open PySem PySem.Spec PyProof.Rows
theorem Fp {vs:List Value} {ns:List Int} (h:IntsAre vs ns):Vals (ns.map V.int) vs:=by
 induction h with
 | nil=>exact .nil
 | cons n t h ih=>exact .cons ⟨t,rfl⟩ ih
def Only (H:Hp):Prop:=∀b,H b=none \/ ∃o xs,H b=some (.lF o (.lst xs))
theorem JV {P:Program} {w:World} {K:PySem.W.Frag} {mg mb:Str->Option Value} {CX:K8} {k:Nat} {fa a:Addr} {fd:FuncData} {x:Str} {sp:Sp} {s₁:Shared} {vs:List Value} {ns:List Int}
 (KX:K.In s₁.heap) (hns:s₁.heap.Ns mainGlobals mg) (hb:s₁.heap.Ns builtinsNs mb) (hbb:∀x:Str,x ≠ "__name__" -> mb x=bootBuiltins x) (hlim:s₁.heap.NoLimit) (hg:s₁.gens = #[])
 (ha:s₁.heap.get? a=some {cls:= .type "list",data:= .seq vs.toArray}) (hi:IntsAre vs ns) (hl:ns.length<=sizeLine) (hr:kW k callerA)
 (F:∀base:Heap,K.In base->base.Ns mainGlobals mg->cY P w K mg base CX k fa fd [x] sp) (hbind:∀(s:Shared) (u:Value),BindsTo s fd ⟨[u],[]⟩ [(x,u)])
 (hsp:∀H:Hp,Only H->aW K H a (ns.map V.int)->sp [.ref a] H (fun v _=>v = .bl true) fun _ _ _=>False)
 (hCX:∀H e s',CX [] H s₁ (fun _ _ _=>False) e s'->False):
 codeAny (model P w) callerA (.call (.ref fa) ⟨[.ref a],[]⟩) (fun r s'=>r = .ok (.ret (.bool true))/\OldK s₁.heap s'.heap/\s'.os=s₁.os/\AllBare s'.gens) s₁:=by
 have rv:=Fp hi;have lenV:=hi.length
 have core:∀H:Hp,Only H->aW K H a (ns.map V.int)->n6 P w H s₁.heap->(∀b,H b≠none->b=a)->(H a≠none->K.lookup a=none) ->
  codeAny (model P w) callerA (.call (.ref fa) ⟨[.ref a],[]⟩) (fun r s'=>r = .ok (.ret (.bool true))/\OldK s₁.heap s'.heap/\s'.os=s₁.os/\AllBare s'.gens) s₁:=by
  intro H hO hS hok hA hK;have Fb:∀{b:Addr} {o:Obj},s₁.heap.get? b=some o->H b=none->(wX s₁.heap H).get? b=some o:=fun e n=>J2 e n
  have T5:∀{b:Addr} {o:Obj} {es:Array DictEntry} {ep:Nat},s₁.heap.get? b=some o->o.data = .dict es ep->H b=none:=fun {b o es ep} e d=>by
   cases q:H b with
   | none=>rfl
   | some u=>
     have e':b=a:=hA b (by rw [q];simp);subst e';rw [ha] at e;cases e;have d':Data.seq vs.toArray _=Data.dict es ep:=d;cases d'
  have WK:∀{b:Addr} {m:Str->Option Value},s₁.heap.Ns b m->(wX s₁.heap H).Ns b m:=fun {b m} ⟨o,es,ep,e,d,r⟩=>⟨o,es,ep,Fb e (T5 e d),d,r⟩
  have hKb:K.In (wX s₁.heap H):=fun b o e=>Fb (KX b o e) (by
   cases q:H b with
   | none=>rfl
   | some u=>
     have e':b=a:=hA b (by rw [q];simp);subst e';rw [hK (by rw [q];simp)] at e;cases e)
  have hM:Mod K mg (wX s₁.heap H):=⟨hKb,WK hns,⟨mb,WK hb,hbb⟩,let ⟨mc,h1,h2⟩:=hlim;⟨mc,WK h1,h2⟩⟩;have e0:Ot P w K mg (wX s₁.heap H) callerA [] s₁ H:=⟨rfl,hM,fun b o e=>MF e,Nat.le_of_eq (GQ _ _),trivial,fun b hb=>absurd (show b∈([]:List Addr) from hb) (by simp),hok,.of_eq hg⟩;refine codeAny_mono ((F _ hKb (WK hns)).run callerA [] s₁ H ⟨[.ref a],[]⟩ [.ref a] [.ref a] _ _ hr e0 (hbind s₁ (.ref a)) (.cons rfl .nil) (hsp H hO hS)) fun r s' h=> ?_;cases r with
  | error e=>exact (hCX H e s' h).elim
  | ok fl=>
    cases fl with
    | next=>exact False.elim h
    | brk=>exact False.elim h
    | cont=>exact False.elim h
    | ret u=>
      obtain ⟨v,H',os,bare,un,hok',r',q⟩:=h;have q':v = .bl true:=q;subst q';obtain rfl:u=Value.bool true:=r';refine ⟨rfl,OldK.of_keep fun b o e=> ?_,os,bare⟩;cases q:H b with
      | none=>exact un.keep b o e q (by intro z;exact absurd (show b∈([]:List Addr) from z) (by simp)) (by simp)
      | some u=>
        rcases hO b with z|⟨ob,xs,z⟩
        ·rw [q] at z;cases z
        ·have z2:=un.pZ b ob _ z
         obtain ⟨e1,_⟩:=hok b _ z;obtain ⟨e2,_⟩:=hok' b _ z2;rw [e] at e1;cases e1;exact e2
 cases hk:K.lookup a with
 | some o=>
   have e:=KX a o hk;rw [ha] at e;cases e;refine core (fun _=>none) (fun _=> .inl rfl) (.inr ⟨_,vs.toArray,_,hk,rfl,rfl,rfl,by rw [List.size_toArray,lenV];exact hl,by simpa using rv⟩) (fun b u z=>by have z':(none:Option HO)=some u:=z;cases z') (fun b z=>absurd rfl z) fun z=>absurd rfl z
 | none=>
   refine core (fun b=>if b=a then some (.lF {cls:= .type "list",data:= .seq vs.toArray} (.lst (ns.map V.int))) else none) (fun b=> ?_) (.inl (.inr ⟨{cls:= .type "list",data:= .seq vs.toArray},if_pos rfl⟩)) (fun b u z=> ?_) (fun b z=> ?_) fun _=>hk
   ·by_cases hb:b=a
    ·exact .inr ⟨_,_,if_pos hb⟩
    ·exact .inl (if_neg hb)
   ·by_cases hb:b=a
    ·have z':=(if_pos hb).symm.trans z
     cases z';subst hb;exact ⟨ha,by rw [List.length_map];exact hl,vs,_,rv,ha⟩
    ·have z':=(if_neg hb).symm.trans z
     cases z'
   ·by_cases hb:b=a
    ·exact hb
    ·exact absurd (if_neg hb) z
end L2
namespace L2
open PySem PySem.Spec PyProof.Rows
abbrev KOf {K:PySem.W.Frag} {h:Heap} (_:K.In h):PySem.W.Frag:=K
theorem Ln {l:PySem.W.OpenLaw} {n k:Nat} {q:Program} {loose:List Str} {XP:(Str->Option Value)->Heap->Prop} {YP:World->Heap->Prop} {d:DefRec} {K:Params->PySem.W.Frag} {CX:World->K8} {sp:World->Sp} {x:Str}
 (hn:l.most=some n) (hn2:n<=sizeLine) (hdf:d.params.defaults=[]) (hr:kW k callerA)
 (hY:∀(w:World) (h:Heap),YP w h->(K w.params).In h)
 (F:∀(w:World) (mg:Str->Option Value) (fa:Addr) (h:Heap),(K w.params).In h->h.Ns mainGlobals mg->mg d.name=some (.ref fa) ->
   ∃fd:FuncData,(∀(s:Shared) (u:Value),BindsTo s fd ⟨[u],[]⟩ [(x,u)]) /\
    ∀base:Heap,(K w.params).In base->base.Ns mainGlobals mg->cY l.prog w (K w.params) mg base (CX w) k fa fd [x] (sp w))
 (hsp:∀(w:World) (H:Hp) (a:Addr) (ns:List Int),ns.length<=n->Only H->aW (K w.params) H a (ns.map V.int)->sp w [.ref a] H (fun v _=>v = .bl true) fun _ _ _=>False)
 (hCX:∀(w:World) (H:Hp) (s:Shared) (e:Value) (s':Shared),CX w [] H s (fun _ _ _=>False) e s'->False):
 PySem.W.WalkO q loose XP YP l.row.toRowW d [] (fun f vs=>PySem.call f vs):=by
 refine Att.Ah hn hdf fun w s₀ s₁ mg mb fa o pm cd doc a vs ns G Y ho hd hcd hmg hobj hints hlen hg=> ?_;have KX:=hY w _ Y;obtain ⟨fd,hb,hF⟩:=F w mg fa _ KX G.T.g hmg;exact JV KX G.T.g G.T.b G.T.builtins G.T.nolimit hg hobj hints (Nat.le_trans hlen hn2) hr hF hb (fun H hO hS=>hsp w H a ns hlen hO hS) fun H e s'=>hCX w H s₁ e s'
end L2
namespace L2
open PySem PySem.Spec PyProof.Rows
def inClass (s:Stmt) (j:Nat):Stmt:=match s with
 | .ClassDef _ _ _ body _ _ _ _ _ _ _=>body.getD j (.Pass ⟨0,0,0,0⟩)
 | _=> .Pass ⟨0,0,0,0⟩
def aH (s:Stmt):Arguments:=match s with
 | .FunctionDef _ a _ _ _ _ _ _ _ _=>a
 | _=>{posonlyargs:=[],args:=[],vararg:=none,kwonlyargs:=[],kw_defaults:=[],kwarg:=none,defaults:=[]}
def aF (s:Stmt):List Stmt:=match s with
 | .FunctionDef _ _ b _ _ _ _ _ _ _=>b
 | _=>[]
def aq (s:Stmt):Scope:=match s with
 | .FunctionDef _ _ _ _ _ _ sc _ _ _=>sc
 | _=>{kind:= .function,names:=[],isGenerator:=false,isCoroutine:=false}
abbrev jM:K8:=fun _ _ _ _ _ _=>False
abbrev E0:XK:=fun _ _ _=>False
theorem TJ {X:Cx}:Passes jM X E0:=fun _ _ _ _ _ _ _ h=>h.elim
structure jU (K:PySem.W.Frag) (x qual:Str) (st:Stmt) (f:Addr) (fd:FuncData):Prop where
 ex:∃(oc:Value) (od:Option Addr) (kV doc pm:Value) (an:Option Addr) (cdv ct:Value) (osl:Array (Option Value)),
  fd=PySem.W.fnOf x qual (aH st) (aF st) (aq st) .none kV doc pm an cdv ct/\K.lookup f=some ⟨oc,od,.func fd,osl⟩/\PySem.W.codeIn K cdv qual=true
 kp:PySem.W.keepIn K (.ref f)=true
section
variable {P:Program} {w:World} {K:PySem.W.Frag} {mg:Str->Option Value} {base:Heap}
theorem jU.ok {x qual:Str} {st:Stmt} {f:Addr} {fd:FuncData} {N ps:List Str} {k:Nat} {sp:Sp} (F:jU K x qual st f fd) (S:bf N ps (aq st)) (len:∀vs H Q E,sp vs H Q E->vs.length=ps.length)
 (hbody:∀(cdv:Value) (A:Around) (outer:List Env) (s:Shared) (H:Hp) (vs:List V) (Q:VK) (E:XK),kW k (A.deeper (envOfC qual (aq st) s.heap.objs.size f cdv))->sp vs H Q E ->
   ∃t,Hv (G4 jM P w K mg base N qual (aq st) f cdv A outer s H E).WM (aF st) t/\t {nx:=fun _ H'=>Q .non H',rt:=Q} (start N vs) H):cY P w K mg base jM (k+1) f fd ps sp:=by
 obtain ⟨oc,od,kV,doc,pm,an,cdv,ct,osl,rfl,lk,hcd⟩:=F.ex;refine UW lk hcd S len fun A outer s H vs Q E hr hsp=> ?_;obtain ⟨t,h,q⟩:=hbody cdv A outer s H vs Q E hr hsp;exact ⟨t,h.WM,q⟩
theorem jU.binds {x qual:Str} {st:Stmt} {f:Addr} {fd:FuncData} {ps:List Str} (F:jU K x qual st f fd)
 (h:∀(kV doc pm:Value) (an:Option Addr) (cdv ct:Value) (us:List Value),us.length=ps.length->bindArgs (PySem.W.fnOf x qual (aH st) (aF st) (aq st) .none kV doc pm an cdv ct) ⟨us,[]⟩=pure (ps.zip us)):Binds K fd ps []:=by
 obtain ⟨oc,od,kV,doc,pm,an,cdv,ct,osl,rfl,lk,hcd⟩:=F.ex;exact .all (h kV doc pm an cdv ct)
theorem bF {x qual:Str} {st:Stmt} {f:Addr} {oc:Value} {od an:Option Addr} {osl:Array (Option Value)} {kV doc pm cdv ct:Value} (l:K.lookup f=some ⟨oc,od,.func (PySem.W.fnOf x qual (aH st) (aF st) (aq st) .none kV doc pm an cdv ct),osl⟩)
 (c:PySem.W.codeIn K cdv qual=true) (k:PySem.W.keepIn K (.ref f)=true):jU K x qual st f (PySem.W.fnOf x qual (aH st) (aF st) (aq st) .none kV doc pm an cdv ct):=⟨⟨oc,od,kV,doc,pm,an,cdv,ct,osl,rfl,l,c⟩,k⟩
end
theorem tK {A:Around} {k:Nat} (hr:kW k A):A.units+1<cLine:=Nat.lt_of_le_of_lt (Nat.add_le_add_left (by decide:1<=64) _) hr.units
theorem FJ {n:Nat} (h:n<=1000):n<sizeLine:=Nat.lt_of_le_of_lt h (by decide)
section
variable {X:Cx}
theorem pv (i:Nat) {x:Str} {pos:Pos} (hN:X.N[i]? = some x:=by rfl) (hv:Vis X.env.scope x:=by first |exact Or.inl rfl|exact Or.inr (Or.inl rfl)|exact Or.inr (Or.inr rfl)) (hd:(x==("__debug__" :Str))=false:=by decide)
 (hcd:(x==("__classdict__" :Str))=false:=by decide):PE X (.Name x pos) (yt i):=Qu hN hv hd hcd
end
theorem fK {A B:Prop} (h:B):if false=true then A else B:=by
 rw [if_neg Bool.false_ne_true];exact h
theorem iJ {A B:Prop} (h:A):if true=true then A else B:=by
 rw [if_pos rfl];exact h
theorem kj {c A B:Prop} [Decidable c] (h1:c->A) (h2:¬c->B):if c then A else B:=by
 by_cases h:c
 ·rw [if_pos h]
  exact h1 h
 ·rw [if_neg h]
  exact h2 h
theorem nJ {c A B:Prop} [Decidable c] (hc:c) (h:B):if (!decide c)=true then A else B:=by
 rw [decide_eq_true hc];exact fK h
def Same (H H':Hp):Prop:=∀b o,H b=some o->H' b=some o
theorem Same.refl (H:Hp):Same H H:=fun _ _ h=>h
theorem Same.trans {H H1 H2:Hp} (a:Same H H1) (b:Same H1 H2):Same H H2:=fun c o h=>b c o (a c o h)
theorem Same.free {H H':Hp} (e:Same H H') {l:Addr} (h:H' l=Option.none):H l=Option.none:=by
 cases q:H l with
 | none=>rfl
 | some o=>
   rw [e l o q] at h;cases h
theorem Same.seq {K:PySem.W.Frag} {H H':Hp} {a:Addr} {xs:List V} (e:Same H H') (h:aW K H a xs):aW K H' a xs:=by
 rcases h with (h|⟨o,h⟩)|h
 ·exact .inl (.inl (e _ _ h))
 ·exact .inl (.inr ⟨o,e _ _ h⟩)
 ·exact .inr h
section
variable {κ:Type} [DecidableEq κ]
end
end L2
set_option Elab.async false
set_option linter.all false
set_option maxRecDepth 100000
set_option maxHeartbeats 4000000
namespace L2
open PySem PySem.Spec PyProof.Rows
theorem jC {a n:Addr} (h:a<n): @LT.lt Nat _ a n:=h
def jx (env:Env):List (Str×NameKind)->List (Str×Addr)->List (Str×Addr)
 | [],acc=>acc
 | (n,k)::r,acc=>if k == .free then jx env r ((n,(env.cells.lookup n).getD 0)::acc) else jx env r acc
theorem uo {env:Env} {scope:Scope} (h:∀y∈scope.names,y.2 = .free->(env.cells.lookup y.1).isSome=true):closureFor scope env=pure (jx env scope.names []):=by
 have go:∀(ns:List (Str×NameKind)) (acc:List (Str×Addr)),(∀y∈ns,y.2 = .free->(env.cells.lookup y.1).isSome=true) ->
  (forIn ns acc (fun x cs=>match x with |(name,kind)=>if (kind == .free)=true then do let c ←cellOf env name;pure (ForInStep.yield ((name,c)::cs)) else pure (ForInStep.yield cs)):Sem (List (Str×Addr)))=pure (jx env ns acc):=by
  intro ns
  induction ns with
  | nil=>intro acc _;rfl
  | cons y r ih=>
    intro acc hy;obtain ⟨n,k⟩:=y;rw [List.forIn_cons]
    by_cases hk:k = .free
    ·subst hk
     have hs:=hy (n,.free) List.mem_cons_self rfl;obtain ⟨c,hc⟩:=Option.isSome_iff_exists.mp hs;have e:cellOf env n=pure c:=by unfold cellOf;rw [hc]
     show _=pure (jx env r ((n,(env.cells.lookup n).getD 0)::acc));rw [←ih _ fun y hm=>hy y (List.mem_cons_of_mem _ hm)];simp only [beq_self_eq_true,if_true,e,pure_bind,hc,Option.getD_some]
    ·have hb:(k==NameKind.free)=false:=by simpa using hk
     have hc:jx env ((n,k)::r) acc=jx env r acc:=by
      show (if (k==NameKind.free)=true then _ else _)=_;rw [if_neg (by rw [hb];decide)]
     rw [hc,←ih _ fun y hm=>hy y (List.mem_cons_of_mem _ hm)];simp only [hb,Bool.false_eq_true,if_false,pure_bind]
 have q:=go scope.names [] h;unfold closureFor;show (forIn scope.names [] _ >>= fun r=>pure r)=_;rw [bind_pure];exact q
theorem dI {env:Env}:∀(ns:List (Str×NameKind)) (acc:List (Str×Addr)) (x:Str),(∀y∈ns,y.2 = .free->(env.cells.lookup y.1).isSome=true) ->
 (jx env ns acc).lookup x=if (x,NameKind.free)∈ns then env.cells.lookup x else acc.lookup x
 | [],acc,x,_=>by simp [jx]
 | (n,k)::r,acc,x,h=>by
   have hr:∀y∈r,y.2 = .free->(env.cells.lookup y.1).isSome=true:=fun y hm=>h y (List.mem_cons_of_mem _ hm)
   by_cases hk:k = .free
   ·subst hk
    show (jx env r ((n,(env.cells.lookup n).getD 0)::acc)).lookup x=_;rw [dI r _ x hr];obtain ⟨c,hc⟩:=Option.isSome_iff_exists.mp (h (n,.free) List.mem_cons_self rfl);have hc:env.cells.lookup n=some c:=hc
    by_cases hm:(x,NameKind.free)∈r
    ·rw [if_pos hm,if_pos (List.mem_cons_of_mem _ hm)]
    ·rw [if_neg hm]
     by_cases e:x=n
     ·subst e
      rw [if_pos List.mem_cons_self,List.lookup_cons,hc];simp
     ·rw [if_neg (fun z=>(List.mem_cons.mp z).elim (fun q=>e (congrArg Prod.fst q)) hm),List.lookup_cons]
      have:(x==n)=false:=by simpa using e
      rw [this]
   ·have hb:(k==NameKind.free)=false:=by simpa using hk
    have hc:jx env ((n,k)::r) acc=jx env r acc:=by
     show (if (k==NameKind.free)=true then _ else _)=_;rw [if_neg (by rw [hb];decide)]
    rw [hc,dI r acc x hr]
    have:((x,NameKind.free)∈(n,k)::r)↔(x,NameKind.free)∈r:=by
     constructor
     ·intro z
      rcases List.mem_cons.mp z with q|q
      ·exact absurd (congrArg Prod.snd q).symm hk
      ·exact q
     ·exact List.mem_cons_of_mem _
    simp only [this]
theorem eN (env:Env):∀(ns:List (Str×NameKind)) (x:Str),
 (ns.map fun (n,k)=>if (k == .free&&env.scope.kind == .function&&env.kindOf n==some .cell) then (n,NameKind.cell) else (n,k)).lookup x =
   (ns.lookup x).map fun k=>if (k == .free&&env.scope.kind == .function&&env.kindOf x==some .cell)=true then NameKind.cell else k
 | [],x=>rfl
 | (n,k)::r,x=>by
   show List.lookup x ((if (k==NameKind.free&&env.scope.kind == .function&&env.kindOf n==some .cell)=true then (n,NameKind.cell) else (n,k))::_)=_;cases hx:x==n with
   | true=>
     have e:x=n:=by simpa using hx
     subst e
     by_cases hc:(k==NameKind.free&&env.scope.kind == .function&&env.kindOf x==some .cell)=true
     ·rw [if_pos hc];simp only [List.lookup_cons,hx,Option.map_some,if_pos hc]
     ·rw [if_neg hc];simp only [List.lookup_cons,hx,Option.map_some,if_neg hc]
   | false=>
     have ih:=eN env r x
     by_cases hc:(k==NameKind.free&&env.scope.kind == .function&&env.kindOf n==some .cell)=true
     ·rw [if_pos hc];simp only [List.lookup_cons,hx];exact ih
     ·rw [if_neg hc];simp only [List.lookup_cons,hx];exact ih
structure aQ (N own:List Str) (caps:List Nat) (XN:List Str) (outer scope:Scope):Prop where
 kind:scope.kind = .function
 JN:∀y∈scope.names,y.2 ≠ .cell
 names:∀y∈scope.names,y.2 = .local->scope.names.lookup y.1=some .local
 free:∀y∈scope.names,y.2 = .free->outer.names.lookup y.1=some .cell\/outer.names.lookup y.1=some .free
 nd:N.Nodup
 len:N.length=own.length+caps.length
 cap:∀(j:Nat),j<caps.length->N[own.length+j]? = XN[caps.getD j 0]? /\ ∃x,N[own.length+j]? = some x/\(x,NameKind.free)∈scope.names/\scope.names.lookup x=some .free
def st0 (own:List Str) (caps:List Nat) (σ:St):St:=own.map (fun _=>none)++caps.map (fun i=>(σ[i]?).join)
def d_ (X:Cx) (scope:Scope) (C:Addr) (N:List Str) (s:Shared) (H:Hp) (fp:List Addr):Cx:=
 {X with N:=N,s₀:=s,H₀:=H,env:=compEnvC scope (jx X.env scope.names []) C X.env,outer:=X.stack,ex:=fp,fn:=fun _=>false,pn:=[],xe:=fun _ _=>False}
section
variable {X:Cx} {pins:List (Addr×Obj)} {σ:St} {H:Hp} {s:Shared} {scope:Scope} {N own:List Str} {caps:List Nat} {fp:List Addr} {C:Nat}
theorem aQ.ug (S:aQ N own caps X.N X.env.scope scope) (ok:X.Ok):∀y∈scope.names,y.2 = .free->(X.env.cells.lookup y.1).isSome=true:=fun y hy hf=>by
 obtain ⟨c,e⟩:=ok.has y.1 (S.free y hy hf);rw [e];rfl
theorem aQ.csub (S:aQ N own caps X.N X.env.scope scope) (ok:X.Ok) {x:Str} {c:Addr} (h:(jx X.env scope.names []).lookup x=some c):X.env.cells.lookup x=some c:=by
 rw [dI _ _ _ (S.ug ok)] at h;split at h
 ·exact h
 ·simp at h
theorem aQ.tE {S:aQ N own caps X.N X.env.scope scope} {x:Str} (h:(relabel scope X.env).names.lookup x=some .cell\/(relabel scope X.env).names.lookup x=some .free):(x,NameKind.free)∈scope.names:=by
 have e:=eN X.env scope.names x;have e':(relabel scope X.env).names.lookup x=(scope.names.lookup x).map fun k=>if (k == .free&&X.env.scope.kind == .function&&X.env.kindOf x==some .cell)=true then NameKind.cell else k:=e;rw [e'] at h;cases q:scope.names.lookup x with
 | none=>rw [q] at h;simp at h
 | some k=>
   have hm:=PySem.mem_of_lookup q
   by_cases hk:k = .free
   ·subst hk;exact hm
   ·rw [q] at h
    have hb:(k==NameKind.free)=false:=by simpa using hk
    simp only [Option.map_some,hb,Bool.false_and,Bool.false_eq_true,if_false] at h;rcases h with h|h
    ·exact absurd (Option.some.inj h) (S.JN _ hm)
    ·exact absurd (Option.some.inj h) hk
theorem Inv.comp {h1:Heap} {D:Nat} (I:Inv X pins σ H s) (S:aQ N own caps X.N X.env.scope scope) (hfp:∀b∈fp,jV X pins H b) (hfo:∀b∈fp,∃o,s.heap.get? b=some o)
 (hD:D=s.heap.objs.size) (hC:C=s.heap.objs.size+1) (old:∀b o,s.heap.get? b=some o->h1.get? b=some o) (hns:h1.Ns C (fun _=>none)) (hl:h1.get? D=some {cls:= .type "list",data:= .seq #[]}) {t:Nat}:
 Inv (d_ X scope C N s H fp) [] (st0 own caps σ) (upd H D (.lst [])) {s with heap:=h1,toks:=t}:=by
 have some':=S.ug I.ok;have sub:∀{x c},(jx X.env scope.names []).lookup x=some c->X.env.cells.lookup x=some c:=fun h=>S.csub I.ok h;have freshD:H D=none:=I.hok.fresh (by rw [hD];exact Nat.le_refl _);have CJ:H C=none:=I.hok.fresh (by rw [hC];exact Nat.le_succ _)
 have uq:∀x c,X.env.cells.lookup x=some c->c<s.heap.objs.size:=fun x c e=>by
  obtain ⟨v,z⟩:=I.cell x c e;exact z.lt
 have Nz:∀b∈fp,b<s.heap.objs.size:=fun b hb=>by
  obtain ⟨o,e⟩:=hfo b hb;exact Heap.lt_size e
 have DC:D≠C:=by omega
 refine ⟨⟨I.ok.mod,S.kind,I.ok.glob,I.ok.blt,by show s.heap.objs.size<=C;omega,fun x y c e1 e2=>I.ok.inj x y c (sub e1) (sub e2),fun x h=> ?_,fun x c h=>(by cases h),I.ok.hd,I.ok.frames,Or.inl rfl,fun b hb=>⟨?_,fun x c e=> ?_⟩,I.bs,Nat.le_trans I.ok.Lj I.sz,fun b o e hb=> ?_,fun b hb z=> ?_,I.stack,I.vZ⟩,
  rfl,I.bare,Un.laid old (by show s.heap.objs.size<=D;omega) freshD,⟨_,hns,fun j x v e1 e2 e3=> ?_⟩,fun x c e=> ?_, ?_,fun x c e=> ?_,fun p hp=> ?_,I.hok.laid old (by omega) ?_, ?_⟩
 ·have hm:=aQ.tE (S:=S) (X:=X) h
  obtain ⟨c,e⟩:=Option.isSome_iff_exists.mp (some' _ hm rfl);exact ⟨c,by show (jx X.env scope.names []).lookup x=_;rw [dI _ _ _ some',if_pos hm];exact e⟩
 ·exact Nat.ne_of_lt (show @LT.lt Nat _ b C by have:=jC (Nz b hb);omega)
 ·exact (hfp b hb).2.2.2.2.1 x c (sub e)
 ·rcases (hfp b hb).2.2.2.1 with z|z
  ·exact I.ok.Gn b o e z
  ·exact absurd (Nat.lt_of_lt_of_le (Heap.lt_size e) (Nat.le_trans I.ok.Lj z)) (Nat.lt_irrefl _)
 ·rcases List.mem_cons.mp (I.pG b z) with q|q
  ·exact (hfp b hb).2.1 q
  ·exact (hfp b hb).2.2.1 q
 ·have e1:N[j]? = some x:=e1
  have hj:own.length<=j:=by
   by_cases q:own.length<=j
   ·exact q
   ·exfalso
    unfold st0 at e2;rw [List.getElem?_append_left (by simp;omega),List.getElem?_map] at e2;cases r:own[j]? with
    | none=>rw [r] at e2;cases e2
    | some a=>rw [r] at e2;cases e2
  have hjl:j<N.length:=(List.getElem?_eq_some_iff.mp e1).1;have hjc:j - own.length<caps.length:=by have:=S.len;omega
  obtain ⟨c1,x',c2,c3,c4⟩:=S.cap (j - own.length) hjc;rw [show own.length+(j - own.length)=j by omega] at c1 c2;rw [e1] at c2;cases c2
  have e2':(σ[caps.getD (j - own.length) 0]?).join=some v:=by
   unfold st0 at e2;rw [List.getElem?_append_right (by simp;omega),List.getElem?_map,List.length_map] at e2;rw [List.getD_eq_getElem?_getD];cases r:caps[j - own.length]? with
   | none=>rw [r] at e2;cases e2
   | some a=>rw [r] at e2;exact Option.some.inj e2
  have Ru:σ[caps.getD (j - own.length) 0]? = some (some v):=by
   cases r:σ[caps.getD (j - own.length) 0]? with
   | none=>rw [r] at e2';cases e2'
   | some a=>rw [r] at e2';exact congrArg Option.some e2'
  have kx:X.env.kindOf x=some .cell\/X.env.kindOf x=some .free:=S.free _ c3 rfl;obtain ⟨m,hn,hl'⟩:=I.loc;obtain ⟨u,r,l⟩:=hl' _ x v (by rw [←c1];exact e1) Ru (by rcases kx with z|z;exact .inr (.inl z);exact .inr (.inr z));refine ⟨u,r,.inr ⟨?_, ?_⟩⟩
  ·show (relabel scope X.env).names.lookup x=some .cell\/(relabel scope X.env).names.lookup x=some .free
   have e:(relabel scope X.env).names.lookup x=(scope.names.lookup x).map fun k=>if (k == .free&&X.env.scope.kind == .function&&X.env.kindOf x==some .cell)=true then NameKind.cell else k:=eN X.env scope.names x;rw [e,c4,Option.map_some];split
   ·exact .inl rfl
   ·exact .inr rfl
  ·rcases l with ⟨hk,_⟩|⟨_,c,hc,z⟩
   ·rcases kx with q|q<;>rw [hk] at q<;>cases q
   ·refine ⟨c, ?_, ?_⟩
    ·show (jx X.env scope.names []).lookup x=_
     rw [dI _ _ _ some',if_pos c3];exact hc
    ·obtain ⟨o,ho,hd⟩:=z
     exact ⟨o,old c o ho,hd⟩
 ·obtain ⟨v,o,ho,hd⟩:=I.cell x c (sub e)
  exact ⟨v,o,old c o ho,hd⟩
 ·show upd H D (.lst []) C=none
  rw [bA DC.symm];exact CJ
 ·show upd H D (.lst []) c=none
  rw [bA (Nat.ne_of_lt (by have:=jC (uq x c (sub e));omega))];exact I.jT x c (sub e)
 ·cases hp
 ·exact ⟨Nat.zero_le _,[],0,.nil,hl⟩
 ·show (own.map (fun _=>none)++caps.map _).length=N.length
  rw [List.length_append,List.length_map,List.length_map,S.len]
theorem Inv.Io {vC:List (Addr×Obj)} {σ':St} {H':Hp} {s':Shared} {h':Heap} (I:Inv X pins σ H s) (hfp:∀b∈fp,jV X pins H b) (hC:s.heap.objs.size<=C) (J:Inv (d_ X scope C N s H fp) vC σ' H' s') (hs:Heap.SameBut C s'.heap h'):
 Inv X pins σ H' {s' with heap:=h'}:=by
 have nC:∀b o,s.heap.get? b=some o->b≠C:=fun b o e=>Nat.ne_of_lt (by have:=jC (Heap.lt_size e);omega);have u:=J.base;have frC:H' C=none:=J.free;refine I.call' (ch:=fp) (s':={s' with heap:=h'}) J.os ⟨fun b o e n hb hx=> ?_,fun b o e n hb hx=> ?_,u.free,fun b o e hx=> ?_,u.tups,u.pZ,u.rO⟩ (fun a o e=>(J.hok a o e).stay (fun b v hb q=> ?_) (fun _ q=>q) fun _ _ q=>q) J.bare fun b hb=> ?_
 ·exact (hs.2 b (nC b o e)).trans (u.keep b o e n hb hx)
 ·obtain ⟨sl,q⟩:=u.slot b o e n hb hx
  exact ⟨sl,(hs.2 b (nC b o e)).trans q⟩
 ·obtain ⟨o',q⟩:=u.there b o e hx
  exact ⟨o',(hs.2 b (nC b o e)).trans q⟩
 ·refine (hs.2 b ?_).trans q
  intro z;subst z;rcases hb with z|z
  ·subst z;rw [frC] at e;cases e
  ·rw [frC] at z;cases z
 ·exact ⟨(hfp b hb).2.2.2.1,(hfp b hb).2.1,(hfp b hb).2.2.2.2.1,(hfp b hb).2.2.2.2.2⟩
end
section
variable {prog:Program} {w:World} {A:Around} {R:Result->Shared->Prop} {s:Shared}
theorem oY {elt target iter:Expr} {ifs:List Expr} {scope:Scope} {pos:Pos} {it acc:Value} {env:Env} (I:Nat->Shared->Prop)
 (turn:∀n s,I n s->wpAny (model prog w) A (pyNext it) (fun r s1=>match r with
   | none=>R (.ok .next) s1
   | some v=>wpAny (model prog w) A (letOwnedTupleGo target it v) (fun _ s1'=>wpAny (model prog w) A (assign target env v) (fun _ s2=>
      wpAny (model prog w) A (forIn ifs true fun c r=>if r=true then do let ok ←isTrue c env (eval c env);pure (ForInStep.yield ok) else pure (ForInStep.yield r)) (fun ok s3=>
       if ok=true then wpAny (model prog w) A (eval elt env) (fun x s4=>
        wpAny (model prog w) A (call (.builtin "list.append") [acc,x]) (fun _ s5=>∃m,m<n/\I m s5) (fun _ _=>False) s4) (fun _ _=>False) s3
       else ∃m,m<n/\I m s3) (fun _ _=>False) s2) (fun _ _=>False) s1') (fun _ _=>False) s1) (fun _ _=>False) s)
 (n:Nat) (h:I n s):
 codeAny (model prog w) A (.compLoop (.ListComp elt [⟨target,iter,ifs,0⟩] scope pos) 0 it acc env) R s:=by
 refine codeAny_loop rfl I (fun n s hI=> ?_) n h;show wpAny _ A ((compTurn (.ListComp elt [⟨target,iter,ifs,0⟩] scope pos) 0 it acc env).onRaise (fun x=>do noteFrame x env;theTreesLotGoes x)) _ _ s;refine wpAny_noted ?_;rw [compTurn_list];refine wpAny_bind (wpAny_standAt (wpAny_bind (wpAny_mono (turn n s hI) (fun r s1 h1=> ?_) fun _ _ h'=>h'.elim)));cases r with
 | none=>exact wpAny_pure h1
 | some v=>
   refine wpAny_bind (wpAny_mono h1 (fun _ s1' h1'=> ?_) fun _ _ h'=>h'.elim);refine wpAny_bind (wpAny_mono h1' (fun _ s2 h2=>wpAny_bind (wpAny_mono h2 (fun ok s3 h3=> ?_) fun _ _ h'=>h'.elim)) fun _ _ h'=>h'.elim);cases ok with
   | false=>exact wpAny_pure ⟨rfl,h3⟩
   | true=>
     exact wpAny_bind (wpAny_bind (wpAny_mono h3 (fun x s4 h4=>wpAny_bind (wpAny_mono h4 (fun _ s5 h5=>wpAny_pure (wpAny_pure ⟨rfl,h5⟩)) fun _ _ h'=>h'.elim)) fun _ _ h'=>h'.elim))
end
def RN (X:Cx) (ifs:List Expr) (t:TT):Prop:=
 ∀(pins:List (Addr×Obj)) (s:Shared) (σ:St) (H:Hp) (Q:Bool->Hp->Prop),Inv X pins σ H s->t σ H Q ->
  wpAny (model X.prog X.w) X.A (forIn ifs true fun c r=>if r=true then do let ok ←isTrue c X.env (eval c X.env);pure (ForInStep.yield ok) else pure (ForInStep.yield r)) (TP X pins σ Q) X.xe s
def P_:TT:=fun _ H Q=>Q true H
theorem eE {X:Cx}:RN X [] P_:=fun _ _ _ H _ I h=>wpAny_tests_nil ⟨H,I,h⟩
theorem mU {X:Cx} {c:Expr} {t:TT} (h:PT X c t):RN X [c] t:=fun pins s σ H Q I q=>wpAny_tests_one (h pins s σ H Q I q)
def mK (J:It) (g:TG) (tc:TT) (te:TE) (Q:VK) (D:Addr) (σ0:St) (H1:Hp):Prop:=
 ∃W:Nat->Nat->St->Hp->Prop,(∃m,W 0 m σ0 (upd H1 D (.lst []))) /\ ∀i m σ H,W i m σ H ->
  (J.stop i H/\Q (.ref D) H)\/(J.go i H /\ ∃N:St->Hp->Prop,(∀σ' H',N σ' H' -> ∃m',m'<m/\W (i+1) m' σ' H') /\ ∀x H',J.Ov i H x H'->g x σ H' fun σ2 H2=>tc σ2 H2 fun b H3=>
    if b=true then te σ2 H3 fun y H4=>∃acc,H4 D=some (.lst acc)/\acc.length<sizeLine/\N σ2 (upd H4 D (.lst (acc++[y]))) else N σ2 H3)
def yu (own:List Str) (caps:List Nat) (wi:TI) (g:TG) (tc:TT) (te:TE):TE:=fun σ H Q=>wi σ H fun J H1=>∀D,H1 D=none->mK J g tc te Q D (st0 own caps σ) H1
section
variable {X:Cx} {elt tg iter:Expr} {ifs:List Expr} {scope:Scope} {pos:Pos} {N own:List Str} {caps:List Nat} {wi:TI} {g:TG} {tc:TT} {te:TE}
theorem z7 {use:Option (Value->Sem Unit)} {Qv:Value->Shared->Prop} {pins:List (Addr×Obj)} {σ:St} {H:Hp} {s:Shared} {Q:VK} (hc:X.calm=true) (S:aQ N own caps X.N X.env.scope scope)
 (hg:∀C s H fp,PG (d_ X scope C N s H fp) tg g) (hcs:∀C s H fp,RN (d_ X scope C N s H fp) ifs tc) (he:∀C s H fp,PE (d_ X scope C N s H fp) elt te)
 (hi:PI X tg iter wi) (hs:∀x,foldedSetIterable iter X.env x=pure x)
 (I:Inv X pins σ H s) (h:yu own caps wi g tc te σ H Q)
 (fin:∀(D C:Addr) (H':Hp) (s':Shared),(∃m,s'.heap.Ns C m)->Inv X pins σ H' s'->(∀h',Heap.SameBut C s'.heap h'->Inv X pins σ H' {s' with heap:=h'})->jV X pins H' C->Q (.ref D) H' ->
   compPost (model X.prog X.w) X.A X.xe use Qv (.ref D) C (.ok .next) s'):
 wpAny (model X.prog X.w) X.A (comprehension (.ListComp elt [⟨tg,iter,ifs,0⟩] scope pos) scope X.env (firstIterPos [⟨tg,iter,ifs,0⟩] pos) (newList []) false (eval iter X.env) use) Qv X.xe s:=by
 refine wpAny_comprehension_free (use:=use) rfl hs (uo (S.ug I.ok)) S.kind S.names (cT (hi pins s σ H _ I h) fun xv s1 h1=>cT h1 fun itv s2 h2=> ?_);obtain ⟨it,fp,tn,J,H2,e,I2,T,st2,f2,q2⟩:=h2;subst e;refine wpAny_newList ?_;refine wpAny_newFunctionEnv S.JN (by intro y hy;simp at hy) (fun h1 Nq hsb1=> ?_) S.kind;dsimp only at Nq hsb1 ⊢;have hD:H2 s2.heap.objs.size=none:=I2.hok.fresh (Nat.le_refl _);have hsz:(s2.heap.push {cls:= .type "list",data:= .seq ([]:List Value).toArray}).objs.size=s2.heap.objs.size+1:=Heap.size_push ..
 have old:∀b o,s2.heap.get? b=some o->h1.get? b=some o:=fun b o e=>by
  refine hsb1.extBut b o (Nat.ne_of_lt (by have:=jC (Heap.lt_size e);rw [hsz];omega)) (Heap.get?_push_of_some _ (Heap.get?_push_of_some _ e))
 have hl:h1.get? s2.heap.objs.size=some {cls:= .type "list",data:= .seq #[]}:=
  hsb1.extBut _ _ (Nat.ne_of_lt (by rw [hsz];omega)) (Heap.get?_push_of_some _ (Heap.get?_push_size _ rfl))
 have hfo:∀b∈fp,∃o,s2.heap.get? b=some o:=fun b hb=>let ⟨o,e,_⟩:=T.obj _ _ st2 b hb;⟨o,e⟩
 have I4:=Inv.comp (C:=(s2.heap.push {cls:= .type "list",data:= .seq ([]:List Value).toArray}).objs.size) (t:=s2.toks+([]:List (Str×Value)).length) I2 S f2 hfo rfl hsz old Nq hl;obtain ⟨W,⟨m0,w0⟩,turn⟩:=q2 _ hD;generalize hCe:(s2.heap.push {cls:= .type "list",data:= .seq ([]:List Value).toArray}).objs.size=C at *;generalize hDe:s2.heap.objs.size=D at *;have hDC:D≠C:=by omega
 have loop:∀s3:Shared,s3={s2 with heap:=h1,toks:=s2.toks+([]:List (Str×Value)).length} ->
  codeAny (model X.prog X.w) X.A (.compLoop (.ListComp elt [⟨tg,iter,ifs,0⟩] scope pos) 0 (.ref it) (.ref D) (d_ X scope C N s2 H2 fp).env) (compPost (model X.prog X.w) X.A X.xe use Qv (.ref D) C) s3:=by
  rintro s3 rfl
  have lF:∀b∈fp,(upd H2 D (.lst [])) b=none:=fun b hb=>by
   obtain ⟨o,e⟩:=hfo b hb;rw [bA (Nat.ne_of_lt (by have:=jC (Heap.lt_size e);omega))];exact (f2 b hb).1
  have stat:∀{H':Hp},(∀b∈fp,H' b=none) -> ∀b∈fp,jV (d_ X scope C N s2 H2 fp) [] H' b:=fun hn b hb=>by
   obtain ⟨o,e⟩:=hfo b hb;have hlt:=jC (Heap.lt_size e);refine ⟨hn b hb, ?_,fun z=> ?_,.inl hb,fun x c e'=>(f2 b hb).2.2.2.2.1 x c (S.csub I2.ok e'),fun p hp=>(by cases hp)⟩
   ·exact Nat.ne_of_lt (show @LT.lt Nat _ b C by omega)
   ·rcases List.mem_cons.mp (I2.pG b z) with q|q
    ·exact (f2 b hb).2.1 q
    ·exact (f2 b hb).2.2.1 q
  refine oY (fun n s'=>∃i σ' H',Inv (d_ X scope C N s2 H2 fp) [] σ' H' s'/\tn i s'.heap/\(∀b∈fp,H' b=none)/\W i n σ' H') ?_ m0
   ⟨0,_,_,I4,T.keep _ _ _ st2 fun b _ o e=>old b o e,lF,w0⟩
  rintro n s3 ⟨i,σ3,H3,I3,st3,Pj,w3⟩;rcases turn i n σ3 H3 w3 with ⟨stop,qn⟩|⟨go,Nx,hNx,step⟩
  ·refine cT (T.done (d_ X scope C N s2 H2 fp) rfl rfl rfl hc i [] s3 σ3 H3 _ I3 (stat Pj) st3 stop) fun r s4 ⟨hr,J4⟩=> ?_
   subst hr;obtain ⟨m4,hn4,_⟩:=J4.loc;exact fin D C H3 s4 ⟨m4,hn4⟩ (I2.Io f2 (by omega) J4 (Heap.SameBut.refl _ _)) (fun h' hs'=>I2.Io f2 (by omega) J4 hs') (I2.tQ (show s2.heap.objs.size<=C by omega) J4.free) qn
  ·refine cT (T.item (d_ X scope C N s2 H2 fp) rfl rfl rfl hc i [] s3 σ3 H3 _ I3 (stat Pj) st3 go) fun r s4 ⟨u,hr,h4⟩=> ?_
   subst hr;refine cT h4 fun _ s5 ⟨x,H5,I5,r5,y5,uN,UL⟩=> ?_;have V6:=I5.pinned (stat UL) (T.obj _ _ uN);refine cT (hg C s2 H2 fp _ s5 σ3 H5 x u _ V6 r5 (step x H5 y5)) fun _ s6 ⟨σ6,H6,I6,q6⟩=> ?_;refine cT (hcs C s2 H2 fp _ s6 σ6 H6 _ I6 q6) fun ok s7 ⟨H7,I7,q7⟩=> ?_
   have again:∀{σ8:St} {H8:Hp} {s8:Shared},Inv (d_ X scope C N s2 H2 fp) ([]++pQ fp s5.heap) σ8 H8 s8->Nx σ8 H8 -> ∃m,m<n /\ ∃i σ' H',Inv (d_ X scope C N s2 H2 fp) [] σ' H' s8/\tn i s8.heap/\(∀b∈fp,H' b=none)/\W i m σ' H':=fun {σ8 H8 s8} I8 n8=>by
    obtain ⟨m',hm,w8⟩:=hNx _ _ n8;refine ⟨m',hm,i+1,σ8,H8,I8.lK,T.keep _ _ _ uN fun b hb o e=>(I8.pin (b,o) (List.mem_append_right _ (List.mem_append_right _ (g8 hb e)))).1,fun b hb=> ?_,w8⟩;obtain ⟨o,e,d⟩:=T.obj _ _ uN b hb;exact (I8.pin (b,o) (List.mem_append_right _ (List.mem_append_right _ (g8 hb e)))).2.1
   cases ok with
   | false=>
     rw [if_neg (by decide)] at q7;exact again I7 q7
   | true=>
     rw [if_pos rfl] at q7;refine cT (he C s2 H2 fp _ s7 σ6 H7 _ I7 q7) fun y s8 ⟨yv,H8,I8,r8,acc,ha,hlen,q8⟩=> ?_;exact cT (pU _ s8 σ6 H8 (.ref D) [yv] (.ref D) [y] (fun v H9=>Nx σ6 H9) I8 rfl (.cons r8 .nil) ⟨D,acc,yv,rfl,rfl,ha,hlen,q8⟩) fun _ s9 ⟨_,H9,I9,_,q9⟩=>again I9 q9
 exact codeAny_compStart_list (loop _ rfl) (T.self _ 0 _ _ _ (T.keep _ _ _ st2 fun b _ o e=>old b o e) (loop _ rfl))
theorem fO (hc:X.calm=true) (S:aQ N own caps X.N X.env.scope scope) (hi:PI X tg iter wi)
 (hg:∀C s H fp,PG (d_ X scope C N s H fp) tg g) (hcs:∀C s H fp,RN (d_ X scope C N s H fp) ifs tc) (he:∀C s H fp,PE (d_ X scope C N s H fp) elt te)
 (hs:∀x,foldedSetIterable iter X.env x=pure x:=by intro _;rfl):PE X (.ListComp elt [⟨tg,iter,ifs,0⟩] scope pos) (yu own caps wi g tc te):=by
 intro pins s σ H Q I h;rw [eval_ListComp];refine z7 (use:=none) hc S hg hcs he hi hs I h ?_;intro D C H' s' hn I' hk _ q;obtain ⟨m,hn⟩:=hn;exact ⟨m,hn,fun h' hs'=>⟨.ref D,H',hk h' hs',rfl,q⟩⟩
theorem j9 {i:Nat} {x:Str} {px sp:Pos} (hc:X.calm=true) (hN:X.N.Nodup) (hx:X.N[i]? = some x) (hl:Loc X.env.scope x) (S:aQ N own caps X.N X.env.scope scope) (hi:PI X tg iter wi)
 (hg:∀C s H fp,PG (d_ X scope C N s H fp) tg g) (hcs:∀C s H fp,RN (d_ X scope C N s H fp) ifs tc) (he:∀C s H fp,PE (d_ X scope C N s H fp) elt te)
 (hsw:swapsWith (.ListComp elt [⟨tg,iter,ifs,0⟩] scope pos) (some (.Name x px)) sp.line X.env=pure true:=by rfl)
 (hs:∀x,foldedSetIterable iter X.env x=pure x:=by intro _;rfl) (hf:X.fn x=true\/X.env.scope.names.lookup x=some .local:=by first |exact .inl rfl|exact .inr rfl|assumption):
 PS X (.Assign [.Name x px] (.ListComp elt [⟨tg,iter,ifs,0⟩] scope pos) sp) (P0 (yu own caps wi g tc te) (fG i)):=by
 intro pins s σ H D I h;rw [exec_Assign_Name_used _ _ _ _ hsw];refine wpAny_bind (wpAny_standAt (wpAny_bind ?_));show wpAny _ X.A (do let _ ←comprehension (.ListComp elt [⟨tg,iter,ifs,0⟩] scope pos) scope X.env (firstIterPos [⟨tg,iter,ifs,0⟩] pos) (newList []) false (eval iter X.env) (some (assign (.Name x px) X.env))) _ _ s;refine wpAny_bind (wpAny_mono (z7 (use:=some (assign (.Name x px) X.env)) (Qv:=fun _ s'=>SP X pins D .next s') hc S hg hcs he hi hs I h ?_) (fun _ s' hq=>wpAny_pure (wpAny_pure hq)) fun _ _ e=>e);intro E C H' s' hn I' hk fC q;obtain ⟨m,hn⟩:=hn;obtain ⟨f0,f1,f2,f3,f4,f5⟩:=fC;show wpAny _ X.A (assign (.Name x px) X.env (.ref E)) _ _ _;refine wpAny_assign_Name (vp I' hN hx hl (v:= .ref E) rfl (fun s2 I2 k=> ?_) hf);refine ⟨m, ?_,fun h' hs'=> ?_⟩
 ·obtain ⟨o,es,ep,ho,r⟩:=hn
  obtain ⟨a,ks,ka⟩:=k
  have hCa:C≠a:=fun z=>by
   rcases ka with q'|q'
   ·exact f1 (z.trans q')
   ·exact f4 x a q' z.symm
  exact ⟨o,es,ep,(ks.2 C hCa).trans ho,r⟩
 ·exact ⟨_,H',I2.turned (t':=s2.toks) (fun b o hb e=>(hs'.2 b hb).trans e) f0 f1 f3 f4 f5,q⟩
end
def Kq (N own:List Str) (caps:List Nat) (XN:List Str) (outer scope:Scope):Bool:=
 decide (scope.kind = .function)&&scope.names.all (fun y=>decide (y.2 ≠ .cell))&&scope.names.all (fun y=>decide (y.2 ≠ .local)||decide (scope.names.lookup y.1=some .local)) &&
 scope.names.all (fun y=>decide (y.2 ≠ .free)||decide (outer.names.lookup y.1=some .cell)||decide (outer.names.lookup y.1=some .free))&&decide N.Nodup&&decide (N.length=own.length+caps.length) &&
 (List.range caps.length).all (fun j=>match N[own.length+j]? with |some x=>decide (XN[caps.getD j 0]? = some x)&&decide ((x,NameKind.free)∈scope.names)&&decide (scope.names.lookup x=some .free)|none=>false)
theorem aQ.of {N own:List Str} {caps:List Nat} {XN:List Str} {outer scope:Scope} (h:Kq N own caps XN outer scope=true):aQ N own caps XN outer scope:=by
 unfold Kq at h;simp only [Bool.and_eq_true,decide_eq_true_eq,List.all_eq_true,Bool.or_eq_true] at h;obtain ⟨⟨⟨⟨⟨⟨h1,h2⟩,h3⟩,h4⟩,h5⟩,h6⟩,h7⟩:=h;refine ⟨h1,h2,fun y hy e=> ?_,fun y hy e=> ?_,h5,h6,fun j hj=> ?_⟩
 ·rcases h3 y hy with z|z
  ·exact absurd e z
  ·exact z
 ·rcases h4 y hy with (z|z)|z
  ·exact absurd e z
  ·exact .inl z
  ·exact .inr z
 ·have q:=h7 j (List.mem_range.mpr hj)
  cases e:N[own.length+j]? with
  | none=>rw [e] at q;cases q
  | some x=>
    rw [e] at q;simp only [Bool.and_eq_true,decide_eq_true_eq] at q;exact ⟨q.1.1.symm,x,rfl,q.1.2,q.2⟩
end L2
set_option Elab.async false
set_option linter.all false
set_option maxRecDepth 100000
set_option maxHeartbeats 4000000
namespace L2
open PySem PySem.Spec PyProof.Rows
mutual
def Dat (H:Hp):V->PyData->Prop
 | v,.none=>v = .non
 | v,.bool b=>v = .bl b
 | v,.int i=>v = .int i
 | v,.str x=>v = .str x
 | v,.list ds=>∃a vs,v = .ref a/\H a=some (.lst vs)/\aD H vs ds
 | v,.tuple ds=>∃a vs,v = .ref a/\H a=some (.tup vs)/\aD H vs ds
 | _,.dict _=>False
def aD (H:Hp):List V->List PyData->Prop
 | [],[]=>True
 | v::vs,d::ds=>Dat H v d/\aD H vs ds
 | [],_::_=>False
 | _::_,[]=>False
end
section
variable {H H':Hp}
theorem aD.length:∀{vs:List V} {ds:List PyData},aD H vs ds->vs.length=ds.length
 | [],[],_=>rfl
 | _::_,_::_,h=>by simp only [aD] at h;simp [aD.length h.2]
 | [],_::_,h=>by simp only [aD] at h
 | _::_,[],h=>by simp only [aD] at h
theorem aD.get:∀{vs:List V} {ds:List PyData} {i:Nat} {v:V},aD H vs ds->vs[i]? = some v -> ∃d,ds[i]? = some d/\Dat H v d
 | _::_,_::_,0,_,h,e=>by simp only [aD] at h;simp at e;subst e;exact ⟨_,rfl,h.1⟩
 | _::_,_::_,i+1,_,h,e=>by simp only [aD] at h;simp at e;obtain ⟨d,q,r⟩:=aD.get h.2 e;exact ⟨d,by simpa using q,r⟩
 | [],[],_,_,_,e=>by simp at e
 | [],_::_,_,_,h,_=>by simp only [aD] at h
 | _::_,[],_,_,h,_=>by simp only [aD] at h
theorem aD.getD:∀{vs:List V} {ds:List PyData} {i:Nat} {d:PyData},aD H vs ds->ds[i]? = some d -> ∃v,vs[i]? = some v/\Dat H v d
 | _::_,_::_,0,_,h,e=>by simp only [aD] at h;simp at e;subst e;exact ⟨_,rfl,h.1⟩
 | _::_,_::_,i+1,_,h,e=>by simp only [aD] at h;simp at e;obtain ⟨d,q,r⟩:=aD.getD h.2 e;exact ⟨d,by simpa using q,r⟩
 | [],[],_,_,_,e=>by simp at e
 | [],_::_,_,_,h,_=>by simp only [aD] at h
 | _::_,[],_,_,h,_=>by simp only [aD] at h
theorem aD.append:∀{vs ws:List V} {ds es:List PyData},aD H vs ds->aD H ws es->aD H (vs++ws) (ds++es)
 | [],_,[],_,_,g=>g
 | _::_,_,_::_,_,h,g=>by simp only [aD,List.cons_append] at h ⊢;exact ⟨h.1,aD.append h.2 g⟩
 | [],_,_::_,_,h,_=>by simp only [aD] at h
 | _::_,_,[],_,h,_=>by simp only [aD] at h
theorem aD.take:∀{vs:List V} {ds:List PyData} (n:Nat),aD H vs ds->aD H (vs.take n) (ds.take n)
 | _,_,0,_=>by simp only [List.take_zero,aD]
 | [],[],_+1,_=>by simp only [List.take_nil,aD]
 | _::_,_::_,n+1,h=>by simp only [aD,List.take_succ_cons] at h ⊢;exact ⟨h.1,aD.take n h.2⟩
 | [],_::_,_+1,h=>by simp only [aD] at h
 | _::_,[],_+1,h=>by simp only [aD] at h
theorem aD.drop:∀{vs:List V} {ds:List PyData} (n:Nat),aD H vs ds->aD H (vs.drop n) (ds.drop n)
 | _,_,0,h=>by simpa using h
 | [],[],_+1,_=>by simp only [List.drop_nil,aD]
 | _::_,_::_,n+1,h=>by simp only [aD,List.drop_succ_cons] at h ⊢;exact aD.drop n h.2
 | [],_::_,_+1,h=>by simp only [aD] at h
 | _::_,[],_+1,h=>by simp only [aD] at h
theorem aD.ints (ns:List Int):aD H (ns.map V.int) (ns.map PyData.int):=by
 induction ns with
 | nil=>simp only [List.map_nil,aD]
 | cons n r ih=>simp only [List.map_cons,aD,Dat];exact ⟨trivial,ih⟩
mutual
theorem Dat.mono (hl:∀a xs,H a=some (HO.lst xs)->H' a=some (HO.lst xs)) (ht:∀a xs,H a=some (HO.tup xs)->H' a=some (HO.tup xs)):∀(d:PyData) {v:V},Dat H v d->Dat H' v d
 | .none,_,h=>by simp only [Dat] at h ⊢;exact h
 | .bool _,_,h=>by simp only [Dat] at h ⊢;exact h
 | .int _,_,h=>by simp only [Dat] at h ⊢;exact h
 | .str _,_,h=>by simp only [Dat] at h ⊢;exact h
 | .list ds,_,h=>by simp only [Dat] at h ⊢;obtain ⟨a,vs,e,q,r⟩:=h;exact ⟨a,vs,e,hl _ _ q,aD.mono hl ht ds r⟩
 | .tuple ds,_,h=>by simp only [Dat] at h ⊢;obtain ⟨a,vs,e,q,r⟩:=h;exact ⟨a,vs,e,ht _ _ q,aD.mono hl ht ds r⟩
 | .dict _,_,h=>by simp only [Dat] at h
theorem aD.mono (hl:∀a xs,H a=some (HO.lst xs)->H' a=some (HO.lst xs)) (ht:∀a xs,H a=some (HO.tup xs)->H' a=some (HO.tup xs)):∀(ds:List PyData) {vs:List V},aD H vs ds->aD H' vs ds
 | [],[],_=>by simp only [aD]
 | d::ds,v::vs,h=>by simp only [aD] at h ⊢;exact ⟨Dat.mono hl ht d h.1,aD.mono hl ht ds h.2⟩
 | _::_,[],h=>by simp only [aD] at h
 | [],_::_,h=>by simp only [aD] at h
end
mutual
def Ld:PyData->Bool
 | .tuple ds=>zF ds
 | .list _ | .dict _=>false
 | .none | .bool _ | .int _ | .str _=>true
def zF:List PyData->Bool
 | []=>true
 | d::ds=>Ld d&&zF ds
end
mutual
theorem Dat.keep (ht:∀a xs,H a=some (HO.tup xs)->H' a=some (HO.tup xs)):∀(d:PyData) {v:V},Ld d=true->Dat H v d->Dat H' v d
 | .none,_,_,h=>by simp only [Dat] at h ⊢;exact h
 | .bool _,_,_,h=>by simp only [Dat] at h ⊢;exact h
 | .int _,_,_,h=>by simp only [Dat] at h ⊢;exact h
 | .str _,_,_,h=>by simp only [Dat] at h ⊢;exact h
 | .list ds,_,i,h=>by simp only [Ld] at i;cases i
 | .tuple ds,_,i,h=>by simp only [Dat] at h ⊢;simp only [Ld] at i;obtain ⟨a,vs,e,q,r⟩:=h;exact ⟨a,vs,e,ht _ _ q,aD.keep ht ds i r⟩
 | .dict _,_,_,h=>by simp only [Dat] at h
theorem aD.keep (ht:∀a xs,H a=some (HO.tup xs)->H' a=some (HO.tup xs)):∀(ds:List PyData) {vs:List V},zF ds=true->aD H vs ds->aD H' vs ds
 | [],[],_,_=>by simp only [aD]
 | d::ds,v::vs,i,h=>by simp only [aD] at h ⊢;simp only [zF,Bool.and_eq_true] at i;exact ⟨Dat.keep ht d i.1 h.1,aD.keep ht ds i.2 h.2⟩
 | _::_,[],_,h=>by simp only [aD] at h
 | [],_::_,_,h=>by simp only [aD] at h
end
theorem aX {α:Type} (f:α->PyData) (h:∀x,Ld (f x)=true):∀l:List α,zF (l.map f)=true
 | []=>rfl
 | a::l=>by simp only [List.map_cons,zF,h a,aX f h l,Bool.and_self]
end
section
variable {X:Cx} {pins:List (Addr×Obj)} {σ:St} {H:Hp} {s:Shared}
mutual
theorem Inv.reads (I:Inv X pins σ H s):∀(d:PyData) {v:V} {u:Value},Dat H v d->RelV v u -> ∃as,Reads s.heap u d as
 | .none,v,u,h,r=>by
   simp only [Dat] at h;subst h;cases (show u=Value.none from r);exact ⟨_,.none⟩
 | .bool b,v,u,h,r=>by
   simp only [Dat] at h;subst h;cases (show u=Value.bool b from r);exact ⟨_,.bool b⟩
 | .int i,v,u,h,r=>by
   simp only [Dat] at h;subst h;obtain ⟨t,q⟩:=(show ∃t,u=Value.int i t from r);cases q;exact ⟨_,.int i t⟩
 | .str x,v,u,h,r=>by
   simp only [Dat] at h;subst h;obtain ⟨t,q⟩:=(show ∃t,u=Value.str x t from r);cases q;exact ⟨_,.str x t⟩
 | .list ds,v,u,h,r=>by
   simp only [Dat] at h;obtain ⟨a,vs,rfl,q,g⟩:=h;cases (show u=Value.ref a from r);obtain ⟨its,rv,p,hz⟩:=I.list (aW.of q);obtain ⟨o,ho,hc,n,hd⟩:=p.isList;obtain ⟨as,ra⟩:=Inv.readsAll I ds g rv;exact ⟨_,.list ho hc hd (by simpa using ra)⟩
 | .tuple ds,v,u,h,r=>by
   simp only [Dat] at h;obtain ⟨a,vs,rfl,q,g⟩:=h;cases (show u=Value.ref a from r);obtain ⟨its,rv,p,hz⟩:=I.tuple (cu.of q);obtain ⟨o,ho,hc,n,hd⟩:=p;obtain ⟨as,ra⟩:=Inv.readsAll I ds g rv;exact ⟨_,.tuple ho hc hd (by simpa using ra)⟩
 | .dict _,_,_,h,_=>by simp only [Dat] at h
theorem Inv.readsAll (I:Inv X pins σ H s):∀(ds:List PyData) {vs:List V} {us:List Value},aD H vs ds->Vals vs us -> ∃as,ReadsAll s.heap us ds as
 | [],[],_,_,.nil=>⟨_,.nil⟩
 | d::ds,v::vs,_,h,.cons r rs=>by
   simp only [aD] at h;obtain ⟨as,ra⟩:=Inv.reads I d h.1 r;obtain ⟨bs,rb⟩:=Inv.readsAll I ds h.2 rs;exact ⟨_,.cons ra rb⟩
 | _::_,[],_,h,_=>by simp only [aD] at h
 | [],_::_,_,h,_=>by simp only [aD] at h
end
theorem Kv {c:Value} {cv:V} (rc:RelV cv c):jG X (.builtin "isinstance") (fun xs H Q=>∃x t b,xs=[x,cv]/\o9 X.K H x t/\PySem.W.kitOne X.K t c=some b/\Q (.bl b) H):=by
 intro pins s σ H xs us Q I r h;obtain ⟨x,t,b,rfl,ty,e,q⟩:=h;obtain ⟨u,w',rfl,r1,r2⟩:=vals2 r
 have:w'=c:=by
  cases cv with
  | non=>exact (show w'=Value.none from r2).trans (show c=Value.none from rc).symm
  | bl b=>exact (show w'=Value.bool b from r2).trans (show c=Value.bool b from rc).symm
  | ref a=>exact (show w'=Value.ref a from r2).trans (show c=Value.ref a from rc).symm
  | ty n=>exact (show w'=Value.type n from r2).trans (show c=Value.type n from rc).symm
  | int i=>obtain ⟨t1,rfl⟩:=(show ∃t,c=Value.int i t from rc);unfold PySem.W.kitOne at e;exact absurd e (by cases ty<;>simp [PySem.W.kitCls])
  | str i=>obtain ⟨t1,rfl⟩:=(show ∃t,c=Value.str i t from rc);unfold PySem.W.kitOne at e;exact absurd e (by cases ty<;>simp [PySem.W.kitCls])
  | EY i=>obtain ⟨t1,rfl⟩:=(show ∃t,c=Value.bytes i t from rc);unfold PySem.W.kitOne at e;exact absurd e (by cases ty<;>simp [PySem.W.kitCls])
  | flt i=>obtain ⟨t1,rfl⟩:=(show ∃t,c=Value.float i t from rc);unfold PySem.W.kitOne at e;exact absurd e (by cases ty<;>simp [PySem.W.kitCls])
 subst this;exact GC I r1 ty e fun tk=>⟨.bl b,H,I.tok _,rfl,q⟩
end
section
variable {prog:Program} {w:World} {A:Around}
theorem Ax (hh:A.handled=none) (it a:Addr) (hne:it≠a) (its:List Value):Walks prog w A it [it,a] [it] its.length (fun i v=>its[i]? = some v) (fun i h=>h.IsListIter it a i/\h.IsList a its.toArray) where
 sub:=by simp
 frame:=fun i h h' ⟨s1,o,ho,hc⟩ k=>⟨s1.at fun o e=>k it (by simp) o e,o,k a (by simp) o ho,hc⟩
 item:=fun i s Q E hi ⟨s1,s2⟩ hQ=>wpAny_pyNext_list_item s1 s2 (x:=its[i]) (by simp [hi]) fun h' st' sb=>
  hQ _ h' s.toks (by simp [hi]) ⟨st',s2.extBut sb.extBut hne.symm⟩ fun b o hb e=>(sb.2 b (by simpa using hb)).trans e
 done:=fun s Q E ⟨s1,s2⟩ hQ=>wpAny_pyNext_list_end hh s1 s2 (by simp) fun h' eb=>hQ h' s.toks fun b o hb e=>eb b o (by simpa using hb) e
 self:=fun i s Q E ⟨s1,_⟩ hQ=>wpAny_pyIter_listiter s1 hQ
end
section
variable {X:Cx}
theorem uT (bs:List Bool):(List.range bs.length).all (fun i=>(bs[i]?).getD false)=bs.all id:=by
 rw [Bool.eq_iff_iff,List.all_eq_true,List.all_eq_true];constructor
 ·intro h b hb
  obtain ⟨i,hi,rfl⟩:=List.getElem_of_mem hb;have:=h i (by simpa using hi);simpa [hi] using this
 ·intro h i hi
  have hi':i<bs.length:=by simpa using hi
  simpa [hi'] using h bs[i] (List.getElem_mem hi')
theorem Az {bs:List Bool}:∀{us:List Value},Vals (bs.map V.bl) us->us=bs.map Value.bool:=by
 induction bs with
 | nil=>intro us r;cases r;rfl
 | cons b bs ih=>
   intro us r;cases r with
   | cons r rs=>cases (show _=Value.bool b from r);rw [ih rs];rfl
theorem uw (hc:X.calm=true):jG X (.builtin "all") (fun xs H Q=>∃(p:Addr) (bs:List Bool),xs=[.ref p]/\aW X.K H p (bs.map V.bl)/\Q (.bl (bs.all id)) H):=by
 intro pins s σ H xs us Q I r h;obtain ⟨p,bs,rfl,hq,q⟩:=h;obtain ⟨u,rfl,rx⟩:=vals1 r;cases rx;obtain ⟨its,rv,pl,hz⟩:=I.list hq;have e:=Az rv;have hlen:its.length=bs.length:=by rw [e,List.length_map]
 refine call_all_walk (wpAny_pyIter_list pl.isList ⟨s.heap.objs.size,[s.heap.objs.size,p],[s.heap.objs.size],its.length,_,_,fun i=>(bs[i]?).getD false,rfl,
  Ax (show X.A.in1.handled=none from I.ok.hd hc) s.heap.objs.size p ?_ its,⟨⟨_,Heap.get?_push_size _ rfl,rfl,rfl⟩, ?_⟩, ?_, ?_⟩)
 ·intro z
  obtain ⟨o,ho,_⟩:=pl.isList;have:=Heap.lt_size ho;rw [←z] at this;exact Nat.lt_irrefl _ this
 ·obtain ⟨o,ho,hcl⟩:=pl.isList
  exact ⟨o,Heap.get?_push_of_some _ ho,hcl⟩
 ·intro i v s1 Q1 E1 hP hQ
  rw [e,List.getElem?_map] at hP;cases r:bs[i]? with
  | none=>rw [r] at hP;cases hP
  | some b=>
    rw [r] at hP;cases hP;simp only [r,Option.getD_some] at hQ;exact wpAny_truthy_bool hQ
 ·intro h' tk k
  rw [hlen,uT];have f:=I.tQ (H':=H) (b:=s.heap.objs.size) (Nat.le_refl _) (I.hok.fresh (Nat.le_refl _));have I2:Inv X pins σ H {s with heap:=h',toks:=tk}:=I.turned (h':=h') (t':=tk) (it:=s.heap.objs.size) (fun b o hb e=>k b o (by simpa using hb) (Heap.get?_push_of_some _ e)) f.1 f.2.1 f.2.2.2.1 f.2.2.2.2.1 f.2.2.2.2.2;exact ⟨.bl _,H,I2,rfl,q⟩
end
end L2
set_option Elab.async false
set_option linter.all false
set_option maxRecDepth 100000
set_option maxHeartbeats 4000000
namespace L2
open PySem PySem.Spec PyProof.Rows
def FnAt (P:Program) (w:World) (K:PySem.W.Frag) (mg:Str->Option Value) (base:Heap) (k:Nat) (x:Str) (ps:List Str) (sp:Sp):Prop:=
 ∃f fd,cY P w K mg base jM k f fd ps sp/\mg x=some (.ref f)/\PySem.W.keepIn K (.ref f)=true/\Binds K fd ps []
section
variable {X:Cx} {k j:Nat} {x:Str} {ps:List Str} {sp:Sp} {e:Expr} {es:List Expr} {t:TA} {p pos:Pos}
theorem aU (F:FnAt X.prog X.w X.K X.mg X.base k x ps sp) (hr:kW k X.A) (hg:Gl X x) (ha:PA X (e::es) t) (hd:(x==("__debug__" :Str))=false:=by decide)
 (he:starEach (e::es) X.env=(false,eval e X.env)::starEach es X.env:=by rfl) (hpl:(backTo pos (starEach es X.env)).any (·.1)=false:=by rfl):
 PE X (.Call (.Name x p) (e::es) [] pos) (OD sp [] E0 t):=by
 obtain ⟨f,fd,G,hm,hk,hb⟩:=F;exact Ms G hr hg hm hk hb .nil TJ ha (hdb:=hd) (he:=he) (hpl:=hpl)
end
theorem uz:bootBuiltins "all" = some (.builtin "all"):=by kernel_rfl
theorem eV:bootBuiltins "len" = some (.builtin "len"):=by kernel_rfl
theorem xu:bootBuiltins "max" = some (.builtin "max"):=by kernel_rfl
theorem qb:bootBuiltins "sorted" = some (.builtin "sorted"):=by kernel_rfl
theorem bJ:bootBuiltins "isinstance" = some (.builtin "isinstance"):=by kernel_rfl
theorem Kw:bootBuiltins "int" = some (.type "int"):=by kernel_rfl
theorem E_:bootBuiltins "bool" = some (.type "bool"):=by kernel_rfl
theorem jF:bootBuiltins "list" = some (.type "list"):=by kernel_rfl
theorem oZ:bootBuiltins "tuple" = some (.type "tuple"):=by kernel_rfl
section
variable {X:Cx}
end
def Kp (r:Addr) (H H':Hp):Prop:=∀b o,H b=some o->b≠r->H' b=some o
theorem Kp.of_same {r:Addr} {H H':Hp} (h:Same H H'):Kp r H H':=fun b o e _=>h b o e
theorem Kp.trans {r:Addr} {H H1 H2:Hp} (a:Kp r H H1) (b:Kp r H1 H2):Kp r H H2:=fun c o h n=>b c o (a c o h n) n
theorem Kp.refl (r:Addr) (H:Hp):Kp r H H:=fun _ _ h _=>h
theorem Kp.set {r:Addr} {H:Hp} {o:HO}:Kp r H (upd H r o):=fun b u e n=>by rw [bA n];exact e
theorem aC {H:Hp} {p:Addr} {o:HO} (h:H p=none):Same H (upd H p o):=fun b u e=>by rw [bA (aB e h)];exact e
theorem Same.tups {H H':Hp} (e:Same H H'):∀a xs,H a=some (HO.tup xs)->H' a=some (HO.tup xs):=fun a xs h=>e _ _ h
theorem Same.Wi {K:PySem.W.Frag} {H H':Hp} (e:Same H H'):∀a xs,aW K H a xs->aW K H' a xs:=fun a xs h=>e.seq h
theorem Kp.tups {H H':Hp} {r:Addr} {ys:List V} (e:Kp r H H') (hr:H r=some (.lst ys)):∀a xs,H a=some (HO.tup xs)->H' a=some (HO.tup xs):=fun a xs h=>e _ _ h (k_ h hr (by intro z;cases z))
theorem Kp.tups' {H H':Hp} {r:Addr} {kvs:List (Key×V)} (e:Kp r H H') (hr:H r=some (.dK kvs)):∀a xs,H a=some (HO.tup xs)->H' a=some (HO.tup xs):=fun a xs h=>e _ _ h (k_ h hr (by intro z;cases z))
end L2
namespace L2
open PySem PySem.Spec PyProof.Rows
section
variable {X:Cx} {K:PySem.W.Frag}
theorem aK (h:X.K=K):HY X (Qo K):=by subst h;exact Ek
theorem aL (h:X.K=K):HY X (wD K):=by subst h;exact JZ
theorem Ej (h:X.K=K):HY X (rIx K):=by subst h;exact Q9
theorem oF (h:X.K=K):VF X (Tr K):=by subst h;exact Lw
theorem mQ (h:X.K=K):VF X (Tq K):=by subst h;exact Qf
def Zr (K:PySem.W.Frag):List V->Hp->VK->Prop:=fun xs H Q=>∃(p:Addr) (ys:List V),xs=[.ref p]/\(aW K H p ys\/cu K H p ys)/\Q (.int ys.length) H
theorem aZ (h:X.K=K):jG X (.builtin "len") (Zr K):=by subst h;exact xq
def LC (K:PySem.W.Frag):List V->Hp->VK->Prop:=fun xs H Q=>∃(p:Addr) (ys:List V),xs=[.ref p]/\(aW K H p ys\/cu K H p ys) /\ ∀l,H l=none->Q (.ref l) (upd H l (.lst ys))
theorem iG (h:X.K=K):jG X (.type "list") (LC K):=by subst h;exact xg
def Tz (K:PySem.W.Frag):List V->Hp->VK->Prop:=fun xs H Q=>∃(p:Addr) (bs:List Bool),xs=[.ref p]/\aW K H p (bs.map V.bl)/\Q (.bl (bs.all id)) H
theorem d7 (h:X.K=K) (hc:X.calm=true):jG X (.builtin "all") (Tz K):=by subst h;exact uw hc
theorem cI {tg l:Expr} {tl:TE} (h:X.K=K) (hl:PE X l tl):PI X tg l (Pg K tl):=by subst h;exact Mj hl
theorem Mi {tg l:Expr} {tl:TE} (h:X.K=K) (hl:PE X l tl):PI X tg l (Ui K tl):=by subst h;exact Qs hl
def Zt (K:PySem.W.Frag) (c:Value) (cv:V):List V->Hp->VK->Prop:=fun xs H Q=>∃x t b,xs=[x,cv]/\o9 K H x t/\PySem.W.kitOne K t c=some b/\Q (.bl b) H
theorem d9 {c:Value} {cv:V} (h:X.K=K) (rc:RelV cv c):jG X (.builtin "isinstance") (Zt K c cv):=by subst h;exact Kv rc
theorem dU {o e:Expr} {to:TE} {t:TA} {apos cpos:Pos} (h:X.K=K) (ho:PE X o to) (ha:PA X [e] t)
 (hbase:attributeBase o "append" X.env (eval o X.env)=eval o X.env:=by rfl)
 (hfew:((backTo cpos (starEach [e] X.env)).all (fun x=> !x.1)&&(backToKw cpos (keywordEach [] X.env)).all (fun x=>x.1.isSome)
   && decide (([e]:List Expr).length+([]:List Keyword).length+(if ([]:List Keyword).isEmpty then 0 else 1)<30))=true:=by rfl)
 (hline:(apos.endLine==cpos.line)=true:=by rfl) (hs:starEach [e] X.env=(false,eval e X.env)::starEach [] X.env:=by rfl) (hplain:(backTo cpos (starEach [] X.env)).any (·.1)=false:=by rfl):
 PE X (.Call (.Attribute o "append" apos) [e] [] cpos) (Yz K "list" DP to t):=by
 subst h;exact O7 PySem.F.plainAttrs_list PySem.F.slot_list_append PySem.F.type_list_append pU ho ha hbase hfew hline hs hplain
end
end L2
namespace L2
open PySem
section
variable {K:PySem.W.Frag} {a D:Addr} {xs:List V} {g:TG} {tc:TT} {te:TE} {Q:VK} {σ0:St} {H1:Hp}
theorem m_ (Pv:Nat->St->Hp->Prop) (h0:Pv 0 σ0 (upd H1 D (.lst []))) (hl:∀i σ H,i<=xs.length->Pv i σ H->aW K H a xs)
 (hs:∀i x σ H,xs[i]? = some x->Pv i σ H->g x σ H fun σ2 H2=>tc σ2 H2 fun b H3=>
   if b=true then te σ2 H3 fun y H4=>∃acc,H4 D=some (.lst acc)/\acc.length<sizeLine/\Pv (i+1) σ2 (upd H4 D (.lst (acc++[y]))) else Pv (i+1) σ2 H3)
 (hd:∀σ H,Pv xs.length σ H->Q (.ref D) H):mK (Oq K a) g tc te Q D σ0 H1:=by
 refine ⟨fun i m σ H=>m=xs.length - i/\i<=xs.length/\Pv i σ H,⟨xs.length,by simp,Nat.zero_le _,h0⟩, ?_⟩;rintro i m σ H ⟨rfl,hi,p⟩;have q:=hl i σ H hi p
 by_cases hlt:i<xs.length
 ·refine .inr ⟨⟨xs,xs[i],q,by simp [hlt]⟩,Pv (i+1),fun σ' H' p'=>⟨xs.length - (i+1),by omega,rfl,hlt,p'⟩,fun x H' y=> ?_⟩
  obtain ⟨e,y⟩:=y;subst e;exact hs i x σ _ (y xs q) p
 ·have e:i=xs.length:=by omega
  subst e;exact .inl ⟨⟨xs,q,Nat.le_refl _⟩,hd σ H p⟩
theorem Ko (Pv:Nat->St->Hp->Prop) (h0:Pv 0 σ0 (upd H1 D (.lst []))) (hl:∀i σ H,i<=xs.length->Pv i σ H->cu K H a xs)
 (hs:∀i x σ H,xs[i]? = some x->Pv i σ H->g x σ H fun σ2 H2=>tc σ2 H2 fun b H3=>
   if b=true then te σ2 H3 fun y H4=>∃acc,H4 D=some (.lst acc)/\acc.length<sizeLine/\Pv (i+1) σ2 (upd H4 D (.lst (acc++[y]))) else Pv (i+1) σ2 H3)
 (hd:∀σ H,Pv xs.length σ H->Q (.ref D) H):mK (Ym K a) g tc te Q D σ0 H1:=by
 refine ⟨fun i m σ H=>m=xs.length - i/\i<=xs.length/\Pv i σ H,⟨xs.length,by simp,Nat.zero_le _,h0⟩, ?_⟩;rintro i m σ H ⟨rfl,hi,p⟩;have q:=hl i σ H hi p
 by_cases hlt:i<xs.length
 ·refine .inr ⟨⟨xs,xs[i],q,by simp [hlt]⟩,Pv (i+1),fun σ' H' p'=>⟨xs.length - (i+1),by omega,rfl,hlt,p'⟩,fun x H' y=> ?_⟩
  obtain ⟨e,y⟩:=y;subst e;exact hs i x σ _ (y xs q) p
 ·have e:i=xs.length:=by omega
  subst e;exact .inl ⟨⟨xs,q,Nat.le_refl _⟩,hd σ H p⟩
theorem uh {lo:Int} {n:Nat} (Pv:Nat->St->Hp->Prop) (h0:Pv 0 σ0 (upd H1 D (.lst [])))
 (hs:∀i σ H,i<n->Pv i σ H->g (.int (lo+i)) σ H fun σ2 H2=>tc σ2 H2 fun b H3=>
   if b=true then te σ2 H3 fun y H4=>∃acc,H4 D=some (.lst acc)/\acc.length<sizeLine/\Pv (i+1) σ2 (upd H4 D (.lst (acc++[y]))) else Pv (i+1) σ2 H3)
 (hd:∀σ H,Pv n σ H->Q (.ref D) H):mK (Pu lo n) g tc te Q D σ0 H1:=by
 refine ⟨fun i m σ H=>m=n - i/\i<=n/\Pv i σ H,⟨n,by simp,Nat.zero_le _,h0⟩, ?_⟩;rintro i m σ H ⟨rfl,hi,p⟩
 by_cases hlt:i<n
 ·refine .inr ⟨hlt,Pv (i+1),fun σ' H' p'=>⟨n - (i+1),by omega,rfl,hlt,p'⟩,fun x H' y=> ?_⟩
  obtain ⟨e,y⟩:=y;subst e y;exact hs i σ _ hlt p
 ·have e:i=n:=by omega
  subst e;exact .inl ⟨Nat.le_refl _,hd σ H p⟩
end
end L2
set_option Elab.async false
set_option linter.all false
set_option maxRecDepth 100000
set_option maxHeartbeats 4000000
namespace L2
open PySem PySem.Spec PyProof.Rows
section
variable {α:Type} (f:α->PyData)
end
theorem oX {H:Hp} {a:Addr} {vs:List V} {ds:List PyData} (h:H a=some (.lst vs)) (d:aD H vs ds):Dat H (.ref a) (.list ds):=by
 simp only [Dat];exact ⟨a,vs,rfl,h,d⟩
theorem qw (K:PySem.W.Frag):PySem.W.kitOne K (.type "int") (.type "int")=some true:=rfl
theorem oO (K:PySem.W.Frag):PySem.W.kitOne K (.type "int") (.type "bool")=some false:=by kernel_rfl
theorem jJ (K:PySem.W.Frag):PySem.W.kitOne K (.type "list") (.type "list")=some true:=rfl
theorem iT (K:PySem.W.Frag):PySem.W.kitOne K (.type "tuple") (.type "tuple")=some true:=rfl
end L2
namespace L2
open PySem
theorem uc (xs:List V) (k:Nat):jA xs none (some (k:Int))=xs.take k:=by
 unfold jA;rw [HT.yG,HT.Dz,List.drop_zero,Nat.sub_zero]
 by_cases h:k<=xs.length
 ·rw [Nat.min_eq_left h]
 ·rw [Nat.min_eq_right (by omega),List.take_of_length_le (Nat.le_refl _),List.take_of_length_le (by omega)]
theorem uf (xs:List V) (k:Nat):jA xs (some (k:Int)) none=xs.drop k:=by
 unfold jA;rw [HT.yG,HT.Dz]
 by_cases h:k<=xs.length
 ·rw [Nat.min_eq_left h,List.take_of_length_le (by rw [List.length_drop];exact Nat.le_refl _)]
 ·rw [Nat.min_eq_right (by omega),Nat.sub_self,List.take_zero,List.drop_of_length_le (by omega)]
end L2
set_option Elab.async false
set_option linter.all false
set_option maxRecDepth 100000
set_option maxHeartbeats 4000000
namespace PySem.W
open PySem PySem.Spec PySem.Calls PyProof.Rows
section
variable {prog:Program} {w:World} {A:Around} {E:Value->Shared->Prop} {s:Shared} {K:Frag} {x D:Addr} {ox:Obj} {odo:Option Obj} {name:Str}
end
end PySem.W
set_option Elab.async false
set_option linter.all false
set_option maxRecDepth 100000
set_option maxHeartbeats 4000000
namespace L2
open PySem PySem.Spec PyProof.Rows
def ad7 (h:Heap) (e:Addr) (cls:Value) (dx:Option Addr) (lo:Addr->Prop):Option Value->Prop
 | none=>∃oe vs,h.get? e=some oe/\oe.cls=cls/\oe.dict=dx/\oe.data = .fields vs/\vs[1]? = some .none
 | some f=>∃oe vs T oT ts,h.get? e=some oe/\oe.cls=cls/\oe.dict=dx/\oe.data = .fields vs/\vs[1]? = some (.ref T)/\lo T/\T≠e/\h.get? T=some oT/\oT.data = .fields ts/\ts[3]? = some f
section
variable {M:Model} {A:Around} {E:Value->Shared->Prop} {s:Shared} {base:Heap} {env:Env} {outer:List Env} {L e:Addr}
end
section
variable {X:Cx} {pins:List (Addr×Obj)} {σ:St} {H:Hp} {s:Shared} {e:Addr}
def XFp (X:Cx) (pins:List (Addr×Obj)) (H:Hp) (b:Addr):Prop:=
 H b=none/\b≠X.env.locals/\b∉X.fs/\X.s₀.heap.get? b=none/\(∀x c,X.env.cells.lookup x=some c->c≠b) /\ ∀p∈X.pn++pins,p.1≠b
def Rz (X:Cx) (E:St->XK):Prop:=∀(pins:List (Addr×Obj)) (σ:St) (H:Hp) (s:Shared) (e:Addr) (cls:Value) (dx:Option Addr) (fl:Option Value),(fl=none\/fl=some .none)->Inv X pins σ H s->XFp X pins H e ->
 ad7 s.heap e cls dx (XFp X pins H) fl->E σ cls dx H->X.xe (.ref e) s
end
end L2
set_option Elab.async false
set_option linter.all false
set_option maxRecDepth 100000
set_option maxHeartbeats 4000000
namespace L2
open PySem PySem.Spec PyProof.Rows
section
variable {X:Cx} {k:Nat} {x:Str} {ps:List Str} {sp:Sp} {e:Expr} {es:List Expr} {t:TA} {p pos:Pos} {E:St->XK}
end
section
variable {P:Program} {w:World} {K:PySem.W.Frag} {mg:Str->Option Value} {base:Heap}
end
section
variable {X:Cx} {E:St->XK} {x:Str} {C:Addr} {B newId initId:String} {bmB:List Value} {e0:Expr} {rest:List Expr} {ta:TA} {np cpos pos:Pos}
end
section
variable {X:Cx} {pins:List (Addr×Obj)} {σ:St} {H:Hp} {s:Shared}
end
section
variable {M:Model} {A:Around} {Er:Value->Shared->Prop} {s:Shared} {K:PySem.W.Frag} {e C D:Addr}
end
end L2
set_option Elab.async false
set_option linter.all false
set_option maxRecDepth 100000
set_option maxHeartbeats 4000000
namespace L2
open PySem PySem.Spec PyProof.Rows
section
variable {X:Cx} {pins:List (Addr×Obj)} {σ:St} {H:Hp} {s:Shared}
end
section
variable {X:Cx} {body suite:List Stmt} {b0:Stmt} {n cn:Str} {i:Nat} {Dc:Addr} {tb:(St->XK)->TS} {th:TS} {cp hpos pos:Pos}
end
section
variable {X:Cx} {K:PySem.W.Frag}
end
end L2
set_option Elab.async false
set_option linter.all false
set_option maxRecDepth 100000
set_option maxHeartbeats 4000000
namespace L2
open PySem PySem.Spec PyProof.Rows
section
variable {X:Cx} {K:PySem.W.Frag}
end
end L2
namespace L2
open PySem
end L2
set_option Elab.async false
set_option linter.all false
set_option maxRecDepth 100000
set_option maxHeartbeats 4000000
namespace L2
open PySem PySem.Spec PyProof.Rows
section
variable {X:Cx} {pins:List (Addr×Obj)} {σ:St} {H:Hp} {s:Shared} {h':Heap}
theorem Inv.qZ {t':Nat} {fp:List Addr} (I:Inv X pins σ H s) (hf:∀b∈fp,jV X pins H b) (k:∀b o,b∉fp->s.heap.get? b=some o->h'.get? b=some o):Inv X pins σ H {s with heap:=h',toks:=t'}:=by
 have QJ:∀b u,H b=some u->b∉fp:=fun b u e z=>by rw [(hf b z).1] at e;cases e
 refine I.step (g':=s.gens) (d':=s.drawn) (ch:=fp) (fun b hb=> ?_) (fun b o _ _ hc e _=>k b o hc e) (fun b o _ _ hc e _=>⟨o.slots,k b o hc e⟩) (fun _ _ _ _ n=>n)
  (fun b o hc e=>⟨o,k b o hc e⟩) (fun _ _ e=>e) (fun _ _ _ e=>e) (fun b ps e=>⟨#[],by rw [e];simp⟩) (fun m hm=> ?_) (fun b u e=> ?_) I.bare
 ·obtain ⟨f0,f1,f2,f3,f4,f5⟩:=hf b hb
  exact ⟨f3,f1,f4,f5⟩
 ·obtain ⟨o,es,ep,ho,r⟩:=hm
  exact ⟨o,es,ep,k _ o (fun z=>(hf _ z).2.1 rfl) ho,r⟩
 ·refine (I.hok b u e).stay (fun c v hc q=>k c v ?_ q) (fun _ q=>q) fun _ _ q=>q
  rcases hc with z|z
  ·rw [z];exact QJ b u e
  ·exact QJ c _ z
theorem jV.upd {b p:Addr} {o:HO} (h:jV X pins H b) (n:b≠p):jV X pins (upd H p o) b:=by
 obtain ⟨f0,r⟩:=h;exact ⟨by rw [bA n];exact f0,r⟩
theorem zM {h:Heap} {o u:Obj} {b:Addr} (ho:o.isFreed=false) (e:(h.push o).get? b=some u):(b=h.objs.size/\u=o)\/h.get? b=some u:=by
 by_cases hb:b=h.objs.size
 ·subst hb
  rw [Heap.get?_push_size _ ho] at e;exact .inl ⟨rfl,(Option.some.inj e).symm⟩
 ·refine .inr ?_
  have lt:=Heap.lt_size e
  have WW:b<h.objs.size:=by
   have:(h.push o).objs.size=h.objs.size+1:=by simp [Heap.push]
   rw [this] at lt;exact Nat.lt_of_le_of_ne (Nat.le_of_lt_succ lt) hb
  have:(h.push o).get? b=h.get? b:=by
   simp only [Heap.get?,Heap.push];rw [Array.getElem?_push_lt WW,Array.getElem?_eq_getElem WW]
  rw [←this];exact e
end
def Ite (K:PySem.W.Frag) (l:Addr):It:=
 ⟨fun i H=>∃xs x,aW K H l xs/\xs[i]? = some x,fun i H x H'=>∃(p:Addr) (y:V),x = .ref p/\H p=none/\(∀xs,aW K H l xs->xs[i]? = some y)/\H'=upd H p (.tup [.int i,y]),fun i H=>∃xs,aW K H l xs/\xs.length<=i⟩
theorem Ft {P:Program} {w:World} {K:PySem.W.Frag} {elts:List Expr} {x1:Nat} {pos:Pos} (l e it:Addr) (hne:e≠it):Turn P w K (.Tuple elts x1 pos) (Ite K l) [e,it] e (fun i h=>(∃old,IsEnum h e it i old)/\h.IsListIter it l i) where
 mem:=by simp
 obj:=fun i h st b hb=>by
  obtain ⟨⟨old,he⟩,o,ho,c,d⟩:=st;have hb':b=e\/b=it:=by simpa using hb
  rcases hb' with rfl|rfl
  ·exact ⟨_,he,fun v z=>by cases z⟩
  ·exact ⟨o,ho,fun v z=>by rw [d] at z;cases z⟩
 keep:=fun i h h' st k=>by
  obtain ⟨⟨old,he⟩,o,ho,c,d⟩:=st;exact ⟨⟨old,k e (by simp) _ he⟩,o,k it (by simp) _ ho,c,d⟩
 item:=by
  intro X hP hw hK hc i pins s σ H E I hf st hg;subst hP hw hK;obtain ⟨xs,x,hq,hx⟩:=hg;obtain ⟨its,rv,p,hz⟩:=I.list hq;obtain ⟨u,hu,ru⟩:=rv.get hx;obtain ⟨⟨old,he⟩,hi⟩:=st;have elt:=Heap.lt_size he;have ilt:it<s.heap.objs.size:=by obtain ⟨o,ho,_⟩:=id hi;exact Heap.lt_size ho
  refine wpAny_pyNext_enum_item he hi p.isList (x:=u) (by simpa using hu) hne fun h' hout hit htup hsz hk=> ?_;refine ⟨_,rfl, ?_⟩;refine wpAny_letOwnedTupleGo_enum hout fun h2 he2 sb=> ?_;have hfr:H s.heap.objs.size=none:=I.hok.fresh (Nat.le_refl _)
  have I0:Inv X pins σ (upd H s.heap.objs.size (.tup [.int i,x])) {s with heap:=s.heap.push {cls:= .type "tuple",data:= .seq #[.int i s.toks,u]}}:=
   I.laid (t':=s.toks) (fun b u e=>Heap.get?_push_of_some _ e) (Nat.le_refl _) ⟨by show 2<=sizeLine;decide,[.int i s.toks,u],.cons ⟨_,rfl⟩ (.cons ru .nil),⟨_,Heap.get?_push_size _ rfl,rfl,_,rfl⟩⟩
  have ne1:e≠s.heap.objs.size:=Nat.ne_of_lt elt;have ne2:it≠s.heap.objs.size:=Nat.ne_of_lt ilt
  have Uy:∀b∈[e,it],jV X pins (upd H s.heap.objs.size (.tup [.int i,x])) b:=fun b hb=>by
   have hb':b=e\/b=it:=by simpa using hb
   rcases hb' with rfl|rfl
   ·exact (hf _ (by simp)).upd ne1
   ·exact (hf _ (by simp)).upd ne2
  have I1:=I0.qZ (h':=h2) (t':=s.toks+1) Uy (fun b o hb eb=>by
   have b1:b≠e:=fun z=>hb (by simp [z]);have b2:b≠it:=fun z=>hb (by simp [z]);rw [sb.2 b b1];rcases zM rfl eb with ⟨rfl,rfl⟩|eb
   ·exact htup
   ·exact hk b o b1 b2 eb)
  refine ⟨.ref s.heap.objs.size,_,I1,rfl,⟨s.heap.objs.size,x,rfl,hfr,fun ys hy=>by rw [I.oM hy hq];exact hx,rfl⟩,⟨⟨u,he2⟩, ?_⟩,fun b hb=>(Uy b hb).1⟩;obtain ⟨o,ho,c,d⟩:=hit;exact ⟨o,(sb.2 it (Ne.symm hne)).trans ho,c,d⟩
 done:=by
  intro X hP hw hK hc i pins s σ H E I hf st hg;subst hP hw hK;obtain ⟨xs,hq,hx⟩:=hg;obtain ⟨its,rv,p,hz⟩:=I.list hq;obtain ⟨⟨old,he⟩,hi⟩:=st;have hl:=rv.length;exact wpAny_pyNext_enum_end (I.ok.hd hc) he hi p.isList (by simp;omega) fun h' eb=>⟨rfl,I.qZ (t':=s.toks) hf (fun b o hb e=>eb b o (fun z=>hb (by simp [z])) e)⟩
 self:=fun _ _ _ _ _ st h=>by
  obtain ⟨⟨old,he⟩,_⟩:=st;exact wpAny_pyIter_enum he h
section
variable {X:Cx}
def Ul (K:PySem.W.Frag) (ta:TA):TI:=fun σ H R=>ta σ H fun vs H1=>∃l xs,vs=[.ref l]/\aW K H1 l xs/\R (Ite K l) H1
theorem xG:bootBuiltins "enumerate" = some (.type "enumerate"):=by kernel_rfl
theorem yL {K:PySem.W.Frag} {a:Expr} {ta:TA} {p pos:Pos} {elts:List Expr} {x1:Nat} {tpos:Pos} (hK:X.K=K) (hg:Gl X "enumerate") (hm:X.mg "enumerate" = none) (ha:PA X [a] ta) (hs:starEach [a] X.env=[(false,eval a X.env)]:=by rfl):PI X (.Tuple elts x1 tpos) (.Call (.Name "enumerate" p) [a] [] pos) (Ul K ta):=by
 subst hK;intro pins s σ H R I h;refine Call_ (nW I hg hm xG (PyProof.Rows.callWith_type1 (cT (ha pos pins s σ H _ I h) fun us s1 ⟨vs,H1,I1,r1,q1⟩=> ?_) hs rfl));obtain ⟨l,xs,e,hq,q⟩:=q1;subst e;cases r1 with
 | cons r rr=>
   cases rr;cases r;obtain ⟨its,rv,pl,hz⟩:=I1.list hq;refine call_enumerate_list pl.isList fun h' hE hI hsz hk=> ?_;refine wpAny_pyIter_enum hE ?_;have I2:Inv X pins σ H1 {s1 with heap:=h'}:=I1.kept (t':=s1.toks) hk;refine ⟨s1.heap.objs.size+1,[s1.heap.objs.size+1,s1.heap.objs.size],_,_,H1,rfl,I2,Ft l _ _ (by simp),⟨⟨_,hE⟩,hI⟩,fun b hb=> ?_,q⟩;have hb':b=s1.heap.objs.size+1\/b=s1.heap.objs.size:=by simpa using hb
   rcases hb' with rfl|rfl
   ·exact I1.tQ (Nat.le_succ _) (I1.hok.fresh (Nat.le_succ _))
   ·exact I1.tQ (Nat.le_refl _) (I1.hok.fresh (Nat.le_refl _))
end
def Yl (K:PySem.W.Frag) (l1 l2:Addr):It:=
 ⟨fun i H=>∃xs ys x y,aW K H l1 xs/\aW K H l2 ys/\xs[i]? = some x/\ys[i]? = some y,
  fun i H x H'=>∃(p:Addr) (y z:V),x = .ref p/\H p=none/\(∀xs,aW K H l1 xs->xs[i]? = some y)/\(∀ys,aW K H l2 ys->ys[i]? = some z)/\H'=upd H p (.tup [y,z]),
  fun i H=>∃xs ys,aW K H l1 xs/\aW K H l2 ys/\(xs.length<=i\/ys.length<=i)⟩
theorem Ip {P:Program} {w:World} {K:PySem.W.Frag} {elts:List Expr} {x1:Nat} {pos:Pos} (z TI TO i1 i2 l1 l2:Addr) (ap:ZipApart z TI TO i1 i2 l1 l2):Turn P w K (.Tuple elts x1 pos) (Yl K l1 l2) [z,TI,TO,i1,i2] z
 (fun i h=>IsZip h z TI TO .none/\IsPair h TI (.ref i1) (.ref i2)/\(∃a b,IsPair h TO a b)/\h.IsListIter i1 l1 i/\h.IsListIter i2 l2 i) where
 mem:=by simp
 obj:=fun i h st b hb=>by
  obtain ⟨hz,hTI,⟨a,c,hTO⟩,⟨o1,h1,c1,d1⟩,⟨o2,h2,c2,d2⟩⟩:=st;have hb':b=z\/b=TI\/b=TO\/b=i1\/b=i2:=by simpa using hb
  rcases hb' with rfl|rfl|rfl|rfl|rfl
  ·exact ⟨_,hz,fun v z=>by cases z⟩
  ·exact ⟨_,hTI,fun v z=>by cases z⟩
  ·exact ⟨_,hTO,fun v z=>by cases z⟩
  ·exact ⟨_,h1,fun v z=>by rw [d1] at z;cases z⟩
  ·exact ⟨_,h2,fun v z=>by rw [d2] at z;cases z⟩
 keep:=fun i h h' st k=>by
  obtain ⟨hz,hTI,⟨a,c,hTO⟩,⟨o1,h1,c1,d1⟩,⟨o2,h2,c2,d2⟩⟩:=st;exact ⟨k z (by simp) _ hz,k TI (by simp) _ hTI,⟨a,c,k TO (by simp) _ hTO⟩,⟨o1,k i1 (by simp) _ h1,c1,d1⟩,⟨o2,k i2 (by simp) _ h2,c2,d2⟩⟩
 item:=by
  intro X hP hw hK hc i pins s σ H E I hf st hg;subst hP hw hK;obtain ⟨xs,ys,x,y,hq1,hq2,hx,hy⟩:=hg;obtain ⟨Ug,Wu,p1,hz1⟩:=I.list hq1;obtain ⟨its2,Wt,p2,hz2⟩:=I.list hq2;obtain ⟨u1,hu1,ru1⟩:=Wu.get hx;obtain ⟨u2,hu2,ru2⟩:=Wt.get hy;obtain ⟨hz,hTI,⟨a,c,hTO⟩,hi1,hi2⟩:=st;have zlt:=Heap.lt_size hz;have aeg:=Heap.lt_size hTI;have aef:=Heap.lt_size hTO;have ab2:i1<s.heap.objs.size:=by obtain ⟨o,ho,_⟩:=id hi1;exact Heap.lt_size ho
  have ab1:i2<s.heap.objs.size:=by obtain ⟨o,ho,_⟩:=id hi2;exact Heap.lt_size ho
  refine wpAny_pyNext_zip_item ap hz hTI hTO hi1 hi2 p1.isList p2.isList (x:=u1) (y:=u2) (by simpa using hu1) (by simpa using hu2) fun h' hz' ace acd hi2' hnew hsz hk=> ?_;refine ⟨_,rfl, ?_⟩;refine wpAny_letOwnedTupleGo_zip hz' fun h2 ab3 sb=> ?_;have hfr:H s.heap.objs.size=none:=I.hok.fresh (Nat.le_refl _)
  have I0:Inv X pins σ (upd H s.heap.objs.size (.tup [x,y])) {s with heap:=s.heap.push {cls:= .type "tuple",data:= .seq #[u1,u2]}}:=
   I.laid (t':=s.toks) (fun b u e=>Heap.get?_push_of_some _ e) (Nat.le_refl _) ⟨by show 2<=sizeLine;decide,[u1,u2],.cons ru1 (.cons ru2 .nil),⟨_,Heap.get?_push_size _ rfl,rfl,_,rfl⟩⟩
  have Uy:∀b∈[z,TI,TO,i1,i2],jV X pins (upd H s.heap.objs.size (.tup [x,y])) b:=fun b hb=>by
   refine (hf b hb).upd ?_;have hb':b=z\/b=TI\/b=TO\/b=i1\/b=i2:=by simpa using hb
   rcases hb' with rfl|rfl|rfl|rfl|rfl
   ·exact Nat.ne_of_lt zlt
   ·exact Nat.ne_of_lt aeg
   ·exact Nat.ne_of_lt aef
   ·exact Nat.ne_of_lt ab2
   ·exact Nat.ne_of_lt ab1
  have I1:=I0.qZ (h':=h2) (t':=s.toks) Uy (fun b o hb eb=>by
   have b1:b≠z:=fun e=>hb (by simp [e]);have b2:b≠TO:=fun e=>hb (by simp [e]);have b3:b≠i1:=fun e=>hb (by simp [e]);have b4:b≠i2:=fun e=>hb (by simp [e]);rw [sb.2 b b1];rcases zM rfl eb with ⟨rfl,rfl⟩|eb
   ·exact hnew
   ·exact hk b o b1 b2 b3 b4 eb)
  refine ⟨.ref s.heap.objs.size,_,I1,rfl,⟨s.heap.objs.size,x,y,rfl,hfr,fun ys hy=>by rw [I.oM hy hq1];exact hx,fun ys' hy'=>by rw [I.oM hy' hq2];exact hy,rfl⟩, ?_,fun b hb=>(Uy b hb).1⟩;obtain ⟨o1,ho1,c1,d1⟩:=acd;obtain ⟨o2,ho2,c2,d2⟩:=hi2';exact ⟨ab3,(sb.2 TI ap.TIz).trans (hk TI _ ap.TIz ap.TITO ap.TIi1 ap.TIi2 hTI),⟨_,_,(sb.2 TO ap.TOz).trans ace⟩,⟨o1,(sb.2 i1 ap.i1z).trans ho1,c1,d1⟩,⟨o2,(sb.2 i2 ap.i2z).trans ho2,c2,d2⟩⟩
 done:=by
  intro X hP hw hK hc i pins s σ H E I hf st hg;subst hP hw hK;obtain ⟨xs,ys,hq1,hq2,hx⟩:=hg;obtain ⟨Ug,Wu,p1,hz1⟩:=I.list hq1;obtain ⟨its2,Wt,p2,hz2⟩:=I.list hq2;obtain ⟨hz,hTI,⟨a,c,hTO⟩,hi1,hi2⟩:=st;have hl1:=Wu.length;have hl2:=Wt.length;refine wpAny_pyNext_zip_end (I.ok.hd hc) ap hz hTI hTO hi1 hi2 p1.isList p2.isList ?_ fun h' eb=>⟨rfl,I.qZ (t':=s.toks) hf (fun b o hb e=>eb b o (fun z=>hb (by simp [z])) (fun z=>hb (by simp [z])) (fun z=>hb (by simp [z])) (fun z=>hb (by simp [z])) e)⟩;rcases hx with hx|hx
  ·exact .inl (by simp;omega)
  ·exact .inr (by simp;omega)
 self:=fun _ _ _ _ _ st h=>wpAny_pyIter_zip st.1 h
section
variable {X:Cx}
def ab0 (K:PySem.W.Frag) (ta:TA):TI:=fun σ H R=>ta σ H fun vs H1=>∃l1 l2 xs ys,vs=[.ref l1,.ref l2]/\aW K H1 l1 xs/\aW K H1 l2 ys/\R (Yl K l1 l2) H1
theorem rE {K:PySem.W.Frag} {a b:Expr} {ta:TA} {p pos:Pos} {elts:List Expr} {x1:Nat} {tpos:Pos} (hK:X.K=K) (hg:Gl X "zip") (hm:X.mg "zip" = none) (ha:PA X [a,b] ta) (hs:starEach [a,b] X.env=[(false,eval a X.env),(false,eval b X.env)]:=by rfl) (hs2:starEach [b] X.env=[(false,eval b X.env)]:=by rfl):PI X (.Tuple elts x1 tpos) (.Call (.Name "zip" p) [a,b] [] pos) (ab0 K ta):=by
 subst hK;intro pins s σ H R I h;refine Call_ (nW I hg hm boot_zip (PyProof.Rows.callWith_type1 (cT (ha pos pins s σ H _ I h) fun us s1 ⟨vs,H1,I1,r1,q1⟩=> ?_) (by rw [hs,hs2]) (by rw [hs2];rfl)));obtain ⟨l1,l2,xs,ys,e,hq1,hq2,q⟩:=q1;subst e;cases r1 with
 | cons r rr=>
   cases rr with
   | cons r' rr=>
     cases rr;cases r;cases r';obtain ⟨Ug,Wu,R6,hz1⟩:=I1.list hq1;obtain ⟨its2,Wt,pl2,hz2⟩:=I1.list hq2;have lt1:l1<s1.heap.objs.size:=by obtain ⟨o,ho,_⟩:=R6.isList;exact Heap.lt_size ho
     have WW:l2<s1.heap.objs.size:=by obtain ⟨o,ho,_⟩:=pl2.isList;exact Heap.lt_size ho
     refine call_zip_2 R6.isList pl2.isList fun h' hZ hTI hTO hi1 hi2 hsz hk=> ?_;refine wpAny_pyIter_zip hZ ?_;have I2:Inv X pins σ H1 {s1 with heap:=h'}:=I1.kept (t':=s1.toks) hk;refine ⟨s1.heap.objs.size+4,[s1.heap.objs.size+4,s1.heap.objs.size+2,s1.heap.objs.size+3,s1.heap.objs.size,s1.heap.objs.size+1],_,_,H1,rfl,I2,Ip _ _ _ _ _ l1 l2 (zipApart_new lt1 WW),⟨hZ,hTI,⟨_,_,hTO⟩,hi1,hi2⟩,fun b hb=> ?_,q⟩
     have hb':s1.heap.objs.size<=b:=by
      have:b=s1.heap.objs.size+4\/b=s1.heap.objs.size+2\/b=s1.heap.objs.size+3\/b=s1.heap.objs.size\/b=s1.heap.objs.size+1:=by simpa using hb
      rcases this with rfl|rfl|rfl|rfl|rfl
      ·exact Nat.le_add_right _ _
      ·exact Nat.le_add_right _ _
      ·exact Nat.le_add_right _ _
      ·exact Nat.le_refl _
      ·exact Nat.le_add_right _ _
     exact I1.tQ hb' (I1.hok.fresh hb')
end
end L2
set_option Elab.async false
set_option linter.all false
set_option maxRecDepth 100000
set_option maxHeartbeats 4000000
namespace L2
open PySem PySem.Spec PyProof.Rows
section
variable {K:PySem.W.Frag} {a l1 l2 D:Addr} {xs ys:List V} {g:TG} {tc:TT} {te:TE} {Q:VK} {σ0:St} {H1:Hp}
theorem Km {n:Nat} (hn1:xs.length=n) (hn2:ys.length=n) (Pv:Nat->St->Hp->Prop) (h0:Pv 0 σ0 (upd H1 D (.lst []))) (hl:∀i σ H,i<=n->Pv i σ H->aW K H l1 xs/\aW K H l2 ys)
 (hs:∀i x y σ H p,xs[i]? = some x->ys[i]? = some y->Pv i σ H->H p=none->g (.ref p) σ (upd H p (.tup [x,y])) fun σ2 H2=>tc σ2 H2 fun b H3=>
   if b=true then te σ2 H3 fun y H4=>∃acc,H4 D=some (.lst acc)/\acc.length<sizeLine/\Pv (i+1) σ2 (upd H4 D (.lst (acc++[y]))) else Pv (i+1) σ2 H3)
 (hd:∀σ H,Pv n σ H->Q (.ref D) H):mK (Yl K l1 l2) g tc te Q D σ0 H1:=by
 refine ⟨fun i m σ H=>m=n - i/\i<=n/\Pv i σ H,⟨n,by simp,Nat.zero_le _,h0⟩, ?_⟩;rintro i m σ H ⟨rfl,hi,p⟩;obtain ⟨q1,q2⟩:=hl i σ H hi p
 by_cases hlt:i<n
 ·refine .inr ⟨⟨xs,ys,xs[i],ys[i],q1,q2,by simp [hn1,hlt],by simp [hn2,hlt]⟩,Pv (i+1),fun σ' H' p'=>⟨n - (i+1),by omega,rfl,hlt,p'⟩,fun x H' y=> ?_⟩
  obtain ⟨t,z,u,rfl,ht,hz,hu,rfl⟩:=y;exact hs i z u σ _ t (hz xs q1) (hu ys q2) p ht
 ·have e:i=n:=by omega
  subst e;exact .inl ⟨⟨xs,ys,q1,q2,.inl (by omega)⟩,hd σ H p⟩
end
section
variable {K:PySem.W.Frag} {a l1 l2:Addr} {xs ys:List V} {g:TG} {tb:TS} {D:Ends} {σ:St} {H:Hp}
theorem zO (Pv:Nat->St->Hp->Prop) (h0:Pv 0 σ H) (hl:∀i σ H,i<=xs.length->Pv i σ H->aW K H a xs)
 (hs:∀i x σ H p,xs[i]? = some x->Pv i σ H->H p=none->g (.ref p) σ (upd H p (.tup [.int i,x])) fun σ2 H2=>tb {D with nx:=Pv (i+1),ct:=Pv (i+1),bk:=D.nx} σ2 H2) (hd:∀σ H,Pv xs.length σ H->D.nx σ H):
 ∃W:Nat->Nat->St->Hp->Prop,(∃m,W 0 m σ H) /\ ∀i m σ H,W i m σ H ->
  ((Ite K a).stop i H/\D.nx σ H)\/((Ite K a).go i H /\ ∃N:St->Hp->Prop,(∀σ' H',N σ' H' -> ∃m',m'<m/\W (i+1) m' σ' H') /\ ∀x H',(Ite K a).Ov i H x H'->g x σ H' fun σ2 H2=>tb {D with nx:=N,ct:=N,bk:=D.nx} σ2 H2):=by
 refine ⟨fun i m σ H=>m=xs.length - i/\i<=xs.length/\Pv i σ H,⟨xs.length,by simp,Nat.zero_le _,h0⟩, ?_⟩;rintro i m σ H ⟨rfl,hi,p⟩;have q:=hl i σ H hi p
 by_cases hlt:i<xs.length
 ·refine .inr ⟨⟨xs,xs[i],q,by simp [hlt]⟩,Pv (i+1),fun σ' H' p'=>⟨xs.length - (i+1),by omega,rfl,hlt,p'⟩,fun x H' y=> ?_⟩
  obtain ⟨t,z,rfl,ht,hz,rfl⟩:=y;exact hs i z σ _ t (hz xs q) p ht
 ·have e:i=xs.length:=by omega
  subst e;exact .inl ⟨⟨xs,q,Nat.le_refl _⟩,hd σ H p⟩
end
section
variable {X:Cx}
theorem yp:∀{ns:List Int} {us:List Value},Vals (ns.map V.int) us->IntsAre us ns
 | [],us,r=>by cases r;exact .nil
 | n::ns,us,r=>by
   cases r with
   | cons r rs=>
     obtain ⟨t,rfl⟩:=r;exact .cons n t (yp rs)
def LQ:V->List V->Hp->VK->Prop:=fun x vs H Q=>∃(l:Addr) (ns:List Int) (i:Int),x = .ref l/\vs=[.int i]/\aW X.K H l (ns.map V.int)/\Q (.int (ns.count i)) H
theorem JQ:Yk X "list.count" (LQ (X:=X)):=by
 intro pins s σ H x vs v us Q I rx rv h;obtain ⟨l,ns,i,rfl,rfl,hq,q⟩:=h;cases rx;obtain ⟨u,rfl,ru⟩:=rv.one;obtain ⟨t,rfl⟩:=ru;obtain ⟨its,r',pl,hz⟩:=I.list hq;exact count_list_ints pl.isList (yp r') ⟨.int _,H,I.tok _,⟨_,rfl⟩,q⟩
theorem Ju {K:PySem.W.Frag} {T name id:String} {r:V->List V->Hp->VK->Prop} {o e:Expr} {es:List Expr} {to:TE} {t:TA} {apos cpos:Pos} (h:X.K=K) (pa:PlainAttrs T) (slot:Slot T name id) (hty:typeOf (.builtin id)=pure (.type "method_descriptor")) (hm:Yk X id r) (ho:PE X o to) (ha:PA X (e::es) t)
 (hbase:attributeBase o name X.env (eval o X.env)=eval o X.env:=by rfl)
 (hfew:((backTo cpos (starEach (e::es) X.env)).all (fun x=> !x.1)&&(backToKw cpos (keywordEach [] X.env)).all (fun x=>x.1.isSome)
   && decide ((e::es).length+([]:List Keyword).length+(if ([]:List Keyword).isEmpty then 0 else 1)<30))=true:=by rfl)
 (hline:(apos.endLine==cpos.line)=true:=by rfl) (hs:starEach (e::es) X.env=(false,eval e X.env)::starEach es X.env:=by rfl) (hplain:(backTo cpos (starEach es X.env)).any (·.1)=false:=by rfl):
 PE X (.Call (.Attribute o name apos) (e::es) [] cpos) (Yz K T r to t):=by
 subst h;exact O7 pa slot hty hm ho ha hbase hfew hline hs hplain
def Qq (K:PySem.W.Frag):V->List V->Hp->VK->Prop:=fun x vs H Q=>∃(l:Addr) (ns:List Int) (i:Int),x = .ref l/\vs=[.int i]/\aW K H l (ns.map V.int)/\Q (.int (ns.count i)) H
theorem Gq {K:PySem.W.Frag} (h:X.K=K):Yk X "list.count" (Qq K):=by subst h;exact JQ
theorem iC {K:PySem.W.Frag} {es:List Expr} {k:Nat} {t:Pr} {n:Nat} {pos:Pos} (hK:X.K=K) (hc:X.calm=true) (h:V1 X es t)
 (hn:(assignEach es X.env).length=n:=by rfl) (hst:(assignEach es X.env).findIdx? (·.1)=none:=by rfl):PG X (.Tuple es k pos) (Rm K n t):=by subst hK;exact Qt hc h hn hst
end
end L2
set_option Elab.async false
set_option linter.all false
set_option maxRecDepth 100000
set_option maxHeartbeats 4000000
namespace L2
open PySem
section
variable {K:PySem.W.Frag} {a D:Addr} {xs:List V} {tc:TT} {te:TE} {Q:VK} {rest:St} {H1:Hp}
theorem fQ {α:Type} (f:Nat->Option α) (n:Nat):(List.range (n+1)).filterMap f=(List.range n).filterMap f++(f n).toList:=by
 rw [List.range_succ,List.filterMap_append];cases h:f n<;>simp [h]
theorem tU {α:Type} (f:Nat->Option α) (n:Nat):((List.range n).filterMap f).length<=n:=by
 have:=List.length_filterMap_le f (List.range n);simpa using this
theorem Same.newly {H H1:Hp} {D:Addr} {o:HO} (h:Same H H1) (n:H D=none):Same H (upd H1 D o):=fun b u e=>by rw [bA (aB e n)];exact h b u e
theorem jw (f:Nat->Option V) (hD:H1 D=none) (hq:aW K H1 a xs) (hx:xs.length<=100000)
 (hs:∀i x H (G:Hp->Prop) (F:VK),xs[i]? = some x->Same H1 H->(∀H',Same H H'->f i=none->G H')->(∀y H',Same H H'->f i=some y->F y H')->tc (some x::rest) H fun b H3=>if b=true then te (some x::rest) H3 F else G H3)
 (hd:∀H,Same H1 H->H D=some (.lst ((List.range xs.length).filterMap f))->Q (.ref D) H):mK (Oq K a) (fG 0) tc te Q D (none::rest) H1:=by
 refine m_ (K:=K) (xs:=xs) (fun i σ H=>(∃v,σ=v::rest)/\Same H1 H/\H D=some (.lst ((List.range i).filterMap f))) ⟨⟨none,rfl⟩,aC hD,ak⟩ (fun i σ H _ ⟨_,sm,_⟩=>sm.Wi _ _ hq) ?_ (fun σ H ⟨_,sm,e⟩=>hd H sm e);rintro i x σ H hi ⟨⟨v,rfl⟩,sm,e⟩;have hil:i<xs.length:=(List.getElem?_eq_some_iff.mp hi).1;refine hs i x H _ _ hi sm (fun H3 s3 ef=>⟨⟨_,rfl⟩,sm.trans s3,by rw [s3 _ _ e,fQ,ef];simp⟩) (fun y H4 s4 ef=> ?_);refine ⟨_,s4 _ _ e, ?_,⟨_,rfl⟩,(sm.trans s4).newly hD, ?_⟩
 ·have:=tU f i
  rw [sizeLine_eq];omega
 ·rw [ak,fQ,ef];rfl
theorem G7 (f:Nat->Option V) (hD:H1 D=none) (hq:H1 a=some (.tup xs)) (hx:xs.length<=100000)
 (hs:∀i x H (G:Hp->Prop) (F:VK),xs[i]? = some x->Same H1 H->(∀H',Same H H'->f i=none->G H')->(∀y H',Same H H'->f i=some y->F y H')->tc (some x::rest) H fun b H3=>if b=true then te (some x::rest) H3 F else G H3)
 (hd:∀H,Same H1 H->H D=some (.lst ((List.range xs.length).filterMap f))->Q (.ref D) H):mK (Ym K a) (fG 0) tc te Q D (none::rest) H1:=by
 refine Ko (K:=K) (xs:=xs) (fun i σ H=>(∃v,σ=v::rest)/\Same H1 H/\H D=some (.lst ((List.range i).filterMap f))) ⟨⟨none,rfl⟩,aC hD,ak⟩ (fun i σ H _ ⟨_,sm,_⟩=>cu.of (sm.tups _ _ hq)) ?_ (fun σ H ⟨_,sm,e⟩=>hd H sm e);rintro i x σ H hi ⟨⟨v,rfl⟩,sm,e⟩;have hil:i<xs.length:=(List.getElem?_eq_some_iff.mp hi).1;refine hs i x H _ _ hi sm (fun H3 s3 ef=>⟨⟨_,rfl⟩,sm.trans s3,by rw [s3 _ _ e,fQ,ef];simp⟩) (fun y H4 s4 ef=> ?_);refine ⟨_,s4 _ _ e, ?_,⟨_,rfl⟩,(sm.trans s4).newly hD, ?_⟩
 ·have:=tU f i
  rw [sizeLine_eq];omega
 ·rw [ak,fQ,ef];rfl
theorem m9 {n:Nat} (f:Nat->Option V) (hD:H1 D=none) (hx:n<=100000)
 (hs:∀i H (G:Hp->Prop) (F:VK),i<n->Same H1 H->(∀H',Same H H'->f i=none->G H')->(∀y H',Same H H'->f i=some y->F y H')->tc (some (.int (0+i))::rest) H fun b H3=>if b=true then te (some (.int (0+i))::rest) H3 F else G H3)
 (hd:∀H,Same H1 H->H D=some (.lst ((List.range n).filterMap f))->Q (.ref D) H):mK (Pu 0 n) (fG 0) tc te Q D (none::rest) H1:=by
 refine uh (lo:=0) (n:=n) (fun i σ H=>(∃v,σ=v::rest)/\Same H1 H/\H D=some (.lst ((List.range i).filterMap f))) ⟨⟨none,rfl⟩,aC hD,ak⟩ ?_ (fun σ H ⟨_,sm,e⟩=>hd H sm e);rintro i σ H hi ⟨⟨v,rfl⟩,sm,e⟩;refine hs i H _ _ hi sm (fun H3 s3 ef=>⟨⟨_,rfl⟩,sm.trans s3,by rw [s3 _ _ e,fQ,ef];simp⟩) (fun y H4 s4 ef=> ?_);refine ⟨_,s4 _ _ e, ?_,⟨_,rfl⟩,(sm.trans s4).newly hD, ?_⟩
 ·have:=tU f i
  rw [sizeLine_eq];omega
 ·rw [ak,fQ,ef];rfl
theorem m7 {l1 l2:Addr} {ys:List V} {n:Nat} (hn1:xs.length=n) (hn2:ys.length=n) (f:Nat->Option V) (hD:H1 D=none) (hq1:aW K H1 l1 xs) (hq2:aW K H1 l2 ys) (hx:n<=100000)
 (hs:∀i x y H (G:Hp->Prop) (F:VK),xs[i]? = some x->ys[i]? = some y->Same H1 H->(∀H',Same H H'->f i=none->G H')->(∀y H',Same H H'->f i=some y->F y H')->tc (some x::some y::rest) H fun b H3=>if b=true then te (some x::some y::rest) H3 F else G H3)
 (hd:∀H,Same H1 H->H D=some (.lst ((List.range n).filterMap f))->Q (.ref D) H):mK (Yl K l1 l2) (Rm K 2 (J8 (fG 0) (J8 (fG 1) UJ))) tc te Q D (none::none::rest) H1:=by
 refine Km (K:=K) (xs:=xs) (ys:=ys) hn1 hn2 (fun i σ H=>(∃u v,σ=u::v::rest)/\Same H1 H/\H D=some (.lst ((List.range i).filterMap f))) ⟨⟨none,none,rfl⟩,aC hD,ak⟩ (fun i σ H _ ⟨_,sm,_⟩=>⟨sm.Wi _ _ hq1,sm.Wi _ _ hq2⟩) ?_ (fun σ H ⟨_,sm,e⟩=>hd H sm e);rintro i x y σ H p hix hiy ⟨⟨u,v,rfl⟩,sm,e⟩ hp;have sp:=aC (o:=HO.tup [x,y]) hp;refine ⟨p,[x,y],rfl,cu.of ak,rfl,_,_,rfl,_,_,rfl,rfl, ?_⟩;have hil:i<xs.length:=(List.getElem?_eq_some_iff.mp hix).1;refine hs i x y _ _ _ hix hiy (sm.trans sp) (fun H3 s3 ef=>⟨⟨_,_,rfl⟩,(sm.trans sp).trans s3,by rw [s3 _ _ (sp _ _ e),fQ,ef];simp⟩) (fun y H4 s4 ef=> ?_);refine ⟨_,s4 _ _ (sp _ _ e), ?_,⟨_,_,rfl⟩,((sm.trans sp).trans s4).newly hD, ?_⟩
 ·have:=tU f i
  rw [sizeLine_eq];omega
 ·rw [ak,fQ,ef];rfl
end
end L2
namespace L2
open PySem
section
variable {X:Cx} {K:PySem.W.Frag}
theorem Jx (h:X.K=K):qG X (binaryOp .Add) (O6 K):=by subst h;exact Mt
end
end L2
namespace L2
open PySem
theorem j7 {a b:TS} {D:Ends} {σ:St} {H:Hp} (P:St->Hp->Prop) (h1:∀D':Ends,(∀σ' H',P σ' H'->D'.nx σ' H')->D'.rt=D.rt->a D' σ H) (h2:∀σ' H',P σ' H'->b D σ' H'):Pz a b D σ H:=h1 _ h2 rfl
end L2
namespace L2
open PySem PySem.Spec PyProof.Rows
section
variable {X:Cx} {K:PySem.W.Frag} {a:Expr} {ta:TE} {pos:Pos}
def Yv (K:PySem.W.Frag) (ta:TE):TT:=fun σ H Q=>ta σ H fun x H'=>∃k,Ol K x H' k/\Q k H'
def SX (K:PySem.W.Frag) (ta:TE):TE:=fun σ H Q=>ta σ H fun x H'=>∃k,Ol K x H' k/\Q (.bl (!k)) H'
theorem FZ (h:X.K=K) (ha:PE X a ta) (he:∀whole,isTrue a X.env whole=(do let v ←whole;standAt a.pos;holding [v] (truthy v)):=by intro _;rfl):PT X a (Yv K ta):=by
 subst h;exact Jh ha he
theorem Mp (h:X.K=K) (ha:PE X a ta):PE X (.UnaryOp .Not a pos) (SX K ta):=by
 subst h;intro pins s σ H Q I h;refine UnaryOp_ (cT (ha pins s σ H _ I h) fun v s1 ⟨x,H1,I1,r1,q1⟩=> ?_);obtain ⟨k,e,q1⟩:=q1;exact not_of (cT (Iu pins s1 σ H1 x v (fun b H=>Q (.bl (!b)) H) I1 r1 ⟨k,e,q1⟩) fun b s2 ⟨H2,I2,q2⟩=>⟨.bl (!b),H2,I2,rfl,q2⟩)
end
end L2
set_option Elab.async false
set_option linter.all false
set_option maxRecDepth 100000
set_option maxHeartbeats 4000000
namespace L2
open PySem PySem.Spec PyProof.Rows
section
variable {X:Cx} {K:PySem.W.Frag}
end
section
variable {K:PySem.W.Frag} {a D:Addr} {xs:List V} {te:TE} {Q:VK} {rest:St} {H1:Hp}
theorem GX {H:Hp} {vs:List V} {ds:List PyData} {v:V} {d:PyData} (h:aD H vs ds) (hd:Dat H v d):aD H (vs++[v]) (ds++[d]):=aD.append h (by simp only [aD,and_true];exact hd)
end
end L2
set_option Elab.async false
set_option linter.all false
namespace L2
open PySem
def Gv (mg:Str->Option Value) (x:Str) (v:V):Prop:=∃u,mg x=some u/\RelV v u
end L2
set_option Elab.async false
set_option linter.all false
set_option maxRecDepth 100000
set_option maxHeartbeats 4000000
namespace L2
open PySem PySem.Spec PyProof.Rows
section
variable {prog:Program} {w:World} {K:Type} [DecidableEq K] {knd:HeapKind prog w K}
end
section
variable {X:Cx} {o e f:Expr} {td ty tx:TE} {apos cpos:Pos}
end
end L2
namespace L2
open PySem PySem.Spec PyProof.Rows
section
variable {X:Cx} {K:PySem.W.Frag}
end
end L2
namespace L2
open PySem
end L2
set_option Elab.async false
set_option linter.all false
set_option maxRecDepth 100000
set_option maxHeartbeats 4000000
namespace L2
open PySem PySem.Spec PyProof.Rows
section
variable {X:Cx} {K:PySem.W.Frag}
end
def cat:List Str->Str
 | []=>Str.empty
 | x::xs=>x++cat xs
end L2
set_option Elab.async false
set_option linter.all false
set_option maxRecDepth 100000
set_option maxHeartbeats 4000000
namespace L2
open PySem PySem.Spec PyProof.Rows
section
variable {X:Cx} {body suite:List Stmt} {b0:Stmt} {cn:Str} {Dc:Addr} {tb:(St->XK)->TS} {th:TS} {cp hpos pos:Pos}
end
end L2
namespace L2
open PySem PySem.Spec PyProof.Rows
section
variable {X:Cx}
def V7 (i j:Int):Prop:=0<j/\j<1329227995784915872903807060280344576
theorem Jw:qG X (binaryOp .FloorDiv) (rI V7 fun i j=> .int (i / j)):=TX fun i j _ _ _ _ _ hc q=>by
 have h1:(0:Int)<j:=hc.1;have h2:j<1329227995784915872903807060280344576:=hc.2;refine floordiv_int (by omega) (by rw [Int.fdiv_eq_ediv_of_nonneg i (by omega)];exact q) (.inl ?_);unfold Builtin.divisionGoesByPylong;have hn:j.natAbs<2 ^ 120:=by omega
 have hl:j.natAbs.log2<120:=(Nat.log2_lt (by omega)).mpr hn
 have hz:(j==0)=false:=by
  rw [beq_eq_false_iff_ne];omega
 simp only [hz,Bool.false_eq_true,if_false];have:¬j.natAbs.log2 / 30+1>300:=by omega
 rw [decide_eq_false this,Bool.false_and]
end
end L2
set_option Elab.async false
set_option linter.all false
set_option maxRecDepth 100000
set_option maxHeartbeats 4000000
namespace L2
open PySem PySem.Spec PyProof.Rows
section
variable {X:Cx} {pins:List (Addr×Obj)} {σ:St} {H:Hp} {s:Shared} {d:Addr} {u u':HO}
theorem Inv.O4 (I:Inv X pins σ H s) (e:H d=some u) (h1:∀xs,u ≠ .tup xs) (h2:∀a,u ≠ .own a) (h3:∀ps,u ≠ .Ox ps) (hz:∀o v,X.H₀ d≠some (.lF o v)) (ok:cD X.prog X.w (upd H d u') s.heap d u'):Inv X pins σ (upd H d u') s:=by
 have nd:∀{b:Addr},H b=none->b≠d:=fun q z=>by rw [z,e] at q;cases q
 have ht:∀b xs,H b=some (HO.tup xs)->(upd H d u') b=some (HO.tup xs):=fun b xs q=>by
  have:b≠d:=fun z=>by rw [z,e] at q;exact h1 xs (Option.some.inj q)
  rw [bA this];exact q
 refine ⟨I.ok,I.os,I.bare,⟨I.base.keep,I.base.slot,fun b o q n hx=> ?_,I.base.there,fun b xs q=>ht b xs (I.base.tups b xs q),fun b o v q=> ?_,fun b ps q=> ?_⟩,I.loc,I.cell, ?_,fun x c q=> ?_,fun p hp=> ?_,fun b v q=> ?_,I.len⟩
 ·have:=I.base.free b o q n hx
  rw [bA (nd this)];exact this
 ·have:=I.base.pZ b o v q
  have nb:b≠d:=fun z=>by rw [z] at q;exact hz o v q
  rw [bA nb];exact this
 ·obtain ⟨more,r⟩:=I.base.rO b ps q
  have nb:b≠d:=fun z=>by rw [z,e] at r;exact h3 _ (Option.some.inj r)
  exact ⟨more,by rw [bA nb];exact r⟩
 ·rw [bA (nd I.free)];exact I.free
 ·rw [bA (nd (I.jT x c q))];exact I.jT x c q
 ·obtain ⟨q1,q2,q3⟩:=I.pin p hp
  exact ⟨q1,by rw [bA (nd q2)];exact q2,q3⟩
 ·by_cases hb:b=d
  ·subst hb
   rw [ak] at q;cases q;exact ok
  ·rw [bA hb] at q
   refine (I.hok b v q).stay (fun _ _ _ r=>r) (fun c r=> ?_) ht;have:c≠d:=fun z=>by rw [z,e] at r;exact h2 _ (Option.some.inj r)
   rw [bA this];exact r
theorem Inv.O9 {kvs:List (Key×V)} (I:Inv X pins σ H s) (e:H d=some (.dK kvs)):∀o v,X.H₀ d≠some (.lF o v):=fun o v q=>by
 have:=I.base.pZ d o v q;rw [e] at this;cases this
theorem Inv.freeze {kvs:List (Key×V)} {o:Obj} (I:Inv X pins σ H s) (e:H d=some (.dK kvs)) (ho:s.heap.get? d=some o):Inv X pins σ (upd H d (.lF o (.dK kvs))) s:=by
 refine I.O4 e (fun _ z=>by cases z) (fun _ z=>by cases z) (fun _ z=>by cases z) (I.O9 e) ⟨ho, ?_⟩;obtain ⟨z,y,vs,r,dd⟩:=(show cD X.prog X.w H s.heap d (.dK kvs) from I.hok d _ e);exact ⟨z,y,vs,r,dd⟩
theorem Inv.Yt {kvs:List (Key×V)} {o:Obj} (I:Inv X pins σ H s) (e:H d=some (.lF o (.dK kvs))) (hz:∀o v,X.H₀ d≠some (.lF o v)):Inv X pins σ (upd H d (.dK kvs)) s:=by
 refine I.O4 e (fun _ z=>by cases z) (fun _ z=>by cases z) (fun _ z=>by cases z) hz ?_;obtain ⟨_,z,y,vs,r,dd⟩:=(show cD X.prog X.w H s.heap d (.lF o (.dK kvs)) from I.hok d _ e);exact ⟨z,y,vs,r,dd⟩
end
def V5 (d:Addr) (o:Obj) (kvs:List (Key×V)):It:=
 ⟨fun i H=>i<kvs.length/\H d=some (.lF o (.dK kvs)),fun i H x H'=>H'=H /\ ∃k v,kvs[i]? = some (k,v)/\x=kV k,fun i H=>kvs.length<=i/\H d=some (.lF o (.dK kvs))⟩
theorem QW {kvs:List (Key×V)} {vs:List (Key×Value)} (r:KV kvs vs):∀(i:Nat) (k:Key) (v:V),kvs[i]? = some (k,v) -> ∃u,vs[i]? = some (k,u):=by
 induction r with
 | nil=>intro i k v h;cases h
 | cons h r ih=>
   intro i k v e;cases i with
   | zero=>
     have e':=Option.some.inj e;rename_i p q _ _;obtain ⟨h1,h2⟩:=h;obtain ⟨q1,q2⟩:=q;refine ⟨q2, ?_⟩;have:q1=k:=by rw [e'] at h1;exact h1.symm
     subst this;rfl
   | succ i=>exact ih i k v (by simpa using e)
theorem Fv {P:Program} {w:World} {K:PySem.W.Frag} {tg:Expr} (d it:Addr) (o:Obj) (kvs:List (Key×V)) (es:Array DictEntry) (ep:Nat) (hd:o.data = .dict es ep):Turn P w K tg (V5 d o kvs) [it] it (fun i h=>h.IsKeyIter it d i kvs.length ep) where
 mem:=by simp
 obj:=fun i h st b hb=>by
  have e:b=it:=by simpa using hb
  subst e;obtain ⟨o,e,c,d⟩:=st;exact ⟨o,e,fun v z=>by rw [d] at z;cases z⟩
 keep:=fun i h h' st k=>by
  obtain ⟨o,e,c,d⟩:=st;exact ⟨o,k it (by simp) o e,c,d⟩
 item:=by
  intro X hP hw hK hc i pins s σ H E I hf st hg;subst hP hw hK;obtain ⟨hi,hH⟩:=hg;obtain ⟨ho,z,y,vs,r,o',es',ep',q1,q2,q3,q4,q5,q6⟩:=(show cD X.prog X.w H s.heap d (.lF o (.dK kvs)) from I.hok d _ hH);rw [ho] at q1;cases q1;rw [hd] at q3;cases q3;have hl:kvs.length=vs.length:=r.length;obtain ⟨k,v,ekv⟩:∃k v,kvs[i]? = some (k,v):=⟨kvs[i].1,kvs[i].2,by simp [hi]⟩;obtain ⟨u,eu⟩:=QW r i k v ekv;obtain ⟨f0,f1,f2,f3,f4,f5⟩:=hf it (by simp);refine wpAny_pyNext_dict_item (knd:=bY X.prog X.w) (by rw [←hl];exact st) ⟨o,es,ho,q2,hd,q4,q5,q6⟩ eu fun key h' hk st' sb=> ?_;have I1:Inv X pins σ H {s with heap:=h'}:=I.turned (t':=s.toks) (fun b o hb e=>(sb.2 b hb).trans e) f0 f1 f3 f4 f5;obtain ⟨ob,e,c,dd⟩:=id st'
  have rk:RelV (kV k) key:=by
   rw [Ck] at hk;rcases cQ hk with ⟨j,t,e1,e2⟩|⟨x,t,e1,e2⟩
   ·subst e1;subst e2;exact ⟨t,rfl⟩
   ·subst e1;subst e2;exact ⟨t,rfl⟩
  exact ⟨key,rfl,zL (s:={s with heap:=h'}) e c dd (by decide) ⟨kV k,H,I1,rk,⟨rfl,k,v,ekv,rfl⟩,by rw [hl];exact st',fun b hb=>(hf b hb).1⟩⟩
 done:=by
  intro X hP hw hK hc i pins s σ H E I hf st hg;subst hP hw hK;obtain ⟨hi,hH⟩:=hg;obtain ⟨ho,z,y,vs,r,o',es',ep',q1,q2,q3,q4,q5,q6⟩:=(show cD X.prog X.w H s.heap d (.lF o (.dK kvs)) from I.hok d _ hH);rw [ho] at q1;cases q1;rw [hd] at q3;cases q3;have hl:kvs.length=vs.length:=r.length;obtain ⟨f0,f1,f2,f3,f4,f5⟩:=hf it (by simp);exact wpAny_pyNext_dict_end (knd:=bY X.prog X.w) (I.ok.hd hc) (by rw [←hl];exact st) ⟨o,es,ho,q2,hd,q4,q5,q6⟩ (by simp;omega) fun h' eb=>⟨rfl,I.turned (t':=s.toks) (fun b o hb e=>eb b o hb e) f0 f1 f3 f4 f5⟩
 self:=fun _ _ _ _ _ st h=>wpAny_pyIter_keyiter st h
section
variable {X:Cx} {tg:Expr}
def Um (tl:TE):TI:=fun σ H R=>tl σ H fun x H1=>∃d kvs,x = .ref d/\H1 d=some (.dK kvs) /\ ∀o,R (V5 d o kvs) (upd H1 d (.lF o (.dK kvs)))
theorem Ml {l:Expr} {tl:TE} (hl:PE X l tl):PI X tg l (Um tl):=by
 intro pins s σ H R I h;refine cT (hl pins s σ H _ I h) fun v s1 ⟨x,H1,I1,r1,q1⟩=> ?_;obtain ⟨d,kvs,e,hH,q⟩:=q1;subst e;cases r1;obtain ⟨z,hd,vs,r,o,es,ep,ho,q2,q3,q4,q5,q6⟩:=Ke I1.hok hH;refine wpAny_pyIter_dict (knd:=bY X.prog X.w) hd ⟨o,es,ho,q2,q3,q4,q5,q6⟩ ?_;have If:=I1.freeze hH ho;have hl:kvs.length=vs.length:=r.length
 have QJ:(upd H1 d (HO.lF o (.dK kvs))) s1.heap.objs.size=none:=by
  rw [bA (Ne.symm (Nat.ne_of_lt (Heap.lt_size ho)))];exact I1.hok.fresh (Nat.le_refl _)
 refine ⟨s1.heap.objs.size,[s1.heap.objs.size],_,_,upd H1 d (.lF o (.dK kvs)),rfl,If.kept (t':=s1.toks) fun b o e=>Heap.get?_push_of_some _ e,Fv d _ o kvs es ep q3,⟨_,Heap.get?_push_size _ rfl,rfl,by rw [hl];rfl⟩,fun b hb=> ?_,q o⟩;have e:b=s1.heap.objs.size:=by simpa using hb
 subst e;exact If.tQ (Nat.le_refl _) QJ
end
section
variable {d D:Addr} {o:Obj} {kvs:List (Key×V)} {tc:TT} {te:TE} {Q:VK} {rest:St} {H1:Hp}
end
def aee (H H' Yp:Hp):Prop:=∃d Ud o kvs,H d=some (.dK Ud)/\H' d=some (.lF o (.dK kvs))/\Yp=upd H' d (.dK kvs)
def Tf (t:TS):TS:=fun D σ H=>t {D with nx:=fun σ' H'=>∃Yp,aee H H' Yp/\D.nx σ' Yp} σ H
theorem LR {X:Cx} {st:Stmt} {t:TS} (h:PS X st t):PS X st (Tf t):=by
 intro pins s σ H D I q;refine wpAny_mono (h pins s σ H _ I q) (fun f s1 q1=> ?_) fun _ _ z=>z;cases f with
 | next=>
   obtain ⟨σ1,H1,I1,H2,⟨d,Ud,o,kvs,e1,e2,rfl⟩,q2⟩:=q1;exact ⟨σ1,_,I1.Yt e2 (I.O9 e1),q2⟩
 | brk=>exact q1
 | cont=>exact q1
 | ret u=>exact q1
end L2
set_option Elab.async false
set_option linter.all false
set_option maxRecDepth 100000
set_option maxHeartbeats 4000000
namespace L2
open PySem PySem.Spec PyProof.Rows
theorem J9 {d:Addr} {o:Obj} {kvs:List (Key×V)} {g:TG} {tb:TS} {D:Ends} {σ:St} {H:Hp} (Pv:Nat->St->Hp->Prop) (h0:Pv 0 σ H) (hl:∀i σ H,i<=kvs.length->Pv i σ H->H d=some (.lF o (.dK kvs)))
 (hs:∀i k v σ H,kvs[i]? = some (k,v)->Pv i σ H->g (kV k) σ H fun σ2 H2=>tb {D with nx:=Pv (i+1),ct:=Pv (i+1),bk:=D.nx} σ2 H2) (hd:∀σ H,Pv kvs.length σ H->D.nx σ H):
 ∃W:Nat->Nat->St->Hp->Prop,(∃m,W 0 m σ H) /\ ∀i m σ H,W i m σ H ->
  ((V5 d o kvs).stop i H/\D.nx σ H)\/((V5 d o kvs).go i H /\ ∃N:St->Hp->Prop,(∀σ' H',N σ' H' -> ∃m',m'<m/\W (i+1) m' σ' H') /\ ∀x H',(V5 d o kvs).Ov i H x H'->g x σ H' fun σ2 H2=>tb {D with nx:=N,ct:=N,bk:=D.nx} σ2 H2):=by
 refine ⟨fun i m σ H=>m=kvs.length - i/\i<=kvs.length/\Pv i σ H,⟨kvs.length,by simp,Nat.zero_le _,h0⟩, ?_⟩;rintro i m σ H ⟨rfl,hi,p⟩;have q:=hl i σ H hi p
 by_cases hlt:i<kvs.length
 ·refine .inr ⟨⟨hlt,q⟩,Pv (i+1),fun σ' H' p'=>⟨kvs.length - (i+1),by omega,rfl,hlt,p'⟩,fun x H' y=> ?_⟩
  obtain ⟨rfl,k,v,e,rfl⟩:=y;exact hs i k v σ _ e p
 ·have e:i=kvs.length:=by omega
  subst e;exact .inl ⟨⟨Nat.le_refl _,q⟩,hd σ H p⟩
def uY (hs:List Int) (g:Int->Int):List (Key×V):=hs.map fun h=>(Sum.inl h,V.int (g h))
theorem wQ {hs:List Int} {g:Int->Int}:∀(h:Int),gW (uY hs g) (Sum.inl h)=if h∈hs then some (V.int (g h)) else none:=by
 intro h
 induction hs with
 | nil=>rfl
 | cons x hs ih=>
   show gW ((Sum.inl x,V.int (g x))::uY hs g) _=_
   by_cases e:x=h
   ·subst e
    rw [dY rfl,if_pos (List.mem_cons_self ..)]
   ·rw [dZ (fun z=>e (Sum.inl.inj z)),ih]
    by_cases m:h∈hs
    ·rw [if_pos m,if_pos (List.mem_cons_of_mem _ m)]
    ·rw [if_neg m,if_neg (fun z=>(List.mem_cons.mp z).elim (fun z=>e z.symm) m)]
def zN (g:Int->Int) (h v:Int):Int->Int:=fun x=>if x=h then v else g x
def hAdd (hs:List Int) (h:Int):List Int:=if h∈hs then hs else hs++[h]
theorem Nb {hs:List Int} {g:Int->Int} (h v:Int):putK (uY hs g) (Sum.inl h) (V.int v)=uY (hAdd hs h) (zN g h v):=by
 unfold putK hAdd;rw [lH,wQ]
 by_cases m:h∈hs
 ·rw [if_pos m,Option.isSome_some,if_pos rfl,if_pos m]
  unfold uY;rw [List.map_map];refine List.map_congr_left fun x _=> ?_;simp only [Function.comp,zN]
  by_cases e:x=h
  ·subst e;simp
  ·rw [if_neg (fun z=>e (Sum.inl.inj z)),if_neg e]
 ·rw [if_neg m,if_neg (by simp),if_neg m]
  unfold uY;rw [List.map_append];congr 1
  ·refine List.map_congr_left fun x hx=> ?_
   have:x≠h:=fun z=>m (z▸hx);simp only [zN,if_neg this]
  ·simp [zN]
theorem sX:∀(n:Nat) (hs:List Int),hs.Nodup->(∀h∈hs,0<=h/\h<(n:Int))->hs.length<=n
 | 0,hs,_,hr=>by
   cases hs with
   | nil=>exact Nat.le_refl _
   | cons x hs=>have:=hr x (List.mem_cons_self ..);omega
 | n+1,hs,nd,hr=>by
   have ih:=sX n (hs.erase (n:Int)) (nd.erase _) fun h hh=>by
    have h1:=(nd.mem_erase_iff).mp hh;have h2:=hr h h1.2;have:=h1.1;omega
   by_cases m:(n:Int)∈hs
   ·rw [List.length_erase_of_mem m] at ih;omega
   ·rw [List.erase_of_not_mem m] at ih;omega
theorem Ny {hs:List Int} {h:Int} (nd:hs.Nodup):(hAdd hs h).Nodup:=by
 unfold hAdd
 by_cases m:h∈hs
 ·rw [if_pos m];exact nd
 ·rw [if_neg m]
  rw [List.nodup_append];exact ⟨nd,by simp,fun a ha b hb e=>by simp at hb;subst hb;subst e;exact m ha⟩
theorem tM {hs:List Int} {h x:Int}:x∈hAdd hs h↔x∈hs\/x=h:=by
 unfold hAdd
 by_cases m:h∈hs
 ·rw [if_pos m]
  exact ⟨.inl,fun z=>z.elim id fun e=>e▸m⟩
 ·rw [if_neg m];simp
structure iW (H:Hp) (d:Addr) (g:Int->Int):Prop where
 ex:∃hs:List Int,H d=some (.dK (uY hs g))/\hs.Nodup/\(∀h∈hs,0<=h/\h<8) /\ ∀h,h∉hs->g h=0
 nn:∀h,0<=g h
theorem iW.get {H:Hp} {d:Addr} {g:Int->Int} (k:iW H d g):∃kvs,H d=some (.dK kvs)/\kvs.length<=8 /\ ∀h:Int,(gW kvs (Sum.inl h)).getD (.int 0) = .int (g h):=by
 obtain ⟨hs,e,nd,r,z⟩:=k.ex;refine ⟨_,e,by rw [uY,List.length_map];exact sX 8 hs nd r,fun h=> ?_⟩;rw [wQ]
 by_cases m:h∈hs
 ·rw [if_pos m];rfl
 ·rw [if_neg m,z h m];rfl
theorem iW.put {H:Hp} {d:Addr} {g:Int->Int} {h v:Int} (k:iW H d g) (h0:0<=h) (h1:h<8) (v0:0<=v):∃kvs,H d=some (.dK kvs)/\kvs.length<sizeLine /\ ∀H',H' d=some (.dK (putK kvs (Sum.inl h) (.int v)))->iW H' d (zN g h v):=by
 obtain ⟨hs,e,nd,r,z⟩:=k.ex;refine ⟨_,e, ?_,fun H' e'=>⟨⟨hAdd hs h,by rw [e',Nb],Ny nd,fun x hx=> ?_,fun x hx=> ?_⟩,fun x=> ?_⟩⟩
 ·have:=sX 8 hs nd r
  rw [uY,List.length_map,sizeLine_eq];omega
 ·rcases tM.mp hx with hx|rfl
  ·exact r x hx
  ·exact ⟨h0,h1⟩
 ·have n1:x∉hs:=fun z=>hx (tM.mpr (.inl z))
  have n2:x≠h:=fun z=>hx (tM.mpr (.inr z));unfold zN;rw [if_neg n2];exact z x n1
 ·unfold zN
  split
  ·exact v0
  ·exact k.nn x
theorem iW.kp {H H':Hp} {d r:Addr} {g:Int->Int} (k:iW H d g) (kp:Kp r H H') (n:d≠r):iW H' d g:=by
 obtain ⟨hs,e,q⟩:=k.ex;exact ⟨⟨hs,kp _ _ e n,q⟩,k.nn⟩
theorem iW.same {H H':Hp} {d:Addr} {g:Int->Int} (k:iW H d g) (s:Same H H'):iW H' d g:=by
 obtain ⟨hs,e,q⟩:=k.ex;exact ⟨⟨hs,s _ _ e,q⟩,k.nn⟩
theorem iW.ext {H:Hp} {d:Addr} {g g':Int->Int} (k:iW H d g) (e:∀h,g h=g' h):iW H d g':=by
 have:g=g':=funext e;rw [←this];exact k
end L2
set_option Elab.async false
set_option linter.all false
set_option maxRecDepth 100000
set_option maxHeartbeats 4000000
namespace L2
open PySem PySem.Spec PyProof.Rows
def KZ (hi:Int) (n:Nat):It:=⟨fun i _=>i<n,fun i H x H'=>H'=H/\x = .int (hi - i),fun i _=>n<=i⟩
theorem yr {P:Program} {w:World} {K:PySem.W.Frag} {tg:Expr} (it:Addr) (hi:Int) (n:Nat):Turn P w K tg (KZ hi n) [it] it (fun i h=>IsRangeIter h it (hi+(i:Nat)*(-1)) ((n:Int) - (i:Nat)) (-1)) where
 mem:=by simp
 obj:=fun i h st b hb=>by
  have e:b=it:=by simpa using hb
  subst e
  exact ⟨_,st,fun v z=>by
   have z':Data.fields _=Data.cell v:=z;cases z'⟩
 keep:=fun i h h' st k=>k it (by simp) _ st
 item:=by
  intro X hP hw hK hc i pins s σ H E I hf st hg;subst hP hw hK;obtain ⟨f0,f1,f2,f3,f4,f5⟩:=hf it (by simp);have W:=Walks.range (prog:=X.prog) (w:=X.w) (I.ok.hd hc) it hi (-1) n;refine W.item i s _ _ hg st fun v h' tk hv st' kk=> ?_;obtain ⟨t,rfl⟩:=hv;have I1:Inv X pins σ H {s with heap:=h',toks:=tk}:=I.turned (fun b o hb e=>kk b o (by simpa using hb) e) f0 f1 f3 f4 f5;refine ⟨_,rfl,zL (s:={s with heap:=h',toks:=tk}) (n:= "range_iterator") st' rfl rfl (by decide) ⟨.int (hi - i),H,I1,⟨t, ?_⟩,⟨rfl,rfl⟩,st',fun b hb=>(hf b hb).1⟩⟩;congr 1;omega
 done:=by
  intro X hP hw hK hc i pins s σ H E I hf st hg;subst hP hw hK;obtain ⟨f0,f1,f2,f3,f4,f5⟩:=hf it (by simp);exact wpAny_pyNext_range_end (I.ok.hd hc) st (by have:n<=i:=hg;omega) fun h' eb=>⟨rfl,I.turned (t':=s.toks) (fun b o hb e=>eb b o hb e) f0 f1 f3 f4 f5⟩
 self:=fun _ _ _ _ _ st h=>wpAny_pyIter_rangeiter st h
section
variable {X:Cx} {tg:Expr}
theorem O1 (a b:Int):Builtin.Range.rangeSize a b (-1)=if a>b then a - b else 0:=by
 unfold Builtin.Range.rangeSize;rw [if_neg (by decide)];split
 ·simp
 ·rfl
theorem Fz {a b:Int} (h1: -(2 ^ 61)<=a) (h2:a<2 ^ 61) (h3: -(2 ^ 61)<=b) (h4:b<2 ^ 61):Builtin.Range.small a b (-1)=true:=by
 unfold Builtin.Range.small;rw [O1]
 have fits:∀z:Int, -(2 ^ 63)<=z->z<2 ^ 63->Builtin.Range.rangeFitsLong z=true:=fun z l1 l2=>by
  unfold Builtin.Range.rangeFitsLong;rw [decide_eq_true l1,decide_eq_true l2];rfl
 have f1:=fits (if a>b then a - b else 0) (by split<;>omega) (by split<;>omega);have f2:=fits (b+(-1+1)) (by omega) (by omega);simp only [fits a (by omega) (by omega),fits b (by omega) (by omega),fits (-1) (by decide) (by decide),f1,f2,Bool.and_self,Bool.true_and,show ¬((-1:Int)>0) by decide,if_false,Bool.or_true]
def Uj (ta:TA):TI:=fun σ H R=>ta σ H fun vs H1=>∃i j:Int,vs=[.int i,.int j,.int (-1)]/\(-(2 ^ 61)<=i/\i<2 ^ 61 /\ -(2 ^ 61)<=j/\j<2 ^ 61)/\R (KZ i (i - j).toNat) H1
theorem vD {a b c:Expr} {ta:TA} {p pos:Pos} (hg:Gl X "range") (hm:X.mg "range" = none) (ha:PA X [a,b,c] ta) (hs:starEach [a,b,c] X.env=[(false,eval a X.env),(false,eval b X.env),(false,eval c X.env)]:=by rfl) (hs2:starEach [b,c] X.env=[(false,eval b X.env),(false,eval c X.env)]:=by rfl):
 PI X tg (.Call (.Name "range" p) [a,b,c] [] pos) (Uj ta):=by
 intro pins s σ H R I h;refine Call_ (nW I hg hm boot_range (PyProof.Rows.callWith_type1 (cT (ha pos pins s σ H _ I h) fun us s1 ⟨vs,H1,I1,r1,q1⟩=> ?_) (by rw [hs,hs2]) (by rw [hs2];rfl)));obtain ⟨i,j,e,⟨q1,q2,q3,q4⟩,q⟩:=q1;subst e;cases r1 with
 | cons r rr=>
   cases rr with
   | cons r' rr=>
     cases rr with
     | cons r'' rr=>
       cases rr;obtain ⟨t,rfl⟩:=r;obtain ⟨t',rfl⟩:=r';obtain ⟨t'',rfl⟩:=r'';refine call_range_3 (by decide) ?_ (.inl (PyProof.noPylong_small (by decide)));refine wpAny_pyIter_range (IsRange.new ..) (Fz q1 q2 q3 q4) ?_;have I2:Inv X pins σ H1 {s1 with heap:=s1.heap.push {cls:= .type "range",data:= .fields #[.int i t,.int j t',.int (-1) t'']}}:=I1.kept (t':=s1.toks) fun b o e=>Heap.get?_push_of_some _ e
       refine ⟨(s1.heap.push {cls:= .type "range",data:= .fields #[.int i t,.int j t',.int (-1) t'']}).objs.size,[(s1.heap.push {cls:= .type "range",data:= .fields #[.int i t,.int j t',.int (-1) t'']}).objs.size],_,_,H1,rfl,
        I2.kept (t':=s1.toks) fun b o e=>Heap.get?_push_of_some _ e,yr _ i (i - j).toNat, ?_,fun b hb=> ?_,q⟩
       ·have e1:i+((0:Nat):Int)*(-1)=i:=by simp
        have e2:(((i - j).toNat:Nat):Int) - ((0:Nat):Int)=Builtin.Range.rangeSize i j (-1):=by rw [O1];split<;>omega
        show IsRangeIter _ _ (i+((0:Nat):Int)*(-1)) ((((i - j).toNat:Nat):Int) - ((0:Nat):Int)) (-1);rw [e1,e2];exact Heap.get?_push_size _ rfl
       ·have e:b=(s1.heap.push {cls:= .type "range",data:= .fields #[.int i t,.int j t',.int (-1) t'']}).objs.size:=by simpa using hb
        subst e;exact I2.tQ (Nat.le_refl _) (I2.hok.fresh (Nat.le_refl _))
theorem tR {hi:Int} {n:Nat} {g:TG} {tb:TS} {D:Ends} {σ:St} {H:Hp} (Pv:Nat->St->Hp->Prop) (h0:Pv 0 σ H)
 (hs:∀i σ H,i<n->Pv i σ H->g (.int (hi - i)) σ H fun σ2 H2=>tb {D with nx:=Pv (i+1),ct:=Pv (i+1),bk:=D.nx} σ2 H2) (hd:∀σ H,Pv n σ H->D.nx σ H):
 ∃W:Nat->Nat->St->Hp->Prop,(∃m,W 0 m σ H) /\ ∀i m σ H,W i m σ H ->
  ((KZ hi n).stop i H/\D.nx σ H)\/((KZ hi n).go i H /\ ∃N:St->Hp->Prop,(∀σ' H',N σ' H' -> ∃m',m'<m/\W (i+1) m' σ' H') /\ ∀x H',(KZ hi n).Ov i H x H'->g x σ H' fun σ2 H2=>tb {D with nx:=N,ct:=N,bk:=D.nx} σ2 H2):=by
 refine ⟨fun i m σ H=>m=n - i/\i<=n/\Pv i σ H,⟨n,by simp,Nat.zero_le _,h0⟩, ?_⟩;rintro i m σ H ⟨rfl,hi',p⟩
 by_cases hlt:i<n
 ·refine .inr ⟨hlt,Pv (i+1),fun σ' H' p'=>⟨n - (i+1),by omega,rfl,hlt,p'⟩,fun x H' y=> ?_⟩
  obtain ⟨e,y⟩:=y;subst e y;exact hs i σ _ hlt p
 ·have e:i=n:=by omega
  subst e;exact .inl ⟨Nat.le_refl _,hd σ H p⟩
end
end L2
set_option Elab.async false
set_option linter.all false
set_option maxRecDepth 100000
set_option maxHeartbeats 4000000
namespace L2
open PySem PySem.Spec PyProof.Rows
section
variable {X:Cx} {tg:Expr}
end
end L2
set_option Elab.async false
set_option linter.all false
set_option maxRecDepth 100000
set_option maxHeartbeats 4000000
namespace L2
open PySem PySem.Spec PyProof.Rows
section
variable {X:Cx}
end
end L2
set_option Elab.async false
set_option linter.all false
set_option maxRecDepth 100000
set_option maxHeartbeats 4000000
namespace L2
open PySem PySem.Spec PyProof.Rows
section
variable {H H':Hp}
mutual
theorem Dat.same (k:Same H H'):∀(d:PyData) {v:V},Dat H v d->Dat H' v d
 | .none,_,h=>by simp only [Dat] at h ⊢;exact h
 | .bool _,_,h=>by simp only [Dat] at h ⊢;exact h
 | .int _,_,h=>by simp only [Dat] at h ⊢;exact h
 | .str _,_,h=>by simp only [Dat] at h ⊢;exact h
 | .list ds,_,h=>by simp only [Dat] at h ⊢;obtain ⟨a,vs,e,q,r⟩:=h;exact ⟨a,vs,e,k _ _ q,aD.same k ds r⟩
 | .tuple ds,_,h=>by simp only [Dat] at h ⊢;obtain ⟨a,vs,e,q,r⟩:=h;exact ⟨a,vs,e,k _ _ q,aD.same k ds r⟩
 | .dict _,_,h=>by simp only [Dat] at h
theorem aD.same (k:Same H H'):∀(ds:List PyData) {vs:List V},aD H vs ds->aD H' vs ds
 | [],[],_=>by simp only [aD]
 | d::ds,v::vs,h=>by simp only [aD] at h ⊢;exact ⟨Dat.same k d h.1,aD.same k ds h.2⟩
 | _::_,[],h=>by simp only [aD] at h
 | [],_::_,h=>by simp only [aD] at h
end
end
section
variable {X:Cx} {K:PySem.W.Frag}
inductive Yi (H:Hp):V->Value->Prop where
 | int (i:Int):Yi H (.int i) (.type "int")
 | lst {a:Addr} {xs:List V} (e:H a=some (.lst xs)):Yi H (.ref a) (.type "list")
 | tup {a:Addr} {xs:List V} (e:H a=some (.tup xs)):Yi H (.ref a) (.type "tuple")
def Tw (K:PySem.W.Frag):List V->Hp->VK->Prop:=fun xs H Q=>∃(x:V) (t:Value) (p:Addr) (ns:List String) (b:Bool),xs=[x,.ref p]/\Yi H x t/\H p=some (.tup (ns.map V.ty))/\PySem.W.kitAny K t (ns.map Value.type)=some b/\Q (.bl b) H
theorem Ay {ns:List String}:∀{us:List Value},Vals (ns.map V.ty) us->us=ns.map Value.type:=by
 induction ns with
 | nil=>intro us r;cases r;rfl
 | cons c cs ih=>
   intro us r;cases r with
   | cons r rs=>cases (show _=Value.type c from r);rw [ih rs];rfl
theorem CZ (hk:X.K=K):jG X (.builtin "isinstance") (Tw K):=by
 subst hk;intro pins s σ H xs us Q I r h;obtain ⟨x,t,p,ns,b,rfl,ty,hp,e,q⟩:=h;obtain ⟨u,w',rfl,r1,r2⟩:=vals2 r;cases (show w'=Value.ref p from r2);obtain ⟨its,rv,⟨o,ho,hc,m,hd⟩,hz⟩:=I.tuple (cu.of hp);have ei:=Ay rv;subst ei;obtain ⟨c0,d0,dt,sl⟩:=o;simp only at hc hd;subst hc hd;cases ty with
 | int i=>obtain ⟨t,q1⟩:=(show ∃t,u=Value.int i t from r1);cases q1;exact PySem.W.kia_tup PySem.W.kitx_int I.vH True.intro ho e (fun z=>nomatch z) fun tk=>⟨.bl b,H,I.tok _,rfl,q⟩
 | @lst a xs ea=>
   cases (show u=Value.ref a from r1);obtain ⟨_,_,n,_,h1⟩:=(show cD X.prog X.w H s.heap a (.lst xs) from I.hok a _ ea);exact PySem.W.kia_tup PySem.W.kitx_list I.vH ⟨_,h1,rfl⟩ ho e (fun z=>nomatch z) fun tk=>⟨.bl b,H,I.tok _,rfl,q⟩
 | @tup a xs ea=>
   cases (show u=Value.ref a from r1);obtain ⟨_,_,_,p⟩:=(show cD X.prog X.w H s.heap a (.tup xs) from I.hok a _ ea);obtain ⟨o,h1,h2,_⟩:=p;exact PySem.W.kia_tup PySem.W.kitx_tuple I.vH ⟨o,h1,h2⟩ ho e (fun z=>nomatch z) fun tk=>⟨.bl b,H,I.tok _,rfl,q⟩
theorem Ai (K:PySem.W.Frag):PySem.W.kitAny K (.type "list") (["list","tuple"].map Value.type)=some true:=by kernel_rfl
theorem xP (K:PySem.W.Frag):PySem.W.kitAny K (.type "tuple") (["list","tuple"].map Value.type)=some true:=by kernel_rfl
theorem Dj (K:PySem.W.Frag):PySem.W.kitAny K (.type "int") (["list","tuple"].map Value.type)=some false:=by kernel_rfl
theorem lY (K:PySem.W.Frag):PySem.W.kitOne K (.type "tuple") (.type "list")=some false:=by kernel_rfl
theorem lZ (K:PySem.W.Frag):PySem.W.kitOne K (.type "list") (.type "tuple")=some false:=by kernel_rfl
end
section
variable {K:PySem.W.Frag} {a D:Addr} {xs:List V} {tc:TT} {te:TE} {Q:VK} {rest:St} {H1:Hp}
theorem wV {f:Nat->Option PyData} (hf:∀i d,f i=some d->Ld d=true):∀l:List Nat,zF (l.filterMap f)=true
 | []=>rfl
 | i::l=>by
   rw [List.filterMap_cons];cases e:f i with
   | none=>exact wV hf l
   | some d=>simp only [zF,hf i d e,wV hf l,Bool.and_self]
theorem vM (f:Nat->Option PyData) (hf:∀i d,f i=some d->Ld d=true) (hD:H1 D=none) (hq:aW K H1 a xs) (hx:xs.length<=100000)
 (hs:∀i x H (G:Hp->Prop) (F:VK),xs[i]? = some x->Same H1 H->(∀H',Same H H'->f i=none->G H')->(∀y d H',Same H H'->f i=some d->Dat H' y d->F y H')->tc (some x::rest) H fun b H3=>if b=true then te (some x::rest) H3 F else G H3)
 (hd:∀H vs,Same H1 H->H D=some (.lst vs)->aD H vs ((List.range xs.length).filterMap f)->Q (.ref D) H):mK (Oq K a) (fG 0) tc te Q D (none::rest) H1:=by
 refine m_ (K:=K) (xs:=xs) (fun i σ H=>(∃v,σ=v::rest)/\Same H1 H /\ ∃vs,H D=some (.lst vs)/\aD H vs ((List.range i).filterMap f)) ⟨⟨none,rfl⟩,aC hD,[],ak,by simp [aD]⟩ (fun i σ H _ ⟨_,sm,_⟩=>sm.Wi _ _ hq) ?_ (fun σ H ⟨_,sm,vs,e,d⟩=>hd H vs sm e d);rintro i x σ H hi ⟨⟨v,rfl⟩,sm,vs,e,d⟩;have hil:i<xs.length:=(List.getElem?_eq_some_iff.mp hi).1;have im:=wV hf (List.range i);refine hs i x H _ _ hi sm (fun H3 s3 ef=>⟨⟨_,rfl⟩,sm.trans s3,vs,s3 _ _ e, ?_⟩) (fun y dd H4 s4 ef dy=> ?_)
 ·rw [fQ,ef]
  simpa using aD.keep s3.tups _ im d
 ·have hl:vs.length<=i:=by rw [d.length];exact tU f i
  have kp:Kp D H4 (upd H4 D (.lst (vs++[y]))):=Kp.set;have tp:=kp.tups (s4 _ _ e);refine ⟨vs,s4 _ _ e, ?_,⟨_,rfl⟩,(sm.trans s4).newly hD,vs++[y],ak, ?_⟩
  ·rw [sizeLine_eq];omega
  ·rw [fQ,ef]
   exact GX (aD.keep (fun a xs h=>tp _ _ (s4.tups _ _ h)) _ im d) (Dat.keep tp _ (hf i dd ef) dy)
end
section
variable {X:Cx}
end
end L2
set_option Elab.async false
set_option linter.all false
set_option maxRecDepth 100000
set_option maxHeartbeats 4000000
namespace L2
open PySem
section
variable {K:PySem.W.Frag} {a D:Addr} {xs:List V} {tc:TT} {te:TE} {Q:VK} {rest:St} {H1:Hp}
end
end L2
set_option Elab.async false
set_option linter.all false
set_option maxRecDepth 100000
set_option maxHeartbeats 4000000
namespace L2
open PySem PySem.Spec PyProof.Rows
theorem yP {xc:Str}:∀(pre post:List (Str×NameKind)) (n:Nat) (acc:List (Str×Addr)) (h:Heap),(∀y∈pre++post,y.2 ≠ .cell) ->
 cellsFrom n (pre++(xc,.cell)::post) acc=(xc,n)::acc/\pushCells h (pre++(xc,.cell)::post)=h.push {cls:= .type "cell",data:= .cell none}
 | (m,k)::pre,post,n,acc,h,hn=>by
   have hk:(k==NameKind.cell)=false:=by simpa using hn (m,k) (by simp)
   have ih:=yP (xc:=xc) pre post n acc h fun y hy=>hn y (by simp only [List.cons_append,List.mem_cons];exact .inr hy);rw [List.cons_append];unfold cellsFrom pushCells;simp only [hk,Bool.false_eq_true,if_false];exact ih
 | [],post,n,acc,h,hn=>by
   have Gm:∀(post:List (Str×NameKind)) (n:Nat) (acc:List (Str×Addr)) (h:Heap),(∀y∈post,y.2 ≠ .cell)->cellsFrom n post acc=acc/\pushCells h post=h:=by
    intro post
    induction post with
    | nil=>intro n acc h _;exact ⟨rfl,rfl⟩
    | cons y r ih=>
      intro n acc h hh;obtain ⟨m,k⟩:=y;have hk:(k==NameKind.cell)=false:=by simpa using hh (m,k) (by simp)
      unfold cellsFrom pushCells;simp only [hk,Bool.false_eq_true,if_false];exact ih n acc h fun y hy=>hh y (List.mem_cons_of_mem _ hy)
   rw [List.nil_append];unfold cellsFrom pushCells;simp only [beq_self_eq_true,if_true];exact Gm post (n+1) ((xc,n)::acc) _ fun y hy=>hn y (by simpa using hy)
structure bG (N own:List Str) (caps:List Nat) (XN:List Str) (outer scope:Scope) (xc:Str):Prop where
 kind:scope.kind = .function
 one:∃pre post,scope.names=pre++(xc,.cell)::post /\ ∀y∈pre++post,y.2 ≠ .cell
 xcl:scope.names.lookup xc=some .cell
 nof:(xc,NameKind.free)∉scope.names
 names:∀y∈scope.names,y.2 = .local->scope.names.lookup y.1=some .local
 free:∀y∈scope.names,y.2 = .free->outer.names.lookup y.1=some .cell\/outer.names.lookup y.1=some .free
 nd:N.Nodup
 len:N.length=own.length+caps.length
 cap:∀(j:Nat),j<caps.length->N[own.length+j]? = XN[caps.getD j 0]? /\ ∃x,N[own.length+j]? = some x/\(x,NameKind.free)∈scope.names/\scope.names.lookup x=some .free
def dB (X:Cx) (scope:Scope) (xc:Str) (C:Addr) (N:List Str) (s:Shared) (H:Hp) (fp:List Addr):Cx:=
 {X with N:=N,s₀:=s,H₀:=H,env:=compEnvC scope ((xc,Nat.succ C)::jx X.env scope.names []) C X.env,outer:=X.stack,ex:=fp,fn:=fun y=>decide (y=xc),pn:=[],xe:=fun _ _=>False}
section
variable {X:Cx} {pins:List (Addr×Obj)} {σ:St} {H:Hp} {s:Shared} {scope:Scope} {N own:List Str} {caps:List Nat} {fp:List Addr} {C:Nat} {xc:Str}
theorem bG.ug (S:bG N own caps X.N X.env.scope scope xc) (ok:X.Ok):∀y∈scope.names,y.2 = .free->(X.env.cells.lookup y.1).isSome=true:=fun y hy hf=>by
 obtain ⟨c,e⟩:=ok.has y.1 (S.free y hy hf);rw [e];rfl
theorem bG.csub (S:bG N own caps X.N X.env.scope scope xc) (ok:X.Ok) {x:Str} {c:Addr} (h:(jx X.env scope.names []).lookup x=some c):X.env.cells.lookup x=some c:=by
 rw [dI _ _ _ (S.ug ok)] at h;split at h
 ·exact h
 ·simp at h
theorem bG.look (S:bG N own caps X.N X.env.scope scope xc) (ok:X.Ok) {x:Str} {c:Addr} (h:((xc,Nat.succ C)::jx X.env scope.names []).lookup x=some c):(x=xc/\c=Nat.succ C)\/(x≠xc/\X.env.cells.lookup x=some c):=by
 rw [List.lookup_cons] at h;cases q:x==xc with
 | true=>rw [q] at h;exact .inl ⟨by simpa using q,(Option.some.inj h).symm⟩
 | false=>rw [q] at h;exact .inr ⟨by simpa using q,S.csub ok h⟩
theorem bG.Vb (S:bG N own caps X.N X.env.scope scope xc) {x:Str} (h:(x,NameKind.cell)∈scope.names):x=xc:=by
 obtain ⟨pre,post,e,no⟩:=S.one;rw [e] at h;rcases List.mem_append.mp h with h|h
 ·exact absurd rfl (no _ (List.mem_append_left _ h))
 ·rcases List.mem_cons.mp h with h|h
  ·exact congrArg Prod.fst h
  ·exact absurd rfl (no _ (List.mem_append_right _ h))
theorem bG.tE {S:bG N own caps X.N X.env.scope scope xc} {x:Str} (h:(relabel scope X.env).names.lookup x=some .cell\/(relabel scope X.env).names.lookup x=some .free):x=xc\/(x,NameKind.free)∈scope.names:=by
 have e:=eN X.env scope.names x;have e':(relabel scope X.env).names.lookup x=(scope.names.lookup x).map fun k=>if (k == .free&&X.env.scope.kind == .function&&X.env.kindOf x==some .cell)=true then NameKind.cell else k:=e;rw [e'] at h;cases q:scope.names.lookup x with
 | none=>rw [q] at h;simp at h
 | some k=>
   have hm:=PySem.mem_of_lookup q
   by_cases hk:k = .free
   ·subst hk;exact .inr hm
   ·rw [q] at h
    have hb:(k==NameKind.free)=false:=by simpa using hk
    simp only [Option.map_some,hb,Bool.false_and,Bool.false_eq_true,if_false] at h;rcases h with h|h
    ·have hc:=Option.some.inj h
     subst hc;exact .inl (S.Vb hm)
    ·exact absurd (Option.some.inj h) hk
theorem Inv.Va {h1:Heap} {D:Nat} (I:Inv X pins σ H s) (S:bG N own caps X.N X.env.scope scope xc) (hfp:∀b∈fp,jV X pins H b) (hfo:∀b∈fp,∃o,s.heap.get? b=some o)
 (hD:D=s.heap.objs.size) (hC:C=s.heap.objs.size+1) (old:∀b o,s.heap.get? b=some o->h1.get? b=some o) (hns:h1.Ns C (fun _=>none)) (hl:h1.get? D=some {cls:= .type "list",data:= .seq #[]}) (hce:h1.IsCell (Nat.succ C) none) {t:Nat}:
 Inv (dB X scope xc C N s H fp) [] (st0 own caps σ) (upd H D (.lst [])) {s with heap:=h1,toks:=t}:=by
 have some':=S.ug I.ok;have look:∀{x c},((xc,Nat.succ C)::jx X.env scope.names []).lookup x=some c->(x=xc/\c=Nat.succ C)\/(x≠xc/\X.env.cells.lookup x=some c):=fun h=>S.look I.ok h;have freshD:H D=none:=I.hok.fresh (by rw [hD];exact Nat.le_refl _);have CJ:H C=none:=I.hok.fresh (by rw [hC];exact Nat.le_succ _);have Ro:H (Nat.succ C)=none:=I.hok.fresh (by show s.heap.objs.size<=Nat.succ C;omega)
 have uq:∀x c,X.env.cells.lookup x=some c->c<s.heap.objs.size:=fun x c e=>by
  obtain ⟨v,z⟩:=I.cell x c e;exact z.lt
 have Nz:∀b∈fp,b<s.heap.objs.size:=fun b hb=>by
  obtain ⟨o,e⟩:=hfo b hb;exact Heap.lt_size e
 have DC:D≠C:=by omega
 refine ⟨⟨I.ok.mod,S.kind,I.ok.glob,I.ok.blt,by show s.heap.objs.size<=C;omega,fun x y c e1 e2=> ?inj,fun x h=> ?_,fun x c h e=> ?cab,I.ok.hd,I.ok.frames,Or.inl rfl,fun b hb=>⟨?_,fun x c e=> ?_⟩,I.bs,Nat.le_trans I.ok.Lj I.sz,fun b o e hb=> ?_,fun b hb z=> ?_,I.stack,I.vZ⟩,
  rfl,I.bare,Un.laid old (by show s.heap.objs.size<=D;omega) freshD,⟨_,hns,fun j x v e1 e2 e3=> ?_⟩,fun x c e=> ?_, ?_,fun x c e=> ?_,fun p hp=> ?_,I.hok.laid old (by omega) ?_, ?_⟩
 case inj=>
  rcases look e1 with ⟨a1,a2⟩|⟨a1,a2⟩
  ·rcases look e2 with ⟨b1,b2⟩|⟨b1,b2⟩
   ·exact a1.trans b1.symm
   ·have:=jC (uq y c b2);omega
  ·rcases look e2 with ⟨b1,b2⟩|⟨b1,b2⟩
   ·have:=jC (uq x c a2);omega
   ·exact I.ok.inj x y c a2 b2
 case cab=>
  rcases look e with ⟨a1,a2⟩|⟨a1,a2⟩
  ·show s.heap.objs.size<=c;omega
  ·exact absurd (of_decide_eq_true h) a1
 ·show ∃c,((xc,Nat.succ C)::jx X.env scope.names []).lookup x=some c
  by_cases ex:x=xc
  ·subst ex;exact ⟨Nat.succ C,by simp [List.lookup_cons]⟩
  ·have hm:=(bG.tE (S:=S) (X:=X) h).resolve_left ex
   obtain ⟨c,e⟩:=Option.isSome_iff_exists.mp (some' _ hm rfl);have q:(x==xc)=false:=by simpa using ex
   exact ⟨c,by rw [List.lookup_cons,q,dI _ _ _ some',if_pos hm];exact e⟩
 ·exact Nat.ne_of_lt (show @LT.lt Nat _ b C by have:=jC (Nz b hb);omega)
 ·rcases look e with ⟨a1,a2⟩|⟨a1,a2⟩
  ·have:=jC (Nz b hb)
   subst a2;exact Nat.ne_of_gt (show @LT.lt Nat _ b (Nat.succ C) by omega)
  ·exact (hfp b hb).2.2.2.2.1 x c a2
 ·rcases (hfp b hb).2.2.2.1 with z|z
  ·exact I.ok.Gn b o e z
  ·exact absurd (Nat.lt_of_lt_of_le (Heap.lt_size e) (Nat.le_trans I.ok.Lj z)) (Nat.lt_irrefl _)
 ·rcases List.mem_cons.mp (I.pG b z) with q|q
  ·exact (hfp b hb).2.1 q
  ·exact (hfp b hb).2.2.1 q
 ·have e1:N[j]? = some x:=e1
  have hj:own.length<=j:=by
   by_cases q:own.length<=j
   ·exact q
   ·exfalso
    unfold st0 at e2;rw [List.getElem?_append_left (by simp;omega),List.getElem?_map] at e2;cases r:own[j]? with
    | none=>rw [r] at e2;cases e2
    | some a=>rw [r] at e2;cases e2
  have hjl:j<N.length:=(List.getElem?_eq_some_iff.mp e1).1;have hjc:j - own.length<caps.length:=by have:=S.len;omega
  obtain ⟨c1,x',c2,c3,c4⟩:=S.cap (j - own.length) hjc;rw [show own.length+(j - own.length)=j by omega] at c1 c2;rw [e1] at c2;cases c2
  have e2':(σ[caps.getD (j - own.length) 0]?).join=some v:=by
   unfold st0 at e2;rw [List.getElem?_append_right (by simp;omega),List.getElem?_map,List.length_map] at e2;rw [List.getD_eq_getElem?_getD];cases r:caps[j - own.length]? with
   | none=>rw [r] at e2;cases e2
   | some a=>rw [r] at e2;exact Option.some.inj e2
  have Ru:σ[caps.getD (j - own.length) 0]? = some (some v):=by
   cases r:σ[caps.getD (j - own.length) 0]? with
   | none=>rw [r] at e2';cases e2'
   | some a=>rw [r] at e2';exact congrArg Option.some e2'
  have kx:X.env.kindOf x=some .cell\/X.env.kindOf x=some .free:=S.free _ c3 rfl;obtain ⟨m,hn,hl'⟩:=I.loc;obtain ⟨u,r,l⟩:=hl' _ x v (by rw [←c1];exact e1) Ru (by rcases kx with z|z;exact .inr (.inl z);exact .inr (.inr z));refine ⟨u,r,.inr ⟨?_, ?_⟩⟩
  ·show (relabel scope X.env).names.lookup x=some .cell\/(relabel scope X.env).names.lookup x=some .free
   have e:(relabel scope X.env).names.lookup x=(scope.names.lookup x).map fun k=>if (k == .free&&X.env.scope.kind == .function&&X.env.kindOf x==some .cell)=true then NameKind.cell else k:=eN X.env scope.names x;rw [e,c4,Option.map_some];split
   ·exact .inl rfl
   ·exact .inr rfl
  ·rcases l with ⟨hk,_⟩|⟨_,c,hc,z⟩
   ·rcases kx with q|q<;>rw [hk] at q<;>cases q
   ·refine ⟨c, ?_, ?_⟩
    ·show ((xc,Nat.succ C)::jx X.env scope.names []).lookup x=_
     have nx:x≠xc:=fun z=>S.nof (z▸c3);have q:(x==xc)=false:=by simpa using nx
     rw [List.lookup_cons,q,dI _ _ _ some',if_pos c3];exact hc
    ·obtain ⟨o,ho,hd⟩:=z
     exact ⟨o,old c o ho,hd⟩
 ·rcases look e with ⟨a1,a2⟩|⟨a1,a2⟩
  ·subst a2;exact ⟨none,hce⟩
  ·obtain ⟨v,o,ho,hd⟩:=I.cell x c a2
   exact ⟨v,o,old c o ho,hd⟩
 ·show upd H D (.lst []) C=none
  rw [bA DC.symm];exact CJ
 ·show upd H D (.lst []) c=none
  rcases look e with ⟨a1,a2⟩|⟨a1,a2⟩
  ·subst a2
   rw [bA (show Nat.succ C≠D by omega)];exact Ro
  ·rw [bA (Nat.ne_of_lt (by have:=jC (uq x c a2);omega))];exact I.jT x c a2
 ·cases hp
 ·exact ⟨Nat.zero_le _,[],0,.nil,hl⟩
 ·show (own.map (fun _=>none)++caps.map _).length=N.length
  rw [List.length_append,List.length_map,List.length_map,S.len]
theorem Inv.Dq {vC:List (Addr×Obj)} {σ':St} {H':Hp} {s':Shared} {h':Heap} (I:Inv X pins σ H s) (hfp:∀b∈fp,jV X pins H b) (hC:s.heap.objs.size<=C) (J:Inv (dB X scope xc C N s H fp) vC σ' H' s') (hs:Heap.SameBut C s'.heap h'):
 Inv X pins σ H' {s' with heap:=h'}:=by
 have nC:∀b o,s.heap.get? b=some o->b≠C:=fun b o e=>Nat.ne_of_lt (by have:=jC (Heap.lt_size e);omega);have u:=J.base;have frC:H' C=none:=J.free;refine I.call' (ch:=fp) (s':={s' with heap:=h'}) J.os ⟨fun b o e n hb hx=> ?_,fun b o e n hb hx=> ?_,u.free,fun b o e hx=> ?_,u.tups,u.pZ,u.rO⟩ (fun a o e=>(J.hok a o e).stay (fun b v hb q=> ?_) (fun _ q=>q) fun _ _ q=>q) J.bare fun b hb=> ?_
 ·exact (hs.2 b (nC b o e)).trans (u.keep b o e n hb hx)
 ·obtain ⟨sl,q⟩:=u.slot b o e n hb hx
  exact ⟨sl,(hs.2 b (nC b o e)).trans q⟩
 ·obtain ⟨o',q⟩:=u.there b o e hx
  exact ⟨o',(hs.2 b (nC b o e)).trans q⟩
 ·refine (hs.2 b ?_).trans q
  intro z;subst z;rcases hb with z|z
  ·subst z;rw [frC] at e;cases e
  ·rw [frC] at z;cases z
 ·exact ⟨(hfp b hb).2.2.2.1,(hfp b hb).2.1,(hfp b hb).2.2.2.2.1,(hfp b hb).2.2.2.2.2⟩
end
section
variable {M:Model} {A:Around} {E:Value->Shared->Prop} {s:Shared}
theorem Cg {scope:Scope} {globals:Addr} {cl:List (Str×Addr)} {qual:Str} {env:Env} {xc:Str} {Q:Env->Shared->Prop} (one:∃pre post,scope.names=pre++(xc,.cell)::post /\ ∀y∈pre++post,y.2 ≠ .cell)
 (h:Q (newEnv scope s.heap.objs.size globals ((xc,Nat.succ s.heap.objs.size)::cl) qual none .none (some env) builtinsNs) {s with heap:=(s.heap.push {cls:= .type "dict",data:= .dict #[]}).push {cls:= .type "cell",data:= .cell none}}):
 wpAny M A (newFunctionEnv scope globals cl [] qual none .none (some env)) Q E s:=by
 obtain ⟨pre,post,e,no⟩:=one;simp only [newFunctionEnv,Option.isSome_some,if_true];refine wpAny_bind (wpAny_alloc ?_);refine wpAny_bind (wpAny_layCells _ (fun name kind cells=>by cases hkc:kind==NameKind.cell<;>simp [hkc]) _ _ _ _ ?_);rw [e];have sz:(s.heap.push {cls:= .type "dict",data:= .dict #[]}).objs.size=Nat.succ s.heap.objs.size:=Heap.size_push ..;obtain ⟨e1,e2⟩:=yP (xc:=xc) pre post (s.heap.push {cls:= .type "dict",data:= .dict #[]}).objs.size cl (s.heap.push {cls:= .type "dict",data:= .dict #[]}) no;show wpAny M A _ Q E _;dsimp only;rw [e1,e2,sz];rw [List.forIn_nil];exact wpAny_bind (wpAny_pure (wpAny_pure h))
end
section
variable {X:Cx} {elt tg iter:Expr} {ifs:List Expr} {scope:Scope} {pos:Pos} {N own:List Str} {caps:List Nat} {wi:TI} {g:TG} {tc:TT} {te:TE} {xc:Str}
theorem G8 {use:Option (Value->Sem Unit)} {Qv:Value->Shared->Prop} {pins:List (Addr×Obj)} {σ:St} {H:Hp} {s:Shared} {Q:VK} (hc:X.calm=true) (S:bG N own caps X.N X.env.scope scope xc)
 (hg:∀C s H fp,PG (dB X scope xc C N s H fp) tg g) (hcs:∀C s H fp,RN (dB X scope xc C N s H fp) ifs tc) (he:∀C s H fp,PE (dB X scope xc C N s H fp) elt te)
 (hi:PI X tg iter wi) (hs:∀x,foldedSetIterable iter X.env x=pure x)
 (I:Inv X pins σ H s) (h:yu own caps wi g tc te σ H Q)
 (fin:∀(D C:Addr) (H':Hp) (s':Shared),(∃m,s'.heap.Ns C m)->Inv X pins σ H' s'->(∀h',Heap.SameBut C s'.heap h'->Inv X pins σ H' {s' with heap:=h'})->jV X pins H' C->Q (.ref D) H' ->
   compPost (model X.prog X.w) X.A X.xe use Qv (.ref D) C (.ok .next) s'):
 wpAny (model X.prog X.w) X.A (comprehension (.ListComp elt [⟨tg,iter,ifs,0⟩] scope pos) scope X.env (firstIterPos [⟨tg,iter,ifs,0⟩] pos) (newList []) false (eval iter X.env) use) Qv X.xe s:=by
 refine wpAny_comprehension_free (use:=use) rfl hs (uo (S.ug I.ok)) S.kind S.names (cT (hi pins s σ H _ I h) fun xv s1 h1=>cT h1 fun itv s2 h2=> ?_);obtain ⟨it,fp,tn,J,H2,e,I2,T,st2,f2,q2⟩:=h2;subst e;refine wpAny_newList ?_;refine Cg S.one ?_;have hD:H2 s2.heap.objs.size=none:=I2.hok.fresh (Nat.le_refl _);have hsz:(s2.heap.push {cls:= .type "list",data:= .seq ([]:List Value).toArray}).objs.size=s2.heap.objs.size+1:=Heap.size_push ..;obtain ⟨h1,hh1⟩:∃h1,h1=((s2.heap.push {cls:= .type "list",data:= .seq ([]:List Value).toArray}).push {cls:= .type "dict",data:= .dict #[]}).push {cls:= .type "cell",data:= .cell none}:=⟨_,rfl⟩
 have old:∀b o,s2.heap.get? b=some o->h1.get? b=some o:=fun b o e=>by
  rw [hh1];exact Heap.get?_push_of_some _ (Heap.get?_push_of_some _ (Heap.get?_push_of_some _ e))
 have hl:h1.get? s2.heap.objs.size=some {cls:= .type "list",data:= .seq #[]}:=by
  rw [hh1];exact Heap.get?_push_of_some _ (Heap.get?_push_of_some _ (Heap.get?_push_size _ rfl))
 have Nq:h1.Ns (s2.heap.push {cls:= .type "list",data:= .seq ([]:List Value).toArray}).objs.size (fun _=>none):=by
  rw [hh1];exact (Heap.Ns.new _ (.type "dict")).keeps fun b o e=>Heap.get?_push_of_some _ e
 have hce:h1.IsCell (Nat.succ (s2.heap.push {cls:= .type "list",data:= .seq ([]:List Value).toArray}).objs.size) none:=by
  rw [hh1];refine ⟨{cls:= .type "cell",data:= .cell none}, ?_,rfl⟩;have e:Nat.succ (s2.heap.push {cls:= .type "list",data:= .seq ([]:List Value).toArray}).objs.size=((s2.heap.push {cls:= .type "list",data:= .seq ([]:List Value).toArray}).push {cls:= .type "dict",data:= .dict #[]}).objs.size:=(Heap.size_push ..).symm;rw [e];exact Heap.get?_push_size _ rfl
 rw [←hh1];have hfo:∀b∈fp,∃o,s2.heap.get? b=some o:=fun b hb=>let ⟨o,e,_⟩:=T.obj _ _ st2 b hb;⟨o,e⟩
 have I4:=Inv.Va (C:=(s2.heap.push {cls:= .type "list",data:= .seq ([]:List Value).toArray}).objs.size) (t:=s2.toks) I2 S f2 hfo rfl hsz old Nq hl hce;obtain ⟨W,⟨m0,w0⟩,turn⟩:=q2 _ hD;generalize hCe:(s2.heap.push {cls:= .type "list",data:= .seq ([]:List Value).toArray}).objs.size=C at *;generalize hDe:s2.heap.objs.size=D at *;have hDC:D≠C:=by omega
 have loop:∀s3:Shared,s3={s2 with heap:=h1} ->
  codeAny (model X.prog X.w) X.A (.compLoop (.ListComp elt [⟨tg,iter,ifs,0⟩] scope pos) 0 (.ref it) (.ref D) (dB X scope xc C N s2 H2 fp).env) (compPost (model X.prog X.w) X.A X.xe use Qv (.ref D) C) s3:=by
  rintro s3 rfl
  have lF:∀b∈fp,(upd H2 D (.lst [])) b=none:=fun b hb=>by
   obtain ⟨o,e⟩:=hfo b hb;rw [bA (Nat.ne_of_lt (by have:=jC (Heap.lt_size e);omega))];exact (f2 b hb).1
  have stat:∀{H':Hp},(∀b∈fp,H' b=none) -> ∀b∈fp,jV (dB X scope xc C N s2 H2 fp) [] H' b:=fun hn b hb=>by
   obtain ⟨o,e⟩:=hfo b hb;have hlt:=jC (Heap.lt_size e);refine ⟨hn b hb, ?_,fun z=> ?_,.inl hb,fun x c e'=> ?_,fun p hp=>(by cases hp)⟩
   ·exact Nat.ne_of_lt (show @LT.lt Nat _ b C by omega)
   ·rcases List.mem_cons.mp (I2.pG b z) with q|q
    ·exact (f2 b hb).2.1 q
    ·exact (f2 b hb).2.2.1 q
   ·rcases S.look (C:=C) I2.ok e' with ⟨_,a2⟩|⟨_,a2⟩
    ·subst a2
     exact Nat.ne_of_gt (show @LT.lt Nat _ b (Nat.succ C) by omega)
    ·exact (f2 b hb).2.2.2.2.1 x c a2
  refine oY (fun n s'=>∃i σ' H',Inv (dB X scope xc C N s2 H2 fp) [] σ' H' s'/\tn i s'.heap/\(∀b∈fp,H' b=none)/\W i n σ' H') ?_ m0
   ⟨0,_,_,I4,T.keep _ _ _ st2 fun b _ o e=>old b o e,lF,w0⟩
  rintro n s3 ⟨i,σ3,H3,I3,st3,Pj,w3⟩;rcases turn i n σ3 H3 w3 with ⟨stop,qn⟩|⟨go,Nx,hNx,step⟩
  ·refine cT (T.done (dB X scope xc C N s2 H2 fp) rfl rfl rfl hc i [] s3 σ3 H3 _ I3 (stat Pj) st3 stop) fun r s4 ⟨hr,J4⟩=> ?_
   subst hr;obtain ⟨m4,hn4,_⟩:=J4.loc;exact fin D C H3 s4 ⟨m4,hn4⟩ (I2.Dq f2 (by omega) J4 (Heap.SameBut.refl _ _)) (fun h' hs'=>I2.Dq f2 (by omega) J4 hs') (I2.tQ (show s2.heap.objs.size<=C by omega) J4.free) qn
  ·refine cT (T.item (dB X scope xc C N s2 H2 fp) rfl rfl rfl hc i [] s3 σ3 H3 _ I3 (stat Pj) st3 go) fun r s4 ⟨u,hr,h4⟩=> ?_
   subst hr;refine cT h4 fun _ s5 ⟨x,H5,I5,r5,y5,uN,UL⟩=> ?_;have V6:=I5.pinned (stat UL) (T.obj _ _ uN);refine cT (hg C s2 H2 fp _ s5 σ3 H5 x u _ V6 r5 (step x H5 y5)) fun _ s6 ⟨σ6,H6,I6,q6⟩=> ?_;refine cT (hcs C s2 H2 fp _ s6 σ6 H6 _ I6 q6) fun ok s7 ⟨H7,I7,q7⟩=> ?_
   have again:∀{σ8:St} {H8:Hp} {s8:Shared},Inv (dB X scope xc C N s2 H2 fp) ([]++pQ fp s5.heap) σ8 H8 s8->Nx σ8 H8 -> ∃m,m<n /\ ∃i σ' H',Inv (dB X scope xc C N s2 H2 fp) [] σ' H' s8/\tn i s8.heap/\(∀b∈fp,H' b=none)/\W i m σ' H':=fun {σ8 H8 s8} I8 n8=>by
    obtain ⟨m',hm,w8⟩:=hNx _ _ n8;refine ⟨m',hm,i+1,σ8,H8,I8.lK,T.keep _ _ _ uN fun b hb o e=>(I8.pin (b,o) (List.mem_append_right _ (List.mem_append_right _ (g8 hb e)))).1,fun b hb=> ?_,w8⟩;obtain ⟨o,e,d⟩:=T.obj _ _ uN b hb;exact (I8.pin (b,o) (List.mem_append_right _ (List.mem_append_right _ (g8 hb e)))).2.1
   cases ok with
   | false=>
     rw [if_neg (by decide)] at q7;exact again I7 q7
   | true=>
     rw [if_pos rfl] at q7;refine cT (he C s2 H2 fp _ s7 σ6 H7 _ I7 q7) fun y s8 ⟨yv,H8,I8,r8,acc,ha,hlen,q8⟩=> ?_;exact cT (pU _ s8 σ6 H8 (.ref D) [yv] (.ref D) [y] (fun v H9=>Nx σ6 H9) I8 rfl (.cons r8 .nil) ⟨D,acc,yv,rfl,rfl,ha,hlen,q8⟩) fun _ s9 ⟨_,H9,I9,_,q9⟩=>again I9 q9
 exact codeAny_compStart_list (loop _ rfl) (T.self _ 0 _ _ _ (T.keep _ _ _ st2 fun b _ o e=>old b o e) (loop _ rfl))
theorem Js (hc:X.calm=true) (S:bG N own caps X.N X.env.scope scope xc) (hi:PI X tg iter wi)
 (hg:∀C s H fp,PG (dB X scope xc C N s H fp) tg g) (hcs:∀C s H fp,RN (dB X scope xc C N s H fp) ifs tc) (he:∀C s H fp,PE (dB X scope xc C N s H fp) elt te)
 (hs:∀x,foldedSetIterable iter X.env x=pure x:=by intro _;rfl):PE X (.ListComp elt [⟨tg,iter,ifs,0⟩] scope pos) (yu own caps wi g tc te):=by
 intro pins s σ H Q I h;rw [eval_ListComp];refine G8 (use:=none) hc S hg hcs he hi hs I h ?_;intro D C H' s' hn I' hk _ q;obtain ⟨m,hn⟩:=hn;exact ⟨m,hn,fun h' hs'=>⟨.ref D,H',hk h' hs',rfl,q⟩⟩
end
def Eu (N own:List Str) (caps:List Nat) (XN:List Str) (outer scope:Scope) (xc:Str):Bool:=
 decide (scope.kind = .function)&&(scope.names.filter fun y=>decide (y.2 = .cell)).length==1&&decide (scope.names.lookup xc=some .cell)&&decide ((xc,NameKind.free)∉scope.names)&&scope.names.all (fun y=>decide (y.2 ≠ .local)||decide (scope.names.lookup y.1=some .local)) &&
 scope.names.all (fun y=>decide (y.2 ≠ .free)||decide (outer.names.lookup y.1=some .cell)||decide (outer.names.lookup y.1=some .free))&&decide N.Nodup&&decide (N.length=own.length+caps.length) &&
 (List.range caps.length).all (fun j=>match N[own.length+j]? with |some x=>decide (XN[caps.getD j 0]? = some x)&&decide ((x,NameKind.free)∈scope.names)&&decide (scope.names.lookup x=some .free)|none=>false)
theorem bG.of {N own:List Str} {caps:List Nat} {XN:List Str} {outer scope:Scope} {xc:Str} (h:Eu N own caps XN outer scope xc=true):bG N own caps XN outer scope xc:=by
 unfold Eu at h;simp only [Bool.and_eq_true,decide_eq_true_eq,List.all_eq_true,Bool.or_eq_true,beq_iff_eq] at h;obtain ⟨⟨⟨⟨⟨⟨⟨⟨h1,h2⟩,h2a⟩,h2b⟩,h3⟩,h4⟩,h5⟩,h6⟩,h7⟩:=h;refine ⟨h1, ?_,h2a,h2b,fun y hy e=> ?_,fun y hy e=> ?_,h5,h6,fun j hj=> ?_⟩
 ·have hm:(xc,NameKind.cell)∈scope.names:=mem_of_lookup h2a
  obtain ⟨pre,post,e⟩:=List.append_of_mem hm;refine ⟨pre,post,e,fun y hy z=> ?_⟩;rw [e,List.filter_append,List.length_append,List.filter_cons] at h2;simp only [decide_true,if_true,List.length_cons] at h2;have l1:(pre.filter fun y=>decide (y.2 = .cell)).length=0:=by omega
  have l2:(post.filter fun y=>decide (y.2 = .cell)).length=0:=by omega
  rcases List.mem_append.mp hy with q|q
  ·have:=List.filter_eq_nil_iff.mp (List.eq_nil_of_length_eq_zero l1) y q
   simp [z] at this
  ·have:=List.filter_eq_nil_iff.mp (List.eq_nil_of_length_eq_zero l2) y q
   simp [z] at this
 ·rcases h3 y hy with z|z
  ·exact absurd e z
  ·exact z
 ·rcases h4 y hy with (z|z)|z
  ·exact absurd e z
  ·exact .inl z
  ·exact .inr z
 ·have q:=h7 j (List.mem_range.mpr hj)
  cases e:N[own.length+j]? with
  | none=>rw [e] at q;cases q
  | some x=>
    rw [e] at q;simp only [Bool.and_eq_true,decide_eq_true_eq] at q;exact ⟨q.1.1.symm,x,rfl,q.1.2,q.2⟩
theorem CN {X:Cx} {scope:Scope} {xc:Str} {C:Addr} {N:List Str} {s:Shared} {H:Hp} {fp:List Addr}:(dB X scope xc C N s H fp).fn xc=true:=decide_eq_true (p:=xc=xc) rfl
end L2
set_option Elab.async false
set_option linter.all false
set_option maxRecDepth 100000
set_option maxHeartbeats 4000000
namespace Tim
open PySem PyProof.Rows
def jD:Bool->Keyed->Array Keyed->Nat->Nat->Nat->StateT SortSt Sem (Option Nat):=sortPriv% PySem.Builtin.gallop
def kJ (left:Bool) (key:Keyed) (arr:Array Keyed) (base i:Nat):StateT SortSt Sem (Option Bool):=do
 let x ←elem' arr (base+i)
 if left then lt' x key else return (←lt' key x).map (!·)
theorem Cy (left:Bool) (key:Keyed) (arr:Array Keyed) (base n hint:Nat):jD left key arr base n hint=(do
 let mut lastofs:=0
 let mut ofs:=1
 let mut lo:=0
 let mut hi:=0
 let some right ←kJ left key arr base hint|return none
 if right then
  let maxofs:=n - hint
  for _ in [0:n] do
   if ofs≥maxofs then break
   let some more ←kJ left key arr base (hint+ofs)|return none
   if !more then break
   lastofs:=ofs
   ofs:=2*ofs+1
  lo:=hint+lastofs+1
  hi:=hint+min ofs maxofs
 else
  let maxofs:=hint+1
  for _ in [0:n] do
   if ofs≥maxofs then break
   let some found ←kJ left key arr base (hint - ofs)|return none
   if found then break
   lastofs:=ofs
   ofs:=2*ofs+1
  lo:=hint+1 - min ofs maxofs
  hi:=hint - lastofs
 for _ in [0:n] do
  if lo≥hi then break
  let m:=lo+(hi - lo) / 2
  let some more ←kJ left key arr base m|return none
  if more then lo:=m+1 else hi:=m
 return some hi):=rfl
section
variable {prog:Program} {w:World} {A:Around} {E:Value->Shared->Prop} {s:Shared} {κ:SortKind} {a₀:Array Keyed} {rk:Value->Nat}
structure Dp (prog:Program) (w:World) (A:Around) (s:Shared) (κ:SortKind) (a₀:Array Keyed) (rk:Value->Nat):Prop where
 ask:∀p∈a₀.toList,∀q∈a₀.toList,∀(E:Value->Shared->Prop) (Q:Bool->Shared->Prop),Q (decide (rk p.1<rk q.1)) s->wpAny (model prog w) A (keyLt' κ p.1 q.1) Q E s
def R (rk:Value->Nat) (xs:Array Keyed) (i:Nat):Nat:=match xs[i]? with
 | some p=>rk p.1
 | none=>0
theorem uI {xs:Array Keyed} {i:Nat} {p:Keyed} (h:xs[i]? = some p):R rk xs i=rk p.1:=by unfold R;rw [h]
theorem fD {xs ys:Array Keyed} {i j:Nat} (h:xs[i]? = ys[j]?):R rk xs i=R rk ys j:=by unfold R;rw [h]
theorem rM {st:SortSt} {p q:Keyed} {Q:Option Bool->SortSt->Prop} (C:Dp prog w A s κ a₀ rk) (hk:kindOf st=κ) (hp:p∈a₀.toList) (hq:q∈a₀.toList) (h:Q (some (decide (rk p.1<rk q.1))) st):
 wpS (model prog w) A E s (lt' p q) Q st:=by
 rw [lt'_eq];refine wpS_bind (wpS_get ?_);rw [hk];refine wpS_bind (wpS_lift (wpAny_attempt (C.ask p hp q hq _ _ ⟨rfl, ?_⟩)));exact wpS_pure h
theorem bD {st:SortSt} {arr:Array Keyed} {i:Nat} {p:Keyed} {Q:Keyed->SortSt->Prop} (hi:arr[i]? = some p) (h:Q p st):wpS (model prog w) A E s (elem' arr i) Q st:=by
 rw [elem'_eq,hi];exact wpS_pure h
def By (left:Bool) (k r:Nat):Bool:=if left then decide (r<k) else !decide (k<r)
theorem j5 {st:SortSt} {left:Bool} {key:Keyed} {arr:Array Keyed} {base i:Nat} {Q:Option Bool->SortSt->Prop} (C:Dp prog w A s κ a₀ rk) (hk:kindOf st=κ) (hkey:key∈a₀.toList) (oU:∀p∈arr.toList,p∈a₀.toList)
 (hi:base+i<arr.size) (h:Q (some (By left (rk key.1) (R rk arr (base+i)))) st):wpS (model prog w) A E s (kJ left key arr base i) Q st:=by
 unfold kJ;have e:arr[base+i]? = some arr[base+i]:=getElem?_pos arr (base+i) hi;have hm:arr[base+i]∈a₀.toList:=oU _ (by simp);rw [uI e] at h;refine wpS_bind (bD e ?_);cases left with
 | true=>exact rM C hk hm hkey h
 | false=>exact wpS_bind (rM C hk hkey hm (wpS_pure h))
theorem xW {left:Bool} {k r r':Nat} (h:By left k r=true) (le:r'<=r):By left k r'=true:=by
 unfold By at *;cases left<;>simp at * <;> omega
theorem uM {left:Bool} {k r r':Nat} (h:By left k r=false) (le:r<=r'):By left k r'=false:=by
 unfold By at *;cases left<;>simp at * <;> omega
def Seg (rk:Value->Nat) (xs:Array Keyed) (lo hi:Nat):Prop:=∀i j,lo<=i->i<=j->j<hi->R rk xs i<=R rk xs j
abbrev GSt:=Option (Option Nat)×Nat×Nat
theorem qg {st:SortSt} {left:Bool} {key:Keyed} {arr:Array Keyed} {base n lo hi:Nat} {Q:GSt->SortSt->Prop} (C:Dp prog w A s κ a₀ rk) (hk:kindOf st=κ) (hkey:key∈a₀.toList) (oU:∀p∈arr.toList,p∈a₀.toList)
 (hn:base+n<=arr.size) (hs:Seg rk arr base (base+n)) (hlh:lo<=hi) (hhn:hi<=n)
 (h1:∀i,i<lo->By left (rk key.1) (R rk arr (base+i))=true) (h2:∀i,hi<=i->i<n->By left (rk key.1) (R rk arr (base+i))=false)
 (h:∀k l,k<=n->(∀i,i<k->By left (rk key.1) (R rk arr (base+i))=true)->(∀i,k<=i->i<n->By left (rk key.1) (R rk arr (base+i))=false)->Q (none,l,k) st):
 wpS (model prog w) A E s (forIn [0:n] ((none,lo,hi):GSt) fun _ __s=>
       if __s.snd.fst≥__s.snd.snd then pure (ForInStep.done (none,__s.snd.fst,__s.snd.snd))
       else do
        let __x ←kJ left key arr base (__s.snd.fst+(__s.snd.snd - __s.snd.fst) / 2)
        match __x with
         | some more=>
           if more=true then
            pure (ForInStep.yield (none,__s.snd.fst+(__s.snd.snd - __s.snd.fst) / 2+1,__s.snd.snd))
           else pure (ForInStep.yield (none,__s.snd.fst,__s.snd.fst+(__s.snd.snd - __s.snd.fst) / 2))
         | _=>pure (ForInStep.done (some none,__s.snd.fst,__s.snd.snd))) Q st:=by
 refine wpS_forRange (I:=fun x c st'=>st'=st /\ ∃lo hi,c=(none,lo,hi)/\lo<=hi/\hi<=n/\hi - lo<=n - x/\(∀i,i<lo->By left (rk key.1) (R rk arr (base+i))=true)/\(∀i,hi<=i->i<n->By left (rk key.1) (R rk arr (base+i))=false)) ?step ?fin ⟨rfl,lo,hi,rfl,hlh,hhn,by omega,h1,h2⟩
 case fin=>
  rintro c st' ⟨rfl,lo,hi,rfl,a1,a2,a3,a4,a5⟩;have:lo=hi:=by omega
  subst this;exact h _ _ a2 a4 a5
 case step=>
  rintro x c st' _ hx ⟨rfl,lo,hi,rfl,a1,a2,a3,a4,a5⟩;dsimp only
  by_cases hge:lo≥hi
  ·rw [if_pos hge]
   have:lo=hi:=by omega
   subst this;exact wpS_pure (h _ _ a2 a4 a5)
  ·rw [if_neg hge]
   refine wpS_bind (j5 C hk hkey oU (by omega) ?_);dsimp only;cases hb:By left (rk key.1) (R rk arr (base+(lo+(hi - lo) / 2))) with
   | true=>
     simp only [if_true];refine wpS_pure ⟨rfl,_,_,rfl,by omega,a2,by omega,fun i hi'=> ?_,a5⟩;exact xW hb (hs _ _ (by omega) (by omega) (by omega))
   | false=>
     simp only [Bool.false_eq_true,if_false];refine wpS_pure ⟨rfl,_,_,rfl,by omega,by omega,by omega,a4,fun i hi' hin=> ?_⟩;exact uM hb (hs _ _ (by omega) (by omega) (by omega))
theorem gU {st:SortSt} {left:Bool} {key:Keyed} {arr:Array Keyed} {base n hint:Nat} {Q:Option Nat->SortSt->Prop} (C:Dp prog w A s κ a₀ rk) (hk:kindOf st=κ) (hkey:key∈a₀.toList) (oU:∀p∈arr.toList,p∈a₀.toList)
 (hn:base+n<=arr.size) (hh:hint<n) (hs:Seg rk arr base (base+n))
 (h:∀k,k<=n->(∀i,i<k->By left (rk key.1) (R rk arr (base+i))=true)->(∀i,k<=i->i<n->By left (rk key.1) (R rk arr (base+i))=false)->Q (some k) st):
 wpS (model prog w) A E s (jD left key arr base n hint) Q st:=by
 rw [Cy];refine wpS_bind (j5 C hk hkey oU (by omega) ?_);dsimp only;cases hr:By left (rk key.1) (R rk arr (base+hint)) with
 | true=>
   simp only [if_true]
   refine wpS_bind (wpS_mono (wpS_forRange (I:=fun x c st'=>st'=st /\ ∃l o,c=(none,l,o)/\l<o/\x<o/\hint+l<n/\By left (rk key.1) (R rk arr (base+(hint+l)))=true)
    (Q:=fun c st'=>st'=st /\ ∃l o,c=(none,l,o)/\l<o/\hint+l<n/\By left (rk key.1) (R rk arr (base+(hint+l)))=true/\(o<n - hint->By left (rk key.1) (R rk arr (base+(hint+o)))=false)) ?step ?fin ⟨rfl,0,1,rfl,by omega,by omega,by omega,hr⟩) ?post)
   case fin=>
    rintro c st' ⟨rfl,l,o,rfl,a1,a2,a3,a4⟩;exact ⟨rfl,l,o,rfl,a1,a3,a4,fun z=>by omega⟩
   case step=>
    rintro x c st' _ hx ⟨rfl,l,o,rfl,a1,a2,a3,a4⟩;dsimp only
    by_cases hge:o≥n - hint
    ·rw [if_pos hge]
     exact wpS_pure ⟨rfl,l,o,rfl,a1,a3,a4,fun z=>by omega⟩
    ·rw [if_neg hge]
     refine wpS_bind (j5 C hk hkey oU (by omega) ?_);dsimp only;cases hb:By left (rk key.1) (R rk arr (base+(hint+o))) with
     | true=>
       simp only [Bool.not_true,Bool.false_eq_true,if_false];exact wpS_pure ⟨rfl,o,2*o+1,rfl,by omega,by omega,by omega,hb⟩
     | false=>
       simp only [Bool.not_false,if_true];exact wpS_pure ⟨rfl,l,o,rfl,a1,a3,a4,fun _=>hb⟩
   case post=>
    rintro c st' ⟨rfl,l,o,rfl,a1,a2,a3,a4⟩;dsimp only;refine wpS_bind (qg C hk hkey oU hn hs (by omega) (by omega) (fun i hi=> ?_) (fun i hi hin=> ?_) fun k l' b1 b2 b3=>wpS_pure (h k b1 b2 b3))
    ·exact xW a3 (hs _ _ (by omega) (by omega) (by omega))
    ·exact uM (a4 (by omega)) (hs _ _ (by omega) (by omega) (by omega))
 | false=>
   simp only [Bool.false_eq_true,if_false]
   refine wpS_bind (wpS_mono (wpS_forRange (I:=fun x c st'=>st'=st /\ ∃l o,c=(none,l,o)/\l<o/\x<o/\l<=hint/\By left (rk key.1) (R rk arr (base+(hint - l)))=false)
    (Q:=fun c st'=>st'=st /\ ∃l o,c=(none,l,o)/\l<o/\l<=hint/\By left (rk key.1) (R rk arr (base+(hint - l)))=false/\(o<hint+1->By left (rk key.1) (R rk arr (base+(hint - o)))=true)) ?step ?fin ⟨rfl,0,1,rfl,by omega,by omega,by omega,hr⟩) ?post)
   case fin=>
    rintro c st' ⟨rfl,l,o,rfl,a1,a2,a3,a4⟩;exact ⟨rfl,l,o,rfl,a1,a3,a4,fun z=>by omega⟩
   case step=>
    rintro x c st' _ hx ⟨rfl,l,o,rfl,a1,a2,a3,a4⟩;dsimp only
    by_cases hge:o≥hint+1
    ·rw [if_pos hge]
     exact wpS_pure ⟨rfl,l,o,rfl,a1,a3,a4,fun z=>by omega⟩
    ·rw [if_neg hge]
     refine wpS_bind (j5 C hk hkey oU (by omega) ?_);dsimp only;cases hb:By left (rk key.1) (R rk arr (base+(hint - o))) with
     | true=>
       simp only [if_true];exact wpS_pure ⟨rfl,l,o,rfl,a1,a3,a4,fun _=>hb⟩
     | false=>
       simp only [Bool.false_eq_true,if_false];exact wpS_pure ⟨rfl,o,2*o+1,rfl,by omega,by omega,by omega,hb⟩
   case post=>
    rintro c st' ⟨rfl,l,o,rfl,a1,a2,a3,a4⟩;dsimp only;refine wpS_bind (qg C hk hkey oU hn hs (by omega) (by omega) (fun i hi=> ?_) (fun i hi hin=> ?_) fun k l' b1 b2 b3=>wpS_pure (h k b1 b2 b3))
    ·exact xW (a4 (by omega)) (hs _ _ (by omega) (by omega) (by omega))
    ·exact uM a3 (hs _ _ (by omega) (by omega) (by omega))
end
end Tim
set_option Elab.async false
set_option linter.all false
set_option maxRecDepth 100000
set_option maxHeartbeats 4000000
namespace Tim
open PySem PyProof.Rows
def d8:Nat->StateT SortSt Sem Unit:=sortPriv% PySem.Builtin.setMinGallop
theorem pO (g:Nat):d8 g=modify fun s=>SortSt.mk' (kindOf s) (arrOf s) (pendingOf s) g (failedOf s):=rfl
def sY:Array Keyed->Array Keyed->StateT SortSt Sem (Array Keyed):=sortPriv% PySem.Builtin.mergeLo
def sZ:Array Keyed->Array Keyed->StateT SortSt Sem (Array Keyed):=sortPriv% PySem.Builtin.mergeHi
abbrev fJ (a b out:Array Keyed) (ia ib:Nat):Array Keyed:=out++a.extract ia a.size++b.extract ib b.size
abbrev nU (a b out:Array Keyed) (ia ib:Nat):Array Keyed:=out++b.extract ib b.size++a.extract ia a.size
theorem zm (a b:Array Keyed):sY a b=(do
 rule "list.sort.merge-lo"
 let total:=a.size+b.size
 let mut out:Array Keyed:= #[←elem' b 0]
 let mut ia:=0
 let mut ib:=1
 if ib==b.size then return fJ a b out ia ib
 if ia+1==a.size then return nU a b out ia ib
 let mut minGallop:=gallopOf (←get)
 for _ in [0:total] do
  let mut acount:=0
  let mut bcount:=0
  for _ in [0:total] do
   let some bWins ←lt' (←elem' b ib) (←elem' a ia)|return fJ a b out ia ib
   if bWins then
    out:=out.push (←elem' b ib);ib:=ib+1;bcount:=bcount+1;acount:=0
    if ib==b.size then return fJ a b out ia ib
    if bcount≥minGallop then break
   else
    out:=out.push (←elem' a ia);ia:=ia+1;acount:=acount+1;bcount:=0
    if ia+1==a.size then return nU a b out ia ib
    if acount≥minGallop then break
  rule "list.sort.gallop"
  minGallop:=minGallop+1
  for _ in [0:total] do
   if minGallop>1 then minGallop:=minGallop - 1
   d8 minGallop
   let some k ←jD false (←elem' b ib) a ia (a.size - ia) 0|return fJ a b out ia ib
   acount:=k
   if k>0 then
    out:=out++a.extract ia (ia+k);ia:=ia+k
    if ia+1==a.size then return nU a b out ia ib
    if ia==a.size then return fJ a b out ia ib
   out:=out.push (←elem' b ib);ib:=ib+1
   if ib==b.size then return fJ a b out ia ib
   let some k ←jD true (←elem' a ia) b ib (b.size - ib) 0|return fJ a b out ia ib
   bcount:=k
   if k>0 then
    out:=out++b.extract ib (ib+k);ib:=ib+k
    if ib==b.size then return fJ a b out ia ib
   out:=out.push (←elem' a ia);ia:=ia+1
   if ia+1==a.size then return nU a b out ia ib
   if acount<7&&bcount<7 then break
  minGallop:=minGallop+1
  d8 minGallop
 unsupported "internal:list.sort.merge-bound"):=rfl
section
variable {rk:Value->Nat} {a b out:Array Keyed} {ia ib k:Nat}
def Le (rk:Value->Nat) (x y:Keyed):Prop:=rk x.1<=rk y.1
def HX (rk:Value->Nat) (l:List Keyed):Prop:=l.Pairwise (Le rk)
structure MI (rk:Value->Nat) (a b out:Array Keyed) (ia ib:Nat):Prop where
 perm:(out.toList++(a.toList.drop ia++b.toList.drop ib)).Perm (a.toList++b.toList)
 sa:HX rk (out.toList++a.toList.drop ia)
 sb:HX rk (out.toList++b.toList.drop ib)
structure Mg (rk:Value->Nat) (a b r:Array Keyed):Prop where
 perm:r.toList.Perm (a.toList++b.toList)
 srt:HX rk r.toList
theorem cB (a:Array Keyed) (i j:Nat):(a.extract i j).toList=(a.toList.drop i).take (j - i):=by
 rw [Array.toList_extract,List.extract_eq_take_drop]
theorem tW (l:List Keyed) (i k:Nat):l.drop i=(l.drop i).take k++l.drop (i+k):=by
 rw [←List.drop_drop,List.take_append_drop]
theorem gO {a:Array Keyed} {i:Nat} (h:i<a.size):R rk a i=rk (a[i]).1:=uI (getElem?_pos a i h)
theorem JT {a:Array Keyed} {x:Keyed} (h:x∈a.toList.drop ia):∃j,ia<=j/\j<a.size/\R rk a j=rk x.1:=by
 obtain ⟨j,hj,e⟩:=List.getElem_of_mem h;rw [List.length_drop,Array.length_toList] at hj;rw [List.getElem_drop,Array.getElem_toList] at e;exact ⟨ia+j,by (clear e hj;omega),by (clear e;omega),by rw [gO (by (clear e;omega)),e]⟩
theorem iD {a:Array Keyed} {x:Keyed} (h:x∈(a.toList.drop ia).take k):∃j,j<k/\ia+j<a.size/\R rk a (ia+j)=rk x.1:=by
 obtain ⟨j,hj,e⟩:=List.getElem_of_mem h;rw [List.length_take,List.length_drop,Array.length_toList] at hj;rw [List.getElem_take,List.getElem_drop,Array.getElem_toList] at e;exact ⟨j,by (clear e;omega),by (clear e;omega),by rw [gO (by (clear e;omega)),e]⟩
theorem h_ {x y:List Keyed}:HX rk (x++y)↔HX rk x/\HX rk y /\ ∀p∈x,∀q∈y,rk p.1<=rk q.1:=List.pairwise_append
theorem MI.p7 (m:MI rk a b out ia ib) (hle:∀i,i<k->ib+i<b.size -> ∀j,ia<=j->j<a.size->R rk b (ib+i)<=R rk a j):MI rk a b (out++b.extract ib (ib+k)) ia (ib+k):=by
 have e:(out++b.extract ib (ib+k)).toList=out.toList++(b.toList.drop ib).take k:=by rw [Array.toList_append,cB];congr 2;omega
 have sp:=tW b.toList ib k;refine ⟨?_, ?_, ?_⟩
 ·rw [e]
  refine List.Perm.trans ?_ m.perm;rw [List.append_assoc];refine List.Perm.append_left _ ?_;refine List.Perm.trans ?_ (List.Perm.of_eq (congrArg (a.toList.drop ia ++ ·) sp.symm));rw [←List.append_assoc];refine List.Perm.trans (List.Perm.append_right _ (List.perm_append_comm)) (List.Perm.of_eq (List.append_assoc _ _ _))
 ·rw [e,List.append_assoc]
  have h1:=h_.mp m.sa;have h2:=m.sb;rw [sp] at h2;have h3:=h_.mp h2;have h4:=h_.mp h3.2.1;refine h_.mpr ⟨h1.1,h_.mpr ⟨h4.1,h1.2.1,fun p hp q hq=> ?_⟩,fun p hp q hq=> ?_⟩
  ·obtain ⟨i,i1,i2,i3⟩:=iD (rk:=rk) hp
   obtain ⟨j,j1,j2,j3⟩:=JT (rk:=rk) hq;rw [←i3,←j3];exact hle i i1 i2 j j1 j2
  ·rcases List.mem_append.mp hq with hq|hq
   ·exact h3.2.2 p hp q (List.mem_append_left _ hq)
   ·exact h1.2.2 p hp q hq
 ·rw [e,List.append_assoc,←sp]
  exact m.sb
theorem MI.swap (m:MI rk a b out ia ib):MI rk b a out ib ia:=⟨(List.Perm.append_left _ List.perm_append_comm).trans (m.perm.trans List.perm_append_comm),m.sb,m.sa⟩
theorem MI.p8 (m:MI rk a b out ia ib) (hle:∀i,i<k->ia+i<a.size -> ∀j,ib<=j->j<b.size->R rk a (ia+i)<=R rk b j):MI rk a b (out++a.extract ia (ia+k)) (ia+k) ib:=(m.swap.p7 hle).swap
theorem yI (h:ib<b.size):out.push b[ib]=out++b.extract ib (ib+1):=by
 apply Array.toList_inj.mp;rw [Array.toList_push,Array.toList_append,cB];congr 1;rw [show ib+1 - ib=1 by (clear h;omega),List.drop_eq_getElem_cons (by rw [Array.length_toList];exact h)];rfl
theorem MI.sJ (m:MI rk a b out ia ib) (h:ib<b.size) (hle:∀j,ia<=j->j<a.size->R rk b ib<=R rk a j):MI rk a b (out.push b[ib]) ia (ib+1):=by
 rw [yI h];refine m.p7 (k:=1) fun i hi hb j j1 j2=> ?_;have:i=0:=by (clear j2 j1 hb h;omega)
 subst this;exact hle j j1 j2
theorem MI.sO (m:MI rk a b out ia ib) (h:ia<a.size) (hle:∀j,ib<=j->j<b.size->R rk a ia<=R rk b j):MI rk a b (out.push a[ia]) (ia+1) ib:=(m.swap.sJ h hle).swap
theorem MI.done (m:MI rk a b out ia ib) (h:ia=a.size\/ib=b.size):Mg rk a b (fJ a b out ia ib):=by
 have e:(fJ a b out ia ib).toList=out.toList++(a.toList.drop ia++b.toList.drop ib):=by
  unfold fJ;rw [Array.toList_append,Array.toList_append,cB,cB,List.append_assoc];congr 2
  ·rw [List.take_of_length_le];rw [List.length_drop,Array.length_toList];exact Nat.le_refl _
  ·rw [List.take_of_length_le];rw [List.length_drop,Array.length_toList];exact Nat.le_refl _
 refine ⟨by rw [e];exact m.perm, ?_⟩;rw [e];rcases h with h|h
 ·rw [h,show a.toList.drop a.size=[] by rw [List.drop_eq_nil_of_le];rw [Array.length_toList];exact Nat.le_refl _,List.nil_append]
  exact m.sb
 ·rw [h,show b.toList.drop b.size=[] by rw [List.drop_eq_nil_of_le];rw [Array.length_toList];exact Nat.le_refl _,List.append_nil]
  exact m.sa
theorem MI.last (m:MI rk a b out ia ib) (h:∀i j,ib<=i->i<b.size->ia<=j->j<a.size->R rk b i<=R rk a j):Mg rk a b (nU a b out ia ib):=by
 have m2:=m.p7 (k:=b.size - ib) fun i hi hb j j1 j2=>h _ _ (by (clear j2 j1 hb hi;omega)) hb j1 j2
 have e:(nU a b out ia ib)=fJ a b (out++b.extract ib (ib+(b.size - ib))) ia (ib+(b.size - ib)):=by
  unfold fJ nU;apply Array.toList_inj.mp;simp only [Array.toList_append,cB]
  have e1:(b.toList.drop (ib+(b.size - ib))).take (b.size - (ib+(b.size - ib)))=[]:=by
   rw [List.take_eq_nil_iff];left;omega
  rw [e1,List.append_nil];congr 3
  (clear e1;omega)
 rw [e]
 by_cases hb:ib<=b.size
 ·exact m2.done (.inr (by (clear e;omega)))
 ·refine ⟨?_, ?_⟩
  ·have:=m2.perm
   have e2:(fJ a b (out++b.extract ib (ib+(b.size - ib))) ia (ib+(b.size - ib))).toList=(out++b.extract ib (ib+(b.size - ib))).toList++(a.toList.drop ia++b.toList.drop (ib+(b.size - ib))):=by
    unfold fJ;rw [Array.toList_append,Array.toList_append,cB,cB,List.append_assoc];congr 2
    ·rw [List.take_of_length_le];rw [List.length_drop,Array.length_toList];exact Nat.le_refl _
    ·rw [List.take_of_length_le];rw [List.length_drop,Array.length_toList];exact Nat.le_refl _
   rw [e2];exact this
  ·unfold fJ
   rw [Array.toList_append,Array.toList_append,cB (a:=b) (i:=ib+(b.size - ib)),show b.size - (ib+(b.size - ib))=0 by (clear hb e;omega),List.take_zero,List.append_nil,cB (a:=a)];rw [List.take_of_length_le (by rw [List.length_drop,Array.length_toList];exact Nat.le_refl _)];exact m2.sa
end
end Tim
set_option Elab.async false
set_option linter.all false
set_option maxRecDepth 100000
set_option maxHeartbeats 4000000
namespace Tim
open PySem PyProof.Rows
section
variable {prog:Program} {w:World} {A:Around} {E:Value->Shared->Prop} {s:Shared} {κ:SortKind} {a₀:Array Keyed} {rk:Value->Nat}
structure yc (st st':SortSt):Prop where
 k:kindOf st'=kindOf st
 a:arrOf st'=arrOf st
 p:pendingOf st'=pendingOf st
 f:failedOf st'=failedOf st
theorem yc.refl (st:SortSt):yc st st:=⟨rfl,rfl,rfl,rfl⟩
theorem yc.trans {a b c:SortSt} (h:yc a b) (g:yc b c):yc a c:=⟨g.k.trans h.k,g.a.trans h.a,g.p.trans h.p,g.f.trans h.f⟩
theorem mL {st:SortSt} {g:Nat} {Q:Unit->SortSt->Prop} (h:∀st',yc st st'->Q () st'):wpS (model prog w) A E s (d8 g) Q st:=by
 rw [pO];exact wpS_modify (h _ ⟨rfl,rfl,rfl,rfl⟩)
theorem aM {α:Type} {c:Prop} [Decidable c] {x y:StateT SortSt Sem α} {Q:α->SortSt->Prop} {st:SortSt} (h1:c->wpS (model prog w) A E s x Q st) (h2:¬c->wpS (model prog w) A E s y Q st):wpS (model prog w) A E s (if c then x else y) Q st:=by
 by_cases hc:c
 ·rw [if_pos hc];exact h1 hc
 ·rw [if_neg hc];exact h2 hc
theorem RX {k r:Nat} (h:By true k r=true):r<k:=by simpa [By] using h
theorem Ou {k r:Nat} (h:By false k r=true):r<=k:=by simpa [By] using h
theorem Ar {k r:Nat} (h:By true k r=false):k<=r:=by simpa [By] using h
theorem K_ {k r:Nat} (h:By false k r=false):k<r:=by simpa [By] using h
theorem yg {st:SortSt} {a b:Array Keyed} {Q:Array Keyed->SortSt->Prop} (C:Dp prog w A s κ a₀ rk) (hk:kindOf st=κ) (ha:∀p∈a.toList,p∈a₀.toList) (hb:∀p∈b.toList,p∈a₀.toList)
 (ha1:1<=a.size) (hb1:1<=b.size) (sa:Seg rk a 0 a.size) (sb:Seg rk b 0 b.size) (h0:R rk b 0<=R rk a 0) (hl:R rk b (b.size - 1)<=R rk a (a.size - 1))
 (h:∀r st',yc st st'->Mg rk a b r->Q r st'):wpS (model prog w) A E s (sY a b) Q st:=by
 have Uh:∀i,i<b.size -> ∃p,b[i]? = some p/\p∈a₀.toList/\R rk b i=rk p.1:=fun i hi=>⟨b[i],getElem?_pos b i hi,hb _ (by simp),gO hi⟩;have Pb:∀i,i<a.size -> ∃p,a[i]? = some p/\p∈a₀.toList/\R rk a i=rk p.1:=fun i hi=>⟨a[i],getElem?_pos a i hi,ha _ (by simp),gO hi⟩
 have mid:∀i j,i<b.size->j+1=a.size->R rk b i<=R rk a j:=fun i j hi hj=>by
  have:=sb i (b.size - 1) (by (clear hj hi hl h0 hb1 ha1 hk;lia)) (by (clear hj hl h0 hb1 ha1 hk;lia)) (by (clear hj hi hl h0 ha1 hk;lia));have e:a.size - 1=j:=by (clear this hi hl h0 hb1 ha1 hk;lia)
  rw [e] at hl
  (clear e hj hi h0 hb1 ha1 hk;lia)
 have m0:MI rk a b #[b[0]] 0 1:=by
  have m:MI rk a b #[] 0 0:=by
   refine ⟨by simp, ?_, ?_⟩
   ·show HX rk ([]++a.toList.drop 0)
    rw [List.nil_append,List.drop_zero];refine List.pairwise_iff_getElem.mpr fun i j hi hj hij=> ?_;rw [Array.length_toList] at hi hj;have:=sa i j (by (clear hij hj hi hl h0 hb1 ha1 hk;lia)) (by (clear hj hi hl h0 hb1 ha1 hk;lia)) hj;rw [gO hi,gO hj] at this;simpa [Le] using this
   ·show HX rk ([]++b.toList.drop 0)
    rw [List.nil_append,List.drop_zero];refine List.pairwise_iff_getElem.mpr fun i j hi hj hij=> ?_;rw [Array.length_toList] at hi hj;have:=sb i j (by (clear hij hj hi hl h0 hb1 ha1 hk;lia)) (by (clear hj hi hl h0 hb1 ha1 hk;lia)) hj;rw [gO hi,gO hj] at this;simpa [Le] using this
  exact m.sJ (by (clear hl h0 ha1 hk;lia)) fun j _ j2=>Nat.le_trans h0 (sa 0 j (by (clear j2 hl h0 hb1 ha1 hk;lia)) (by (clear j2 hl h0 hb1 ha1 hk;lia)) j2)
 rw [zm];refine wpS_bind (wpS_lift (wpAny_rule ⟨rfl, ?_⟩));refine wpS_bind (bD (p:=b[0]) (getElem?_pos b 0 (by (clear hl h0 ha1 hk;lia))) ?_);dsimp only;refine aM (fun e=> ?_) (fun e=> ?_)
 ·have e:1=b.size:=by simpa using e
  exact wpS_pure (h _ _ (.refl _) (m0.done (.inr e)))
 have eb:¬1=b.size:=by simpa using e
 refine aM (fun e=> ?_) (fun e=> ?_)
 ·have e:1=a.size:=by simpa using e
  exact wpS_pure (h _ _ (.refl _) (m0.last fun i j _ hi _ hj=>mid i j hi (by (clear hi eb hl h0 ha1 hk;lia))))
 have ea:¬1=a.size:=by simpa using e
 refine wpS_bind (wpS_get ?_)
 refine wpS_bind (wpS_mono (wpS_forRange (I:=fun x c st'=>yc st st' /\ ∃out ia ib mg,c=(none,out,ia,ib,mg)/\MI rk a b out ia ib/\ia+2<=a.size/\ib+1<=b.size/\(a.size - ia)+(b.size - ib)+x<=a.size+b.size)
  (Q:=fun c st'=>yc st st' /\ ∃r cc,c=(some r,cc)/\Mg rk a b r) ?step ?fin ⟨.refl _,_,_,_,_,rfl,m0,by (clear e eb hl h0 hk;lia),by (clear ea e hl h0 ha1 hk;lia),by (clear ea e eb hl h0 ha1 hk;lia)⟩) ?post)
 case post=>
  rintro c st' ⟨kp,r,cc,rfl,m⟩;exact wpS_pure (h _ _ kp m)
 case fin=>
  rintro c st' ⟨kp,out,ia,ib,mg,rfl,m,a1,b1,le⟩
  (clear b1 ea e eb hl h0 ha1 hk;lia)
 case step=>
  rintro x c st' _ hx ⟨kp,out,ia,ib,mg,rfl,m,a1,b1,le⟩;dsimp only
  refine wpS_bind (wpS_mono (wpS_forRange (I:=fun y c st2=>st2=st' /\ ∃out ia ib ac bc,c=(none,out,ia,ib,ac,bc)/\MI rk a b out ia ib/\ia+2<=a.size/\ib+1<=b.size/\(a.size - ia)+(b.size - ib)+x+y<=a.size+b.size)
   (Q:=fun c st2=>st2=st'/\((∃r cc,c=(some r,cc)/\Mg rk a b r) \/ ∃out ia ib ac bc,c=(none,out,ia,ib,ac,bc)/\MI rk a b out ia ib/\ia+2<=a.size/\ib+1<=b.size/\(a.size - ia)+(b.size - ib)+x+1<=a.size+b.size)) ?step1 ?Rq ⟨rfl,_,_,_,_,_,rfl,m,a1,b1,by (clear b1 a1 hx ea e eb hl h0 ha1 hk;lia)⟩) ?Jk)
  case Rq=>
   rintro c st2 ⟨rfl,out,ia,ib,ac,bc,rfl,m,a1,b1,le⟩
   (clear b1 hx ea e eb hl h0 ha1 hk;lia)
  case step1=>
   rintro y c st2 _ hy ⟨rfl,out,ia,ib,ac,bc,rfl,m,a1,b1,le⟩;dsimp only;obtain ⟨p,ep,mp,rp⟩:=Uh ib (by (clear le a1 hy hx ea e eb hl h0 ha1 hk;lia));obtain ⟨q,eq,mq,rq⟩:=Pb ia (by (clear rp ep le b1 hy hx ea e eb hl h0 ha1 hk;lia));refine wpS_bind (bD ep (wpS_bind (bD eq (wpS_bind (rM C (kp.k.trans hk) mp mq ?_)))));dsimp only;have bM:p=b[ib]:=by rw [getElem?_pos b ib (by (clear rq eq rp ep le a1 hy hx ea e eb hl h0 ha1 hk;lia))] at ep;exact (Option.some.inj ep).symm
   have gw:q=a[ia]:=by rw [getElem?_pos a ia (by (clear bM rq eq rp ep le b1 hy hx ea e eb hl h0 ha1 hk;lia))] at eq;exact (Option.some.inj eq).symm
   refine aM (fun lt=> ?_) (fun lt=> ?_)
   ·have lt:R rk b ib<R rk a ia:=by rw [rp,rq];simpa using lt
    have m2:MI rk a b (out.push p) ia (ib+1):=by
     rw [bM];exact m.sJ (by (clear lt gw bM rq eq rp ep le a1 hy hx ea e eb hl h0 ha1 hk;lia)) fun j j1 j2=>by have:=sa ia j (by (clear j2 j1 lt gw bM rq eq rp ep le b1 a1 hy hx ea e eb hl h0 ha1 hk;lia)) j1 j2;(clear j2 j1 gw bM rq eq rp ep le b1 a1 hy hx ea e eb hl h0 ha1 hk;lia)
    refine wpS_bind (bD ep ?_);refine aM (fun e=> ?_) (fun e=> ?_)
    ·exact wpS_pure ⟨rfl,.inl ⟨_,_,rfl,m2.done (.inr (by simpa using e))⟩⟩
    have e:¬ib+1=b.size:=by simpa using e
    refine aM (fun _=> ?_) (fun _=> ?_)
    ·exact wpS_pure ⟨rfl,.inr ⟨_,_,_,_,_,rfl,m2,a1,by (clear lt gw bM rq eq rp ep le a1 hy hx ea eb hl h0 ha1 hk;lia),by (clear e lt gw bM rq eq rp ep a1 hy hx ea eb hl h0 ha1 hk;lia)⟩⟩
    ·exact wpS_pure ⟨rfl,_,_,_,_,_,rfl,m2,a1,by (clear lt gw bM rq eq rp ep le a1 hy hx ea eb hl h0 ha1 hk;lia),by (clear e lt gw bM rq eq rp ep a1 hy hx ea eb hl h0 ha1 hk;lia)⟩
   ·have lt:R rk a ia<=R rk b ib:=by rw [rp,rq];simpa using lt
    have m2:MI rk a b (out.push q) (ia+1) ib:=by
     rw [gw];exact m.sO (by (clear lt gw bM rq eq rp ep le b1 hy hx ea e eb hl h0 ha1 hk;lia)) fun j j1 j2=>by have:=sb ib j (by (clear j2 j1 lt gw bM rq eq rp ep le b1 a1 hy hx ea e eb hl h0 ha1 hk;lia)) j1 j2;(clear j2 j1 gw bM rq eq rp ep le b1 a1 hy hx ea e eb hl h0 ha1 hk;lia)
    refine wpS_bind (bD eq ?_);refine aM (fun e=> ?_) (fun e=> ?_)
    ·have e:ia+1+1=a.size:=by simpa using e
     exact wpS_pure ⟨rfl,.inl ⟨_,_,rfl,m2.last fun i j _ hi _ hj=>mid i j hi (by (clear hi lt gw bM rq eq rp ep le b1 a1 hy hx ea eb hl h0 ha1 hk;lia))⟩⟩
    have e:¬ia+1+1=a.size:=by simpa using e
    refine aM (fun _=> ?_) (fun _=> ?_)
    ·exact wpS_pure ⟨rfl,.inr ⟨_,_,_,_,_,rfl,m2,by (clear lt gw bM rq eq rp ep le b1 hy hx ea eb hl h0 ha1 hk;lia),b1,by (clear e lt gw bM rq eq rp ep b1 hy hx ea eb hl h0 ha1 hk;lia)⟩⟩
    ·exact wpS_pure ⟨rfl,_,_,_,_,_,rfl,m2,by (clear lt gw bM rq eq rp ep le b1 hy hx ea eb hl h0 ha1 hk;lia),b1,by (clear e lt gw bM rq eq rp ep b1 hy hx ea eb hl h0 ha1 hk;lia)⟩
  case Jk=>
   rintro c st2 ⟨rfl,(⟨r,cc,rfl,mr⟩|⟨out,ia,ib,ac,bc,rfl,m,a1,b1,le⟩)⟩
   ·exact wpS_pure ⟨kp,r,_,rfl,mr⟩
   dsimp only;refine wpS_bind (wpS_lift (wpAny_rule ⟨rfl, ?_⟩))
   refine wpS_bind (wpS_mono (wpS_forRange (I:=fun y c st3=>yc st st3 /\ ∃out ia ib mg ac bc,c=(none,out,ia,ib,mg,ac,bc)/\MI rk a b out ia ib/\ia+2<=a.size/\ib+1<=b.size/\(a.size - ia)+(b.size - ib)+x+1+y<=a.size+b.size)
    (Q:=fun c st3=>yc st st3/\((∃r cc,c=(some r,cc)/\Mg rk a b r) \/ ∃out ia ib mg ac bc,c=(none,out,ia,ib,mg,ac,bc)/\MI rk a b out ia ib/\ia+2<=a.size/\ib+1<=b.size/\(a.size - ia)+(b.size - ib)+x+1<=a.size+b.size)) ?IV ?fin2 ⟨kp,_,_,_,_,_,_,rfl,m,a1,b1,by (clear b1 a1 hx ea e eb hl h0 ha1 hk;lia)⟩) ?post2)
   case fin2=>
    rintro c st3 ⟨JX,out,ia,ib,mg,ac,bc,rfl,m,a1,b1,le⟩
    (clear b1 a1 hx ea e eb hl h0 ha1 hk;lia)
   case post2=>
    rintro c st3 ⟨JX,(⟨r,cc,rfl,mr⟩|⟨out,ia,ib,mg,ac,bc,rfl,m,a1,b1,le⟩)⟩
    ·exact wpS_pure ⟨JX,r,_,rfl,mr⟩
    dsimp only;refine wpS_bind (mL fun lN k4=>wpS_pure ⟨JX.trans k4,_,_,_,_,rfl,m,a1,b1,by (clear b1 a1 hx ea e eb hl h0 ha1 hk;lia)⟩)
   case IV=>
    rintro y c st3 _ hy ⟨JX,out,ia,ib,mg,ac,bc,rfl,m,a1,b1,le⟩;dsimp only;refine aM (fun _=> ?_) (fun _=> ?_)
    all_goals
     refine wpS_bind (mL fun lN k4=> ?_);have wR:=JX.trans k4;obtain ⟨p,ep,mp,rp⟩:=Uh ib (by (clear le a1 hy hx ea e eb hl h0 ha1 hk;lia));have bM:p=b[ib]:=by rw [getElem?_pos b ib (by (clear rp ep le a1 hy hx ea e eb hl h0 ha1 hk;lia))] at ep;exact (Option.some.inj ep).symm
     refine wpS_bind (bD ep (wpS_bind (gU C (wR.k.trans hk) mp ha (by (clear bM rp ep le b1 hy hx ea e eb hl h0 ha1 hk;lia)) (by (clear bM rp ep le b1 hy hx ea e eb hl h0 ha1 hk;lia)) (fun i j h1 h2 h3=>sa i j (by (clear h3 h2 h1 bM rp ep le b1 a1 hy hx ea e eb hl h0 ha1 hk;lia)) h2 (by (clear h2 h1 bM rp ep le b1 hy hx ea e eb hl h0 ha1 hk;lia))) fun k k1 k2 k3=> ?_)));dsimp only
     have mA:MI rk a b (out++a.extract ia (ia+k)) (ia+k) ib:=m.p8 (k:=k) fun i hi hs j j1 j2=>by
      have e1:=Ou (k2 i hi);have e2:=sb ib j (by (clear e1 j2 j1 hs hi k1 bM rp ep le b1 a1 hy hx ea e eb hl h0 ha1 hk;lia)) j1 j2;rw [rp] at e2
      (clear j2 j1 hs hi k1 bM rp ep le b1 a1 hy hx ea e eb hl h0 ha1 hk;lia)
     have nxt:∀j,ia+k<=j->j<a.size->R rk b ib<=R rk a j:=fun j j1 j2=>by
      have:=K_ (k3 (j - ia) (by (clear j2 k1 bM rp ep le b1 a1 hy hx ea e eb hl h0 ha1 hk;lia)) (by (clear j1 k1 bM rp ep le b1 hy hx ea e eb hl h0 ha1 hk;lia)));rw [show ia+(j - ia)=j by (clear this j2 k1 bM rp ep le b1 a1 hy hx ea e eb hl h0 ha1 hk;lia)] at this;rw [rp];(clear j2 j1 k1 bM rp ep le b1 a1 hy hx ea e eb hl h0 ha1 hk;lia)
     apply aM
     case' h1=>
      intro kpos;refine aM (fun e=> ?_) (fun e=> ?_)
      ·have e:ia+k+1=a.size:=by simpa using e
       exact wpS_pure ⟨wR,.inl ⟨_,_,rfl,mA.last fun i j _ hi _ hj=>mid i j hi (by (clear hi kpos k1 bM rp ep le b1 a1 hy hx ea eb hl h0 ha1 hk;lia))⟩⟩
      have e1:¬ia+k+1=a.size:=by simpa using e
      refine aM (fun e=> ?_) (fun e=> ?_)
      ·exact wpS_pure ⟨wR,.inl ⟨_,_,rfl,mA.done (.inl (by simpa using e))⟩⟩
      have e2:¬ia+k=a.size:=by simpa using e
      have a3:ia+k+2<=a.size:=by (clear e kpos bM rp ep le b1 hy hx ea eb hl h0 ha1 hk;lia)
      have fW:(a.size - (ia+k))+(b.size - ib)+x+1+y<=a.size+b.size:=by (clear a3 e2 e e1 kpos k1 bM rp ep b1 a1 hy hx ea eb hl h0 ha1 hk;lia)
      generalize out++a.extract ia (ia+k)=agl at mA ⊢;generalize ia+k=ia3 at mA nxt a3 fW ⊢
     case' h2=>
      intro kpos;have k0:k=0:=by (clear k1 bM rp ep le b1 a1 hy hx ea e eb hl h0 ha1 hk;lia)
      have a3:ia+2<=a.size:=by (clear k0 kpos k1 bM rp ep le b1 hy hx ea e eb hl h0 ha1 hk;lia)
      have fW:(a.size - ia)+(b.size - ib)+x+1+y<=a.size+b.size:=by (clear a3 k0 kpos k1 bM rp ep b1 a1 hy hx ea e eb hl h0 ha1 hk;lia)
      subst k0
      replace nxt:∀j,ia<=j->j<a.size->R rk b ib<=R rk a j:=nxt
      replace mA:=m
     all_goals
      have mB:=mA.sJ (by (clear kpos k1 fW a3 bM rp ep le a1 hy hx ea e eb hl h0 ha1 hk;lia)) nxt;rw [←bM] at mB;refine wpS_bind (bD ep ?_);refine aM (fun e=> ?_) (fun e=> ?_)
      ·exact wpS_pure ⟨wR,.inl ⟨_,_,rfl,mB.done (.inr (by simpa using e))⟩⟩
      have e3:¬ib+1=b.size:=by simpa using e
      obtain ⟨q,eq,mq,rq⟩:=Pb _ (show _<a.size from Nat.lt_of_lt_of_le (Nat.lt_succ_of_lt (Nat.lt_succ_self _)) a3);refine wpS_bind (bD eq (wpS_bind (gU C (wR.k.trans hk) mq hb (by (clear rq eq e3 e kpos k1 fW a3 bM rp ep le a1 hy hx ea eb hl h0 ha1 hk;lia)) (by (clear rq eq e kpos k1 fW a3 bM rp ep le a1 hy hx ea eb hl h0 ha1 hk;lia)) (fun i j h1 h2 h3=>sb i j (by (clear h3 h2 h1 rq eq e3 e kpos k1 fW a3 bM rp ep le b1 a1 hy hx ea eb hl h0 ha1 hk;lia)) h2 (by (clear h2 h1 rq eq e3 e kpos k1 fW a3 bM rp ep le a1 hy hx ea eb hl h0 ha1 hk;lia))) fun k' l1 l2 l3=> ?_)));dsimp only
      have mC:=mB.p7 (k:=k') fun i hi hs j j1 j2=>by
       have e1:=RX (l2 i hi);have e2:=sa _ j (by (clear e1 j2 j1 hs hi l1 rq eq e3 e kpos k1 fW a3 bM rp ep le b1 a1 hy hx ea eb hl h0 ha1 hk;lia)) j1 j2;rw [rq] at e2
       (clear j2 j1 hs hi l1 rq eq e3 e kpos k1 fW a3 bM rp ep le b1 a1 hy hx ea eb hl h0 ha1 hk;lia)
      apply aM
      case' h1=>
       intro kpos;refine aM (fun e=> ?_) (fun e=> ?_)
       ·exact wpS_pure ⟨wR,.inl ⟨_,_,rfl,mC.done (.inr (by simpa using e))⟩⟩
       have e5:¬ib+1+k'=b.size:=by simpa using e
       have nx:∀j,ib+1+k'<=j->j<b.size->rk q.1<=R rk b j:=fun j j1 j2=>by
        have:=Ar (l3 (j - (ib+1)) (by (clear j2 e5 e kpos l1 rq eq e3 k1 fW a3 bM rp ep le b1 a1 hy hx ea eb hl h0 ha1 hk;lia)) (by (clear j1 e5 e kpos l1 rq eq k1 fW a3 bM rp ep le a1 hy hx ea eb hl h0 ha1 hk;lia)));rw [show ib+1+(j - (ib+1))=j by (clear this j2 e5 e kpos l1 rq eq e3 k1 fW a3 bM rp ep le b1 a1 hy hx ea eb hl h0 ha1 hk;lia)] at this
        (clear j2 j1 e5 e kpos l1 rq eq e3 k1 fW a3 bM rp ep le b1 a1 hy hx ea eb hl h0 ha1 hk;lia)
       have b3:ib+1+k'+1<=b.size:=by (clear e kpos rq eq e3 k1 fW a3 bM rp ep le a1 hy hx ea eb hl h0 ha1 hk;lia)
      case' h2=>
       intro kpos;have k0:k'=0:=by (clear l1 rq eq e3 e k1 fW a3 bM rp ep le b1 a1 hy hx ea eb hl h0 ha1 hk;lia)
       have nx:∀j,ib+1<=j->j<b.size->rk q.1<=R rk b j:=fun j j1 j2=>by
        have:=Ar (l3 (j - (ib+1)) (by (clear j2 j1 k0 l1 rq eq e3 e k1 fW a3 bM rp ep le b1 a1 hy hx ea eb hl h0 ha1 hk;lia)) (by (clear j1 k0 kpos l1 rq eq e k1 fW a3 bM rp ep le a1 hy hx ea eb hl h0 ha1 hk;lia)));rw [show ib+1+(j - (ib+1))=j by (clear this j2 k0 kpos l1 rq eq e3 e k1 fW a3 bM rp ep le b1 a1 hy hx ea eb hl h0 ha1 hk;lia)] at this
        (clear j2 j1 k0 kpos l1 rq eq e3 e k1 fW a3 bM rp ep le b1 a1 hy hx ea eb hl h0 ha1 hk;lia)
       have b3:ib+1+1<=b.size:=by (clear k0 kpos l1 rq eq e k1 fW a3 bM rp ep le a1 hy hx ea eb hl h0 ha1 hk;lia)
       replace mC:=mB
      all_goals
       have mD:=mC.sO (by (clear b3 kpos l1 rq eq e3 e k1 fW bM rp ep le b1 hy hx ea eb hl h0 ha1 hk;lia)) (fun j j1 j2=>by rw [rq];exact nx j j1 j2);have gw:=Option.some.inj ((getElem?_pos a _ (by (clear b3 kpos l1 rq eq e3 e k1 fW bM rp ep le b1 hy hx ea eb hl h0 ha1 hk;lia))).symm.trans eq);rw [gw] at mD;refine wpS_bind (bD eq ?_);refine aM (fun e=> ?_) (fun e=> ?_)
       ·exact wpS_pure ⟨wR,.inl ⟨_,_,rfl,mD.last fun i j _ hi _ hj=>mid i j hi (by have e:=eq_of_beq e;(clear hi gw b3 kpos l1 rq eq e3 k1 fW a3 bM rp ep le b1 a1 hy hx ea eb hl h0 ha1 hk;lia))⟩⟩
       have e6:¬_=a.size:=fun z=>e (beq_iff_eq.mpr z);refine aM (fun _=> ?_) (fun _=> ?_)
       ·exact wpS_pure ⟨wR,.inr ⟨_,_,_,_,_,_,rfl,mD,by (clear e gw b3 kpos l1 rq eq e3 k1 fW bM rp ep le b1 hy hx ea eb hl h0 ha1 hk;lia),by (clear e6 e gw b3 kpos rq eq k1 fW a3 bM rp ep le a1 hy hx ea eb hl h0 ha1 hk;lia),by (clear e6 e gw b3 kpos l1 rq eq e3 k1 a3 bM rp ep b1 a1 hy hx ea eb hl h0 ha1 hk;lia)⟩⟩
       ·exact wpS_pure ⟨wR,_,_,_,_,_,_,rfl,mD,by (clear e gw b3 kpos l1 rq eq e3 k1 fW bM rp ep le b1 hy hx ea eb hl h0 ha1 hk;lia),by (clear e6 e gw b3 kpos rq eq k1 fW a3 bM rp ep le a1 hy hx ea eb hl h0 ha1 hk;lia),by (clear e6 e gw b3 kpos l1 rq eq e3 k1 a3 bM rp ep hy hx ea eb hl h0 ha1 hk;lia)⟩
end
end Tim
set_option Elab.async false
set_option linter.all false
set_option maxRecDepth 100000
set_option maxHeartbeats 4000000
namespace Tim
open PySem PyProof.Rows
abbrev iU (a b out:Array Keyed) (na nb:Nat):Array Keyed:=a.extract 0 na++b.extract 0 nb++out.reverse
abbrev m6 (a b out:Array Keyed) (na nb:Nat):Array Keyed:=b.extract 0 nb++a.extract 0 na++out.reverse
theorem zq (a b:Array Keyed):sZ a b=(do
 rule "list.sort.merge-hi"
 let total:=a.size+b.size
 let mut na:=a.size - 1
 let mut nb:=b.size
 let mut out:Array Keyed:= #[←elem' a na]
 if na==0 then return iU a b out na nb
 if nb==1 then return m6 a b out na nb
 let mut minGallop:=gallopOf (←get)
 for _ in [0:total] do
  let mut acount:=0
  let mut bcount:=0
  for _ in [0:total] do
   let some aWins ←lt' (←elem' b (nb - 1)) (←elem' a (na - 1))|return iU a b out na nb
   if aWins then
    na:=na - 1;out:=out.push (←elem' a na);acount:=acount+1;bcount:=0
    if na==0 then return iU a b out na nb
    if acount≥minGallop then break
   else
    nb:=nb - 1;out:=out.push (←elem' b nb);bcount:=bcount+1;acount:=0
    if nb==1 then return m6 a b out na nb
    if bcount≥minGallop then break
  rule "list.sort.gallop"
  minGallop:=minGallop+1
  for _ in [0:total] do
   if minGallop>1 then minGallop:=minGallop - 1
   d8 minGallop
   let some at_ ←jD false (←elem' b (nb - 1)) a 0 na (na - 1)|return iU a b out na nb
   let k:=na - at_
   acount:=k
   if k>0 then
    out:=out++(a.extract at_ na).reverse;na:=at_
    if na==0 then return iU a b out na nb
   nb:=nb - 1;out:=out.push (←elem' b nb)
   if nb==1 then return m6 a b out na nb
   let some at_ ←jD true (←elem' a (na - 1)) b 0 nb (nb - 1)|return iU a b out na nb
   let k:=nb - at_
   bcount:=k
   if k>0 then
    out:=out++(b.extract at_ nb).reverse;nb:=at_
    if nb==1 then return m6 a b out na nb
    if nb==0 then return iU a b out na nb
   na:=na - 1;out:=out.push (←elem' a na)
   if na==0 then return iU a b out na nb
   if acount<7&&bcount<7 then break
  minGallop:=minGallop+1
  d8 minGallop
 unsupported "internal:list.sort.merge-bound"):=rfl
section
variable {rk:Value->Nat} {a b out:Array Keyed} {na nb k:Nat}
structure MH (rk:Value->Nat) (a b out:Array Keyed) (na nb:Nat):Prop where
 perm:(a.toList.take na++(b.toList.take nb++out.toList.reverse)).Perm (a.toList++b.toList)
 sa:HX rk (a.toList.take na++out.toList.reverse)
 sb:HX rk (b.toList.take nb++out.toList.reverse)
theorem Bb (l:List Keyed) {i j:Nat} (h:i<=j):l.take j=l.take i++(l.drop i).take (j - i):=by
 rw [List.take_drop,show i+(j - i)=j by lia];have:=(List.take_append_drop i (l.take j)).symm;rwa [List.take_take,Nat.min_eq_left h] at this
theorem Gr {a:Array Keyed} {x:Keyed} (h:x∈a.toList.take na):∃j,j<na/\j<a.size/\R rk a j=rk x.1:=by
 have h':x∈(a.toList.drop 0).take na:=by rw [List.drop_zero];exact h
 obtain ⟨j,j1,j2,j3⟩:=iD (rk:=rk) h';rw [Nat.zero_add] at j2 j3;exact ⟨j,j1,j2,j3⟩
theorem MH.p8 (m:MH rk a b out na nb) {at_:Nat} (hat:at_<=na) (hle:∀i,at_<=i->i<na->i<a.size -> ∀j,j<nb->j<b.size->R rk b j<=R rk a i):MH rk a b (out++(a.extract at_ na).reverse) at_ nb:=by
 have e:(out++(a.extract at_ na).reverse).toList.reverse=(a.toList.drop at_).take (na - at_)++out.toList.reverse:=by
  rw [Array.toList_append,List.reverse_append,Array.toList_reverse,List.reverse_reverse,cB]
 have sp:=Bb a.toList hat;refine ⟨?_, ?_, ?_⟩
 ·rw [e]
  refine List.Perm.trans ?_ m.perm;rw [sp,List.append_assoc];refine List.Perm.append_left _ ?_;rw [←List.append_assoc,←List.append_assoc];exact List.Perm.append_right _ List.perm_append_comm
 ·rw [e,←List.append_assoc,←sp]
  exact m.sa
 ·rw [e]
  have h1:=m.sa;rw [sp,List.append_assoc] at h1;have h2:=h_.mp (h_.mp h1).2.1;have h3:=h_.mp m.sb;refine h_.mpr ⟨h3.1,h_.mpr ⟨h2.1,h3.2.1,h2.2.2⟩,fun p hp q hq=> ?_⟩;rcases List.mem_append.mp hq with hq|hq
  ·obtain ⟨i,i1,i2,i3⟩:=Gr (rk:=rk) hp
   obtain ⟨j,j1,j2,j3⟩:=iD (rk:=rk) hq;rw [←i3,←j3];exact hle _ (by (clear j3 j2 j1 i3 i2 i1 h3 h2 sp e hat;lia)) (by (clear j3 j2 i3 i2 i1 h3 h2 sp e hat;lia)) j2 i i1 i2
  ·exact h3.2.2 p hp q hq
theorem MH.swap (m:MH rk a b out na nb):MH rk b a out nb na:=by
 refine ⟨?_,m.sb,m.sa⟩;refine List.Perm.trans ?_ (m.perm.trans List.perm_append_comm);rw [←List.append_assoc,←List.append_assoc];exact List.Perm.append_right _ List.perm_append_comm
theorem MH.p7 (m:MH rk a b out na nb) {at_:Nat} (hat:at_<=nb) (hle:∀i,at_<=i->i<nb->i<b.size -> ∀j,j<na->j<a.size->R rk a j<=R rk b i):MH rk a b (out++(b.extract at_ nb).reverse) na at_:=(m.swap.p8 hat hle).swap
theorem Jg (h1:1<=na) (h:na<=a.size):out.push (a[na - 1]'(by lia))=out++(a.extract (na - 1) na).reverse:=by
 have e:=yI (out:= #[]) (b:=a) (ib:=na - 1) (by lia);rw [show na - 1+1=na by (clear e h;lia)] at e
 have e2:a.extract (na - 1) na = #[a[na - 1]'(by (clear e;lia))]:=by
  apply Array.toList_inj.mp;have:=congrArg Array.toList e;rw [Array.toList_append] at this;simpa using this.symm
 rw [e2];apply Array.toList_inj.mp;simp
theorem MH.sO (m:MH rk a b out na nb) (h1:1<=na) (h:na<=a.size) (hle:∀j,j<nb->j<b.size->R rk b j<=R rk a (na - 1)):MH rk a b (out.push (a[na - 1]'(by lia))) (na - 1) nb:=by
 rw [Jg h1 h];refine m.p8 (by (clear h h1;lia)) fun i i1 i2 i3 j j1 j2=> ?_;have:i=na - 1:=by (clear j2 j1 i3 h h1;lia)
 subst this;exact hle j j1 j2
theorem MH.sJ (m:MH rk a b out na nb) (h1:1<=nb) (h:nb<=b.size) (hle:∀j,j<na->j<a.size->R rk a j<=R rk b (nb - 1)):MH rk a b (out.push (b[nb - 1]'(by lia))) na (nb - 1):=(m.swap.sO h1 h hle).swap
theorem rG:(iU a b out na nb).toList=a.toList.take na++(b.toList.take nb++out.toList.reverse):=by
 unfold iU;rw [Array.toList_append,Array.toList_append,cB,cB,Array.toList_reverse,List.append_assoc];rfl
theorem MH.done (m:MH rk a b out na nb) (h:na=0\/nb=0):Mg rk a b (iU a b out na nb):=by
 refine ⟨by rw [rG];exact m.perm, ?_⟩;rw [rG];rcases h with h|h
 ·subst h
  exact m.sb
 ·subst h
  exact m.sa
theorem MH.first (m:MH rk a b out na nb) (h:∀i j,i<nb->i<b.size->j<na->j<a.size->R rk b i<=R rk a j):Mg rk a b (m6 a b out na nb):=by
 have m2:=m.p8 (at_:=0) (by lia) fun i _ i2 i3 j j1 j2=>h j i j1 j2 i2 i3
 have e:m6 a b out na nb=iU a b (out++(a.extract 0 na).reverse) 0 nb:=by
  apply Array.toList_inj.mp;rw [rG,rG,Array.toList_append,List.reverse_append,Array.toList_reverse,List.reverse_reverse,cB];simp
 rw [e];exact m2.done (.inl rfl)
end
section
variable {prog:Program} {w:World} {A:Around} {E:Value->Shared->Prop} {s:Shared} {κ:SortKind} {a₀:Array Keyed} {rk:Value->Nat}
theorem yh {st:SortSt} {a b:Array Keyed} {Q:Array Keyed->SortSt->Prop} (C:Dp prog w A s κ a₀ rk) (hk:kindOf st=κ) (ha:∀p∈a.toList,p∈a₀.toList) (hb:∀p∈b.toList,p∈a₀.toList)
 (ha1:1<=a.size) (hb1:1<=b.size) (sa:Seg rk a 0 a.size) (sb:Seg rk b 0 b.size) (h0:R rk b 0<=R rk a 0) (hl:R rk b (b.size - 1)<=R rk a (a.size - 1))
 (h:∀r st',yc st st'->Mg rk a b r->Q r st'):wpS (model prog w) A E s (sZ a b) Q st:=by
 have Uh:∀i,i<b.size -> ∃p,b[i]? = some p/\p∈a₀.toList/\R rk b i=rk p.1:=fun i hi=>⟨b[i],getElem?_pos b i hi,hb _ (by simp),gO hi⟩;have Pb:∀i,i<a.size -> ∃p,a[i]? = some p/\p∈a₀.toList/\R rk a i=rk p.1:=fun i hi=>⟨a[i],getElem?_pos a i hi,ha _ (by simp),gO hi⟩
 have mid:∀i j nb,i<nb->nb=1->j<a.size->R rk b i<=R rk a j:=fun i j nb hi hn hj=>by
  have:=sa 0 j (by (clear hj hn hi hl h0 hb1 ha1 hk;lia)) (by (clear hj hn hi hl h0 hb1 ha1 hk;lia)) hj;have e:i=0:=by (clear this hj hl h0 hb1 ha1 hk;lia)
  subst e
  (clear hi hj hn hl hb1 ha1 hk;lia)
 have m0:MH rk a b #[a[a.size - 1]] (a.size - 1) b.size:=by
  have m:MH rk a b #[] a.size b.size:=by
   refine ⟨?_, ?_, ?_⟩
   ·rw [←Array.length_toList,←Array.length_toList,List.take_length,List.take_length];simp
   ·rw [←Array.length_toList,List.take_length]
    show HX rk (a.toList++[]);rw [List.append_nil];refine List.pairwise_iff_getElem.mpr fun i j hi hj hij=> ?_;rw [Array.length_toList] at hi hj;have:=sa i j (by (clear hij hj hi hl h0 hb1 ha1 hk;lia)) (by (clear hj hi hl h0 hb1 ha1 hk;lia)) hj;rw [gO hi,gO hj] at this;simpa [Le] using this
   ·rw [←Array.length_toList,List.take_length]
    show HX rk (b.toList++[]);rw [List.append_nil];refine List.pairwise_iff_getElem.mpr fun i j hi hj hij=> ?_;rw [Array.length_toList] at hi hj;have:=sb i j (by (clear hij hj hi hl h0 hb1 ha1 hk;lia)) (by (clear hj hi hl h0 hb1 ha1 hk;lia)) hj;rw [gO hi,gO hj] at this;simpa [Le] using this
  exact m.sO ha1 (Nat.le_refl _) fun j j1 j2=>Nat.le_trans (sb j (b.size - 1) (by (clear j2 j1 hl h0 hb1 ha1 hk;lia)) (by (clear j2 hl h0 hb1 ha1 hk;lia)) (by (clear j2 j1 hl h0 ha1 hk;lia))) hl
 rw [zq];refine wpS_bind (wpS_lift (wpAny_rule ⟨rfl, ?_⟩));refine wpS_bind (bD (p:=a[a.size - 1]) (getElem?_pos a _ (by (clear hl h0 hb1 hk;lia))) ?_);dsimp only;refine aM (fun e=> ?_) (fun e=> ?_)
 ·exact wpS_pure (h _ _ (.refl _) (m0.done (.inl (by simpa using e))))
 have ea:¬a.size - 1=0:=fun z=>e (beq_iff_eq.mpr z);refine aM (fun e=> ?_) (fun e=> ?_)
 ·exact wpS_pure (h _ _ (.refl _) (m0.first fun i j i1 i2 j1 j2=>mid i j _ i1 (by simpa using e) j2))
 have eb:¬b.size=1:=by simpa using e
 refine wpS_bind (wpS_get ?_)
 refine wpS_bind (wpS_mono (wpS_forRange (I:=fun x c st'=>yc st st' /\ ∃na nb out mg,c=(none,na,nb,out,mg)/\MH rk a b out na nb/\1<=na/\2<=nb/\na<=a.size/\nb<=b.size/\na+nb+x<=a.size+b.size)
  (Q:=fun c st'=>yc st st' /\ ∃r cc,c=(some r,cc)/\Mg rk a b r) ?step ?fin ⟨.refl _,_,_,_,_,rfl,m0,by (clear eb e hl h0 hb1 hk;lia),by (clear e ea hl h0 hk;lia),by (clear eb e ea hl h0 hb1 hk;lia),by (clear eb e ea hl h0 hb1 hk;lia),by (clear eb e ea hl h0 hb1 hk;lia)⟩) ?post)
 case post=>
  rintro c st' ⟨kp,r,cc,rfl,m⟩;exact wpS_pure (h _ _ kp m)
 case fin=>
  rintro c st' ⟨kp,na,nb,out,mg,rfl,m,a1,b1,a2,b2,le⟩
  (clear b2 a2 b1 eb e ea hl h0 hb1 hk;lia)
 case step=>
  rintro x c st' _ hx ⟨kp,na,nb,out,mg,rfl,m,a1,b1,a2,b2,le⟩;dsimp only
  refine wpS_bind (wpS_mono (wpS_forRange (I:=fun y c st2=>st2=st' /\ ∃na nb out ac bc,c=(none,na,nb,out,ac,bc)/\MH rk a b out na nb/\1<=na/\2<=nb/\na<=a.size/\nb<=b.size/\na+nb+x+y<=a.size+b.size)
   (Q:=fun c st2=>st2=st'/\((∃r cc,c=(some r,cc)/\Mg rk a b r) \/ ∃na nb out ac bc,c=(none,na,nb,out,ac,bc)/\MH rk a b out na nb/\1<=na/\2<=nb/\na<=a.size/\nb<=b.size/\na+nb+x+1<=a.size+b.size)) ?step1 ?Rq ⟨rfl,_,_,_,_,_,rfl,m,a1,b1,a2,b2,by (clear b2 a2 b1 a1 hx eb e ea hl h0 hb1 hk;lia)⟩) ?Jk)
  case Rq=>
   rintro c st2 ⟨rfl,na,nb,out,ac,bc,rfl,m,a1,b1,a2,b2,le⟩
   (clear b2 a2 b1 hx eb e ea hl h0 hb1 hk;lia)
  case step1=>
   rintro y c st2 _ hy ⟨rfl,na,nb,out,ac,bc,rfl,m,a1,b1,a2,b2,le⟩;dsimp only;obtain ⟨p,ep,mp,rp⟩:=Uh (nb - 1) (by (clear le a2 b1 a1 hy hx eb e ea hl h0 hb1 hk;lia));obtain ⟨q,eq,mq,rq⟩:=Pb (na - 1) (by (clear rp ep le b2 b1 a1 hy hx eb e ea hl h0 hb1 hk;lia));refine wpS_bind (bD ep (wpS_bind (bD eq (wpS_bind (rM C (kp.k.trans hk) mp mq ?_)))));dsimp only;have bM:b[nb - 1]=p:=Option.some.inj ((getElem?_pos b _ (by (clear rq eq rp ep le a2 b1 a1 hy hx eb e ea hl h0 hb1 hk;lia))).symm.trans ep);have gw:a[na - 1]=q:=Option.some.inj ((getElem?_pos a _ (by (clear bM rq eq rp ep le b2 b1 a1 hy hx eb e ea hl h0 hb1 hk;lia))).symm.trans eq);refine aM (fun lt=> ?_) (fun lt=> ?_)
   ·have lt:R rk b (nb - 1)<R rk a (na - 1):=by rw [rp,rq];simpa using lt
    have m2:=m.sO a1 a2 fun j j1 j2=>by have:=sb j (nb - 1) (by (clear j2 j1 lt gw bM rq eq rp ep le b2 a2 b1 a1 hy hx eb e ea hl h0 hb1 hk;lia)) (by (clear j2 lt gw bM rq eq rp ep le b2 a2 b1 a1 hy hx eb e ea hl h0 hb1 hk;lia)) (by (clear j2 j1 lt gw bM rq eq rp ep le a2 b1 a1 hy hx eb e ea hl h0 hb1 hk;lia));(clear j2 j1 gw bM rq eq rp ep le b2 a2 b1 a1 hy hx eb e ea hl h0 hb1 hk;lia)
    rw [gw] at m2;refine wpS_bind (bD eq ?_);refine aM (fun e=> ?_) (fun e=> ?_)
    ·exact wpS_pure ⟨rfl,.inl ⟨_,_,rfl,m2.done (.inl (by simpa using e))⟩⟩
    have e:¬na - 1=0:=fun z=>e (beq_iff_eq.mpr z);refine aM (fun _=> ?_) (fun _=> ?_)
    ·exact wpS_pure ⟨rfl,.inr ⟨_,_,_,_,_,rfl,m2,by (clear lt gw bM rq eq rp ep le b2 a2 b1 a1 hy hx eb ea hl h0 hb1 hk;lia),b1,by (clear e lt gw bM rq eq rp ep le b2 b1 a1 hy hx eb ea hl h0 hb1 hk;lia),b2,by (clear e lt gw bM rq eq rp ep b2 a2 b1 hy hx eb ea hl h0 hb1 hk;lia)⟩⟩
    ·exact wpS_pure ⟨rfl,_,_,_,_,_,rfl,m2,by (clear lt gw bM rq eq rp ep le b2 a2 b1 a1 hy hx eb ea hl h0 hb1 hk;lia),b1,by (clear e lt gw bM rq eq rp ep le b2 b1 a1 hy hx eb ea hl h0 hb1 hk;lia),b2,by (clear e lt gw bM rq eq rp ep b2 a2 b1 hy hx eb ea hl h0 hb1 hk;lia)⟩
   ·have lt:R rk a (na - 1)<=R rk b (nb - 1):=by rw [rp,rq];simpa using lt
    have m2:=m.sJ (by (clear lt gw bM rq eq rp ep le b2 a2 a1 hy hx eb e ea hl h0 hb1 hk;lia)) b2 fun j j1 j2=>by have:=sa j (na - 1) (by (clear j2 j1 lt gw bM rq eq rp ep le b2 a2 b1 a1 hy hx eb e ea hl h0 hb1 hk;lia)) (by (clear j2 lt gw bM rq eq rp ep le b2 a2 b1 a1 hy hx eb e ea hl h0 hb1 hk;lia)) (by (clear j2 j1 lt gw bM rq eq rp ep le b2 b1 a1 hy hx eb e ea hl h0 hb1 hk;lia));(clear j2 j1 gw bM rq eq rp ep le b2 a2 b1 a1 hy hx eb e ea hl h0 hb1 hk;lia)
    rw [bM] at m2;refine wpS_bind (bD ep ?_);refine aM (fun e=> ?_) (fun e=> ?_)
    ·exact wpS_pure ⟨rfl,.inl ⟨_,_,rfl,m2.first fun i j i1 i2 j1 j2=>mid i j _ i1 (eq_of_beq e) j2⟩⟩
    have e:¬nb - 1=1:=fun z=>e (beq_iff_eq.mpr z);refine aM (fun _=> ?_) (fun _=> ?_)
    ·exact wpS_pure ⟨rfl,.inr ⟨_,_,_,_,_,rfl,m2,a1,by (clear lt gw bM rq eq rp ep le b2 a2 a1 hy hx eb ea hl h0 hb1 hk;lia),a2,by (clear e lt gw bM rq eq rp ep le a2 b1 a1 hy hx eb ea hl h0 hb1 hk;lia),by (clear e lt gw bM rq eq rp ep b2 a2 a1 hy hx eb ea hl h0 hb1 hk;lia)⟩⟩
    ·exact wpS_pure ⟨rfl,_,_,_,_,_,rfl,m2,a1,by (clear lt gw bM rq eq rp ep le b2 a2 a1 hy hx eb ea hl h0 hb1 hk;lia),a2,by (clear e lt gw bM rq eq rp ep le a2 b1 a1 hy hx eb ea hl h0 hb1 hk;lia),by (clear e lt gw bM rq eq rp ep b2 a2 a1 hy hx eb ea hl h0 hb1 hk;lia)⟩
  case Jk=>
   rintro c st2 ⟨rfl,(⟨r,cc,rfl,mr⟩|⟨na,nb,out,ac,bc,rfl,m,a1,b1,a2,b2,le⟩)⟩
   ·exact wpS_pure ⟨kp,r,_,rfl,mr⟩
   dsimp only;refine wpS_bind (wpS_lift (wpAny_rule ⟨rfl, ?_⟩))
   refine wpS_bind (wpS_mono (wpS_forRange (I:=fun y c st3=>yc st st3 /\ ∃na nb out mg ac bc,c=(none,na,nb,out,mg,ac,bc)/\MH rk a b out na nb/\1<=na/\2<=nb/\na<=a.size/\nb<=b.size/\na+nb+x+1+y<=a.size+b.size)
    (Q:=fun c st3=>yc st st3/\((∃r cc,c=(some r,cc)/\Mg rk a b r) \/ ∃na nb out mg ac bc,c=(none,na,nb,out,mg,ac,bc)/\MH rk a b out na nb/\1<=na/\2<=nb/\na<=a.size/\nb<=b.size/\na+nb+x+1<=a.size+b.size)) ?IV ?fin2 ⟨kp,_,_,_,_,_,_,rfl,m,a1,b1,a2,b2,by (clear b2 a2 b1 a1 hx eb e ea hl h0 hb1 hk;lia)⟩) ?post2)
   case fin2=>
    rintro c st3 ⟨JX,na,nb,out,mg,ac,bc,rfl,m,a1,b1,a2,b2,le⟩
    (clear b2 a2 b1 a1 hx eb e ea hl h0 hb1 hk;lia)
   case post2=>
    rintro c st3 ⟨JX,(⟨r,cc,rfl,mr⟩|⟨na,nb,out,mg,ac,bc,rfl,m,a1,b1,a2,b2,le⟩)⟩
    ·exact wpS_pure ⟨JX,r,_,rfl,mr⟩
    dsimp only;refine wpS_bind (mL fun lN k4=>wpS_pure ⟨JX.trans k4,_,_,_,_,rfl,m,a1,b1,a2,b2,by (clear b2 a2 b1 a1 hx eb e ea hl h0 hb1 hk;lia)⟩)
   case IV=>
    rintro y c st3 _ hy ⟨JX,na,nb,out,mg,ac,bc,rfl,m,a1,b1,a2,b2,le⟩;dsimp only;refine aM (fun _=> ?_) (fun _=> ?_)
    all_goals
     refine wpS_bind (mL fun lN k4=> ?_);have wR:=JX.trans k4;obtain ⟨p,ep,mp,rp⟩:=Uh (nb - 1) (by (clear le a2 b1 a1 hy hx eb e ea hl h0 hb1 hk;lia));have bM:b[nb - 1]=p:=Option.some.inj ((getElem?_pos b _ (by (clear rp ep le a2 b1 a1 hy hx eb e ea hl h0 hb1 hk;lia))).symm.trans ep);refine wpS_bind (bD ep (wpS_bind (gU C (wR.k.trans hk) mp ha (by (clear bM rp ep le b2 b1 a1 hy hx eb e ea hl h0 hb1 hk;lia)) (by (clear bM rp ep le b2 a2 b1 hy hx eb e ea hl h0 hb1 hk;lia)) (fun i j h1 h2 h3=>sa i j (by (clear h3 h2 h1 bM rp ep le b2 a2 b1 a1 hy hx eb e ea hl h0 hb1 hk;lia)) h2 (by (clear h2 h1 bM rp ep le b2 b1 a1 hy hx eb e ea hl h0 hb1 hk;lia))) fun k k1 k2 k3=> ?_)));dsimp only;simp only [Nat.zero_add] at k2 k3
     have mA:=m.p8 k1 fun i i1 i2 i3 j j1 j2=>by
      have e1:=K_ (k3 i i1 i2);have e2:=sb j (nb - 1) (by (clear e1 j2 j1 i3 i2 i1 k1 bM rp ep le b2 a2 b1 a1 hy hx eb e ea hl h0 hb1 hk;lia)) (by (clear e1 j2 i3 i2 i1 k1 bM rp ep le b2 a2 b1 a1 hy hx eb e ea hl h0 hb1 hk;lia)) (by (clear e1 j2 j1 i3 i2 i1 k1 bM rp ep le a2 b1 a1 hy hx eb e ea hl h0 hb1 hk;lia))
      (clear j2 j1 i3 i2 i1 k1 bM ep le b2 a2 b1 a1 hy hx eb e ea hl h0 hb1 hk;lia)
     have nxt:∀j,j<k->j<a.size->R rk a j<=R rk b (nb - 1):=fun j j1 j2=>by
      have:=Ou (k2 j j1)
      (clear j2 j1 k1 bM ep le b2 a2 b1 a1 hy hx eb e ea hl h0 hb1 hk;lia)
     apply aM
     case' h1=>
      intro kpos;refine aM (fun e=> ?_) (fun e=> ?_)
      ·exact wpS_pure ⟨wR,.inl ⟨_,_,rfl,mA.done (.inl (by simpa using e))⟩⟩
      have e1:¬k=0:=fun z=>e (beq_iff_eq.mpr z);have a3:1<=k:=by (clear e kpos k1 bM rp ep le b2 a2 b1 a1 hy hx eb ea hl h0 hb1 hk;lia)
      have a4:k<=a.size:=by (clear a3 e1 e kpos bM rp ep le b2 b1 a1 hy hx eb ea hl h0 hb1 hk;lia)
      have fW:k+nb+x+1+y<=a.size+b.size:=by (clear a4 a3 e1 e kpos bM rp ep b2 a2 b1 a1 hy hx eb ea hl h0 hb1 hk;lia)
     case' h2=>
      intro kpos;have k0:k=na:=by (clear bM rp ep le b2 a2 b1 a1 hy hx eb e ea hl h0 hb1 hk;lia)
      have a3:1<=na:=a1;have a4:na<=a.size:=a2;have fW:na+nb+x+1+y<=a.size+b.size:=by (clear a4 a3 k0 kpos k1 bM rp ep b2 a2 b1 a1 hy hx eb e ea hl h0 hb1 hk;lia)
      rw [k0] at nxt
      replace mA:=m
     all_goals
      have mB:=mA.sJ (by (clear fW a4 a3 kpos k1 bM rp ep le b2 a2 a1 hy hx eb e ea hl h0 hb1 hk;lia)) b2 nxt;rw [bM] at mB;refine wpS_bind (bD ep ?_);refine aM (fun e=> ?_) (fun e=> ?_)
      ·exact wpS_pure ⟨wR,.inl ⟨_,_,rfl,mB.first fun i j i1 i2 j1 j2=>mid i j _ i1 (eq_of_beq e) j2⟩⟩
      have e3:¬nb - 1=1:=fun z=>e (beq_iff_eq.mpr z);obtain ⟨q,eq,mq,rq⟩:=Pb _ (Nat.lt_of_lt_of_le (Nat.sub_lt a3 Nat.one_pos) a4);refine wpS_bind (bD eq (wpS_bind (gU C (wR.k.trans hk) mq hb (by (clear rq eq e3 e fW a4 a3 kpos k1 bM rp ep le a2 b1 a1 hy hx eb ea hl h0 hb1 hk;lia)) (by (clear rq eq e3 e fW a4 a3 kpos k1 bM rp ep le b2 a2 a1 hy hx eb ea hl h0 hb1 hk;lia)) (fun i j h1 h2 h3=>sb i j (by (clear h3 h2 h1 rq eq e3 e fW a4 a3 kpos k1 bM rp ep le b2 a2 b1 a1 hy hx eb ea hl h0 hb1 hk;lia)) h2 (by (clear h2 h1 rq eq e3 e fW a4 a3 kpos k1 bM rp ep le a2 b1 a1 hy hx eb ea hl h0 hb1 hk;lia))) fun k' l1 l2 l3=> ?_)));dsimp only;simp only [Nat.zero_add] at l2 l3
      have mC:=mB.p7 l1 fun i i1 i2 i3 j j1 j2=>by
       have e1:=Ar (l3 i i1 i2);have e2:=sa j _ (by (clear e1 j2 j1 i3 i2 i1 l1 rq eq e3 e fW a4 a3 kpos k1 bM rp ep le b2 a2 b1 a1 hy hx eb ea hl h0 hb1 hk;lia)) (Nat.le_sub_one_of_lt j1) (by (clear e1 j2 j1 i3 i2 i1 l1 rq eq e3 e fW a4 a3 kpos bM rp ep le b2 b1 a1 hy hx eb ea hl h0 hb1 hk;lia))
       (clear j2 j1 i3 i2 i1 l1 eq e3 e fW a4 a3 kpos k1 bM rp ep le b2 a2 b1 a1 hy hx eb ea hl h0 hb1 hk;lia)
      have nx:∀j,j<k'->j<b.size->R rk b j<=rk q.1:=fun j j1 j2=>by
       have:=RX (l2 j j1)
       (clear j2 j1 l1 rq eq e3 e fW a4 a3 kpos k1 bM rp ep le b2 a2 b1 a1 hy hx eb ea hl h0 hb1 hk;lia)
      apply aM
      case' h1=>
       intro kpos;refine aM (fun e=> ?_) (fun e=> ?_)
       ·exact wpS_pure ⟨wR,.inl ⟨_,_,rfl,mC.first fun i j i1 i2 j1 j2=>mid i j _ i1 (eq_of_beq e) j2⟩⟩
       have e4:¬k'=1:=fun z=>e (beq_iff_eq.mpr z);refine aM (fun e=> ?_) (fun e=> ?_)
       ·exact wpS_pure ⟨wR,.inl ⟨_,_,rfl,mC.done (.inr (by simpa using e))⟩⟩
       have e5:¬k'=0:=fun z=>e (beq_iff_eq.mpr z);have b3:2<=k':=by (clear e kpos l1 rq eq e3 fW a4 a3 k1 bM rp ep le b2 a2 b1 a1 hy hx eb ea hl h0 hb1 hk;lia)
      case' h2=>
       intro kpos;have k0:k'=nb - 1:=by (clear rq eq e3 e fW a4 a3 k1 bM rp ep le b2 a2 b1 a1 hy hx eb ea hl h0 hb1 hk;lia)
       rw [k0] at nx;have b3:2<=nb - 1:=by (clear k0 kpos l1 rq eq e fW a4 a3 k1 bM rp ep le b2 a2 a1 hy hx eb ea hl h0 hb1 hk;lia)
       replace mC:=mB
      all_goals
       have mD:=mC.sO a3 a4 (fun j j1 j2=>by rw [rq];exact nx j j1 j2);have gw:=Option.some.inj ((getElem?_pos a _ (by (clear b3 kpos l1 rq eq e3 e fW k1 bM rp ep le b2 a2 b1 a1 hy hx eb ea hl h0 hb1 hk;lia))).symm.trans eq);rw [gw] at mD;refine wpS_bind (bD eq ?_);refine aM (fun e=> ?_) (fun e=> ?_)
       ·exact wpS_pure ⟨wR,.inl ⟨_,_,rfl,mD.done (.inl (eq_of_beq e))⟩⟩
       have e6:¬_=0:=fun z=>e (beq_iff_eq.mpr z);refine aM (fun _=> ?_) (fun _=> ?_)
       ·exact wpS_pure ⟨wR,.inr ⟨_,_,_,_,_,_,rfl,mD,by (clear e gw b3 kpos l1 rq eq e3 fW a4 a3 k1 bM rp ep le b2 a2 b1 a1 hy hx eb ea hl h0 hb1 hk;lia),by (clear e6 e gw b3 kpos l1 rq eq fW a4 a3 k1 bM rp ep le b2 a2 a1 hy hx eb ea hl h0 hb1 hk;lia),by (clear e6 e gw b3 kpos l1 rq eq e3 fW a4 a3 k1 bM rp ep le b2 b1 a1 hy hx eb ea hl h0 hb1 hk;lia),by (clear e6 e gw b3 kpos rq eq e3 fW a4 a3 k1 bM rp ep le a2 b1 a1 hy hx eb ea hl h0 hb1 hk;lia),by (clear e6 e gw b3 kpos rq eq e3 fW a4 a3 k1 bM rp ep b2 a2 b1 a1 hy hx eb ea hl h0 hb1 hk;lia)⟩⟩
       ·exact wpS_pure ⟨wR,_,_,_,_,_,_,rfl,mD,by (clear e gw b3 kpos l1 rq eq e3 fW a4 a3 k1 bM rp ep le b2 a2 b1 a1 hy hx eb ea hl h0 hb1 hk;lia),by (clear e6 e gw b3 kpos l1 rq eq fW a4 a3 k1 bM rp ep le b2 a2 a1 hy hx eb ea hl h0 hb1 hk;lia),by (clear e6 e gw b3 kpos l1 rq eq e3 fW a4 a3 k1 bM rp ep le b2 b1 a1 hy hx eb ea hl h0 hb1 hk;lia),by (clear e6 e gw b3 kpos rq eq e3 fW a4 a3 k1 bM rp ep le a2 b1 a1 hy hx eb ea hl h0 hb1 hk;lia),by (clear e6 e gw b3 kpos rq eq e3 fW a4 a3 k1 bM rp ep b2 a2 b1 hy hx eb ea hl h0 hb1 hk;lia)⟩
end
end Tim
set_option Elab.async false
set_option linter.all false
set_option maxRecDepth 100000
set_option maxHeartbeats 4000000
namespace Tim
open PySem PyProof.Rows
section
variable {prog:Program} {w:World} {A:Around} {E:Value->Shared->Prop} {s:Shared} {κ:SortKind} {a₀:Array Keyed} {rk:Value->Nat} {pd:Array (Nat×Nat×Nat)}
structure SB (κ:SortKind) (a₀:Array Keyed) (pd:Array (Nat×Nat×Nat)) (st:SortSt):Prop where
 perm:(arrOf st).Perm a₀
 kind:kindOf st=κ
 failed:failedOf st=none
 pend:pendingOf st=pd
theorem SB.size {st:SortSt} (h:SB κ a₀ pd st):(arrOf st).size=a₀.size:=h.perm.size_eq
theorem SB.setArr {st:SortSt} (h:SB κ a₀ pd st) {xs:Array Keyed} (hp:xs.Perm (arrOf st)):SB κ a₀ pd (setArr st xs):=⟨hp.trans h.perm,h.kind,h.failed,h.pend⟩
theorem SB.mem {st:SortSt} (h:SB κ a₀ pd st) {p:Keyed} (hp:p∈(arrOf st).toList):p∈a₀.toList:=(Array.perm_iff_toList_perm.mp h.perm).mem_iff.mp hp
theorem jg {st:SortSt} {i j:Nat} {Q:Option Bool->SortSt->Prop} (C:Dp prog w A s κ a₀ rk) (hB:SB κ a₀ pd st) (hi:i<a₀.size) (hj:j<a₀.size) (h:Q (some (decide (R rk (arrOf st) i<R rk (arrOf st) j))) st):
 wpS (model prog w) A E s (ltAt' i j) Q st:=by
 rw [ltAt'_eq];refine wpS_bind (wpS_get ?_);have hi':i<(arrOf st).size:=by rw [hB.size];exact hi
 have hj':j<(arrOf st).size:=by rw [hB.size];exact hj
 rw [gO hi',gO hj'] at h;exact wpS_bind (bD (getElem?_pos (arrOf st) i hi') (wpS_bind (bD (getElem?_pos (arrOf st) j hj') (rM C hB.kind (hB.mem (by simp)) (hB.mem (by simp)) h))))
def Kb (lo:Nat) (st st':SortSt):Prop:=∀i,i<lo->(arrOf st')[i]? = (arrOf st)[i]?
theorem Kb.refl {lo:Nat} {st:SortSt}:Kb lo st st:=fun _ _=>rfl
theorem Kb.trans {lo:Nat} {a b c:SortSt} (h:Kb lo a b) (g:Kb lo b c):Kb lo a c:=fun i hi=>(g i hi).trans (h i hi)
theorem uJ {xs:Array Keyed} {i j:Nat} (hj:j<=xs.size) (k:Nat):R rk (mirror xs i j ((j - i) / 2)) k=if i<=k/\k<j then R rk xs (i+j - 1 - k) else R rk xs k:=by
 have e:=getElem?_mirror_all (i:=i) hj k
 by_cases h1:i<=k/\k<j
 ·rw [if_pos h1] at e ⊢;exact fD e
 ·rw [if_neg h1] at e ⊢;exact fD e
theorem mZ {st:SortSt} {lo i j:Nat} (hj:j<=(arrOf st).size) (hi:lo<=i):Kb lo st (setArr st (mirror (arrOf st) i j ((j - i) / 2))):=fun k hk=>by
 show (mirror (arrOf st) i j ((j - i) / 2))[k]? = _;rw [getElem?_mirror_all hj,if_neg (by (clear hj;lia))]
theorem iQ {xs:Array Keyed} {i j:Nat} (hj:j<=xs.size) (heq:∀k,i<=k->k<j->R rk xs k=R rk xs (j - 1)) (k:Nat):R rk (mirror xs i j ((j - i) / 2)) k=R rk xs k:=by
 rw [uJ hj];split
 ·rw [heq _ (by (clear hj;lia)) (by (clear hj;lia)),heq k (by (clear hj;lia)) (by (clear hj;lia))]
 ·rfl
theorem Ak {xs:Array Keyed} {src d:Nat} (hs:src<xs.size) (hd:d<=src) (k:Nat):
 R rk (bubble xs src d) k=if k=src - d then R rk xs src else if src - d<k/\k<=src then R rk xs (k - 1) else R rk xs k:=by
 have e:=getElem?_bubble hs d hd k
 by_cases h1:k=src - d
 ·rw [if_pos h1] at e ⊢;exact fD e
 ·rw [if_neg h1] at e ⊢
  by_cases h2:src - d<k/\k<=src
  ·rw [if_pos h2] at e ⊢;exact fD e
  ·rw [if_neg h2] at e ⊢;exact fD e
def Sx (rk:Value->Nat) (xs:Array Keyed) (lo hi:Nat):Prop:=∀i j,lo<=i->i<=j->j<hi->R rk xs j<=R rk xs i
theorem wpS_countRun {st:SortSt} {lo nrem:Nat} {Q:Option Nat->SortSt->Prop} (C:Dp prog w A s κ a₀ rk) (hn:lo+nrem<=a₀.size) (h1:1<=nrem) (hB:SB κ a₀ pd st)
 (h:∀m st',SB κ a₀ pd st'->Kb lo st st'->1<=m->m<=nrem->Seg rk (arrOf st') lo (lo+m)->Q (some m) st'):wpS (model prog w) A E s (countRun' lo nrem) Q st:=by
 rw [countRun'_eq]
 refine wpS_bind (wpS_mono (wpS_forRange (I:=fun x c st'=>st'=st/\c=(none,x)/\Seg rk (arrOf st) lo (lo+x))
  (Q:=fun c st'=>st'=st /\ ∃n,c=(none,n)/\1<=n/\n<=nrem/\Seg rk (arrOf st) lo (lo+n)/\(n=nrem\/R rk (arrOf st) (lo+n)<R rk (arrOf st) (lo+n - 1))) ?step ?fin ⟨rfl,rfl,fun i j a b c=>by rw [show i=j by (clear h1 hn;lia)];exact Nat.le_refl _⟩) ?post)
 case fin=>
  rintro c st' ⟨rfl,rfl,hs⟩;rw [show max 1 nrem=nrem by (clear hn;lia)] at hs ⊢;exact ⟨rfl,nrem,rfl,h1,Nat.le_refl _,hs,.inl rfl⟩
 case step=>
  rintro x c st' x1 xn ⟨rfl,rfl,hs⟩;dsimp only;refine wpS_bind (jg C hB (by (clear x1 h1;lia)) (by (clear x1 h1;lia)) ?_);dsimp only;refine aM (fun lt=> ?_) (fun lt=> ?_)
  ·exact wpS_pure ⟨rfl,x,rfl,x1,by (clear lt x1 h1 hn;lia),hs,.inr (of_decide_eq_true lt)⟩
  ·have lt:R rk (arrOf st') (lo+x - 1)<=R rk (arrOf st') (lo+x):=Nat.le_of_not_lt fun z=>lt (decide_eq_true z)
   refine wpS_pure ⟨rfl,rfl,fun i j a b c=> ?_⟩
   by_cases hj:j<lo+x
   ·exact hs i j a b hj
   ·have:j=lo+x:=by (clear b a lt xn x1 h1 hn;lia)
    subst this
    by_cases hi:i=lo+x
    ·rw [hi];exact Nat.le_refl _
    ·exact Nat.le_trans (hs i (lo+x - 1) a (by (clear hj c a lt xn x1 h1 hn;lia)) (by (clear hi hj c b a lt xn h1 hn;lia))) lt
 case post=>
  rintro c st' ⟨rfl,n,rfl,n1,nn,hs,hor⟩;dsimp only;have hsz:(arrOf st').size=a₀.size:=hB.size;refine aM (fun e=> ?_) (fun e=> ?_)
  ·exact wpS_pure (h n _ hB Kb.refl n1 nn hs)
  have e:¬n=nrem:=fun z=>e (beq_iff_eq.mpr z);have lt:=hor.resolve_left e;have n2:n+1<=nrem:=by (clear lt hsz hor n1 h1 hn;lia)
  apply aM
  case' h1=>
   intro gt;refine wpS_bind (jg C hB (by (clear gt n2 lt e hsz hor nn n1;lia)) (by (clear gt n2 lt e hsz hor n1;lia)) ?_);dsimp only;refine aM (fun rose=> ?_) (fun rose=> ?_)
   ·exact wpS_pure (h n _ hB Kb.refl n1 nn hs)
   have rose:R rk (arrOf st') (lo+n - 1)<=R rk (arrOf st') lo:=Nat.le_of_not_lt fun z=>rose (decide_eq_true z)
   have all:∀k,lo<=k->k<lo+n->R rk (arrOf st') k=R rk (arrOf st') (lo+n - 1):=fun k k1 k2=>by
    have a1:=hs lo k (Nat.le_refl _) k1 k2;have a2:=hs k (lo+n - 1) k1 (by (clear a1 k1 rose gt n2 lt e hsz hor nn n1 h1 hn;lia)) (by (clear a1 k2 k1 rose gt n2 lt e hsz hor nn h1 hn;lia))
    (clear k2 k1 gt n2 lt e hsz hor nn n1 h1 hn;lia)
   rw [reverseSlice'_eq];refine wpS_bind (wpS_modify ?_);have jY:SB κ a₀ pd (setArr st' (mirror (arrOf st') lo (lo+n) ((lo+n - lo) / 2))):=hB.setArr (mirror_perm _ _ _ _);have k1:Kb lo st' (setArr st' (mirror (arrOf st') lo (lo+n) ((lo+n - lo) / 2))):=mZ (by (clear rose gt n2 lt e hor n1 h1;lia)) (Nat.le_refl _)
   have dw:Sx rk (arrOf (setArr st' (mirror (arrOf st') lo (lo+n) ((lo+n - lo) / 2)))) lo (lo+n+1):=fun i j a b c=>by
    show R rk (mirror _ _ _ _) j<=R rk (mirror _ _ _ _) i;rw [iQ (by (clear c b a rose gt n2 lt e hor n1 h1;lia)) all,iQ (by (clear c b a rose gt n2 lt e hor n1 h1;lia)) all]
    by_cases hj:j<lo+n
    ·rw [all i a (by (clear c a rose gt n2 lt e hsz hor nn n1 h1 hn;lia)),all j (by (clear hj c rose gt n2 lt e hsz hor nn n1 h1 hn;lia)) hj];exact Nat.le_refl _
    ·have:j=lo+n:=by (clear b a rose gt n2 lt e hsz hor nn n1 h1 hn;lia)
     subst this
     by_cases hi:i=lo+n
     ·rw [hi];exact Nat.le_refl _
     ·rw [all i a (by (clear hj c a rose gt n2 lt e hsz hor nn n1 h1 hn;lia))];(clear hi hj c b a rose gt n2 lt hsz nn n1 h1 hn;lia)
   generalize setArr st' (mirror (arrOf st') lo (lo+n) ((lo+n - lo) / 2))=st1 at jY k1 dw ⊢
  case' h2=>
   intro gt;have jY:=hB;have k1:Kb lo st' st':=Kb.refl
   have dw:Sx rk (arrOf st') lo (lo+n+1):=fun i j a b c=>by
    have e1:n=1:=by (clear c b a n2 lt e hsz hor nn h1 hn;lia)
    subst e1
    by_cases hi:i=j
    ·rw [hi];exact Nat.le_refl _
    ·have:i=lo+1 - 1:=by (clear gt n2 lt e hor nn n1 hsz h1 hn;lia)
     have:j=lo+1:=by (clear this gt n2 lt e hor nn n1 hsz h1 hn;lia)
     subst_vars
     (clear hi b c a gt n2 lt nn n1 hsz h1 hn;lia)
   revert jY k1 dw;generalize hst:st'=st1;intro jY k1 dw
  all_goals
   refine wpS_bind (wpS_lift (wpAny_rule ⟨rfl, ?_⟩))
   refine wpS_bind (wpS_mono (wpS_forRange (I:=fun x c st2=>∃neq,c=(none,x,neq)/\SB κ a₀ pd st2/\Kb lo st1 st2/\Sx rk (arrOf st2) lo (lo+x)/\neq+1<=x/\(∀i,lo+x - (neq+1)<=i->i<lo+x->R rk (arrOf st2) i=R rk (arrOf st2) (lo+x - 1)))
    (Q:=fun c st2=>∃x neq,c=(none,x,neq)/\n+1<=x/\x<=nrem/\SB κ a₀ pd st2/\Kb lo st1 st2/\Sx rk (arrOf st2) lo (lo+x)/\neq+1<=x/\(∀i,lo+x - (neq+1)<=i->i<lo+x->R rk (arrOf st2) i=R rk (arrOf st2) (lo+x - 1))) ?_ ?_ ⟨0,rfl,jY,Kb.refl,dw,by (clear gt n2 lt e hsz hor nn n1 h1 hn;lia),fun i a b=>by congr 1;(clear gt n2 lt e hsz hor nn n1 h1 hn;lia)⟩) ?_)
   ·rintro x c st2 x1 xn ⟨neq,rfl,hB2,k2,d2,q2,e2⟩
    dsimp only;have jX:(arrOf st2).size=a₀.size:=hB2.size;refine wpS_bind (jg C hB2 (by (clear jX q2 x1 gt n2 lt e hsz hor nn n1 h1;lia)) (by (clear jX q2 x1 gt n2 lt e hsz hor nn n1 h1;lia)) ?_);dsimp only;refine aM (fun lt=> ?_) (fun lt=> ?_)
    ·have lt:R rk (arrOf st2) (lo+x)<R rk (arrOf st2) (lo+x - 1):=of_decide_eq_true lt
     have step1:∀xs:Array Keyed,(∀k,R rk xs k=R rk (arrOf st2) k)->Sx rk xs lo (lo+(x+1)):=by
      intro xs hk i j a b c;rw [hk,hk]
      by_cases hj:j<lo+x
      ·exact d2 i j a b hj
      ·have:j=lo+x:=by (clear b a lt jX q2 xn x1 gt n2 e hsz hor nn n1 h1 hn;lia)
       subst this
       by_cases hi:i=lo+x
       ·rw [hi];exact Nat.le_refl _
       ·exact Nat.le_trans (Nat.le_of_lt lt) (d2 i (lo+x - 1) a (by (clear hj c a lt jX q2 xn x1 gt n2 e hsz hor nn n1 h1 hn;lia)) (by (clear hi hj c b a lt jX q2 xn gt n2 e hsz hor nn n1 h1 hn;lia)))
     refine aM (fun _=> ?_) (fun _=> ?_)
     ·rw [reverseSlice'_eq]
      refine wpS_bind (wpS_modify (wpS_pure ⟨0,rfl,hB2.setArr (mirror_perm _ _ _ _),k2.trans (mZ (by (clear lt q2 x1 gt n2 e hsz hor nn n1 h1;lia)) (by (clear lt jX xn x1 gt n2 e hsz hor nn n1 h1 hn;lia))),step1 _ (iQ (by (clear lt q2 x1 gt n2 e hsz hor nn n1 h1;lia)) e2),by (clear lt jX q2 xn x1 gt n2 e hsz hor nn n1 h1 hn;lia),fun i a b=>by congr 1;(clear lt jX q2 xn x1 gt n2 e hsz hor nn n1 h1 hn;lia)⟩))
     ·exact wpS_pure ⟨0,rfl,hB2,k2,step1 _ (fun _=>rfl),by (clear lt jX q2 xn x1 gt n2 e hsz hor nn n1 h1 hn;lia),fun i a b=>by congr 1;(clear lt jX q2 xn x1 gt n2 e hsz hor nn n1 h1 hn;lia)⟩
    ·have ge:R rk (arrOf st2) (lo+x - 1)<=R rk (arrOf st2) (lo+x):=Nat.le_of_not_lt fun z=>lt (decide_eq_true z)
     refine wpS_bind (jg C hB2 (by (clear ge lt jX q2 x1 gt n2 e hsz hor nn n1 h1;lia)) (by (clear ge lt jX q2 x1 gt n2 e hsz hor nn n1 h1;lia)) ?_);dsimp only;refine aM (fun lg=> ?_) (fun lg=> ?_)
     ·exact wpS_pure ⟨x,neq,rfl,x1,by (clear lg ge lt jX q2 x1 gt n2 e hsz hor nn n1 h1 hn;lia),hB2,k2,d2,q2,e2⟩
     ·have le:R rk (arrOf st2) (lo+x)<=R rk (arrOf st2) (lo+x - 1):=Nat.le_of_not_lt fun z=>lg (decide_eq_true z)
      have NZ:R rk (arrOf st2) (lo+x)=R rk (arrOf st2) (lo+x - 1):=by (clear lg lt jX q2 xn x1 gt n2 e hsz hor nn n1 h1 hn;lia)
      refine wpS_pure ⟨neq+1,rfl,hB2,k2,fun i j a b c=> ?_,by (clear NZ le lg ge lt jX xn x1 gt n2 e hsz hor nn n1 h1 hn;lia),fun i a b=> ?_⟩
      ·by_cases hj:j<lo+x
       ·exact d2 i j a b hj
       ·have:j=lo+x:=by (clear b a NZ le lg ge lt jX q2 xn x1 gt n2 e hsz hor nn n1 h1 hn;lia)
        subst this
        by_cases hi:i=lo+x
        ·rw [hi];exact Nat.le_refl _
        ·rw [NZ];exact d2 i (lo+x - 1) a (by (clear hj c a NZ le lg ge lt jX q2 xn x1 gt n2 e hsz hor nn n1 h1 hn;lia)) (by (clear hi hj c b a NZ le lg ge lt jX q2 xn gt n2 e hsz hor nn n1 h1 hn;lia))
      ·rw [show lo+(x+1) - 1=lo+x by (clear b a NZ le lg ge lt jX q2 xn x1 gt n2 e hsz hor nn n1 h1 hn;lia)]
       by_cases hi:i=lo+x
       ·rw [hi]
       ·rw [NZ];exact e2 i (by (clear hi b NZ le lg ge lt jX q2 xn x1 gt n2 e hsz hor nn n1 h1 hn;lia)) (by (clear a NZ le lg ge lt jX q2 xn x1 gt n2 e hsz hor nn n1 h1 hn;lia))
   ·rintro c st2 ⟨neq,rfl,hB2,k2,d2,q2,e2⟩
    rw [show max (n+1) nrem=nrem by (clear q2 gt n2 lt hsz hor n1 h1 hn;lia)] at d2 q2 e2 ⊢;exact ⟨nrem,neq,rfl,n2,Nat.le_refl _,hB2,k2,d2,q2,e2⟩
   ·rintro c st2 ⟨x,neq,rfl,x1,xn,hB2,k2,d2,q2,e2⟩
    dsimp only;have jX:(arrOf st2).size=a₀.size:=hB2.size;apply aM
    case' h1=>
     intro _;rw [reverseSlice'_eq];refine wpS_bind (wpS_modify ?_);have hB3:SB κ a₀ pd (setArr st2 (mirror (arrOf st2) (lo+x - (neq+1)) (lo+x) ((lo+x - (lo+x - (neq+1))) / 2))):=hB2.setArr (mirror_perm _ _ _ _);have k3:=k2.trans (mZ (st:=st2) (lo:=lo) (i:=lo+x - (neq+1)) (j:=lo+x) (by (clear q2 x1 gt n2 lt e hsz hor nn n1 h1;lia)) (by (clear jX xn x1 gt n2 lt e hsz hor nn n1 h1 hn;lia)))
     have d3:Sx rk (arrOf (setArr st2 (mirror (arrOf st2) (lo+x - (neq+1)) (lo+x) ((lo+x - (lo+x - (neq+1))) / 2)))) lo (lo+x):=fun i j a b c=>by
      show R rk (mirror _ _ _ _) j<=R rk (mirror _ _ _ _) i;rw [iQ (by (clear c b a q2 x1 gt n2 lt e hsz hor nn n1 h1;lia)) e2,iQ (by (clear c b a q2 x1 gt n2 lt e hsz hor nn n1 h1;lia)) e2];exact d2 i j a b c
     generalize setArr st2 (mirror (arrOf st2) (lo+x - (neq+1)) (lo+x) ((lo+x - (lo+x - (neq+1))) / 2))=st3 at hB3 k3 d3 ⊢
    case' h2=>
     intro _;have hB3:=hB2;have k3:=k2;have d3:=d2;revert hB3 k3 d3;generalize st2=st3;intro hB3 k3 d3
    all_goals
     have Du:(arrOf st3).size=a₀.size:=hB3.size;rw [reverseSlice'_eq];refine wpS_bind (wpS_modify ?_);have pY:SB κ a₀ pd (setArr st3 (mirror (arrOf st3) lo (lo+x) ((lo+x - lo) / 2))):=hB3.setArr (mirror_perm _ _ _ _);have k4:=k3.trans (mZ (st:=st3) (lo:=lo) (i:=lo) (j:=lo+x) (by (clear jX q2 x1 gt n2 lt e hsz hor nn n1 h1;lia)) (by (clear Du jX q2 xn x1 gt n2 lt e hsz hor nn n1 h1 hn;lia)))
     have s4:Seg rk (arrOf (setArr st3 (mirror (arrOf st3) lo (lo+x) ((lo+x - lo) / 2)))) lo (lo+x):=fun i j a b c=>by
      show R rk (mirror _ _ _ _) i<=R rk (mirror _ _ _ _) j;rw [uJ (by (clear c b a jX q2 x1 gt n2 lt e hsz hor nn n1 h1;lia)),uJ (by (clear c b a jX q2 x1 gt n2 lt e hsz hor nn n1 h1;lia)),if_pos (by (clear Du jX q2 xn x1 gt n2 lt e hsz hor nn n1 h1 hn;lia)),if_pos (by (clear Du jX q2 xn x1 gt n2 lt e hsz hor nn n1 h1 hn;lia))];exact d3 _ _ (by (clear b a Du jX q2 xn x1 gt n2 lt e hsz hor nn n1 h1 hn;lia)) (by (clear c a Du jX q2 xn x1 gt n2 lt e hsz hor nn n1 h1 hn;lia)) (by (clear c b Du jX q2 xn gt n2 lt e hsz hor nn n1 h1 hn;lia))
     generalize setArr st3 (mirror (arrOf st3) lo (lo+x) ((lo+x - lo) / 2))=lN at pY k4 s4 ⊢
     refine wpS_bind (wpS_mono (wpS_forRange (I:=fun y c uN=>uN=lN/\c=(none,y)/\Seg rk (arrOf lN) lo (lo+y))
      (Q:=fun c uN=>uN=lN /\ ∃y,c=(none,y)/\x<=y/\y<=nrem/\Seg rk (arrOf lN) lo (lo+y)) ?_ ?_ ⟨rfl,rfl,s4⟩) ?_)
     ·rintro y c uN y1 yn ⟨rfl,rfl,Ph⟩
      dsimp only;refine wpS_bind (jg C pY (by (clear y1 Du jX q2 xn x1 gt n2 lt e hsz hor nn n1 h1;lia)) (by (clear y1 Du jX q2 xn x1 gt n2 lt e hsz hor nn n1 h1;lia)) ?_);dsimp only;refine aM (fun lt=> ?_) (fun lt=> ?_)
      ·exact wpS_pure ⟨rfl,y,rfl,y1,by (clear lt y1 Du jX q2 xn x1 gt n2 e hsz hor nn n1 h1 hn;lia),Ph⟩
      ·have lt:R rk (arrOf uN) (lo+y - 1)<=R rk (arrOf uN) (lo+y):=Nat.le_of_not_lt fun z=>lt (decide_eq_true z)
       refine wpS_pure ⟨rfl,rfl,fun i j a b c=> ?_⟩
       by_cases hj:j<lo+y
       ·exact Ph i j a b hj
       ·have:j=lo+y:=by (clear b a lt yn y1 Du jX q2 xn x1 gt n2 e hsz hor nn n1 h1 hn;lia)
        subst this
        by_cases hi:i=lo+y
        ·rw [hi];exact Nat.le_refl _
        ·exact Nat.le_trans (Ph i (lo+y - 1) a (by (clear hj c a lt yn y1 Du jX q2 xn x1 gt n2 e hsz hor nn n1 h1 hn;lia)) (by (clear hi hj c b a lt yn Du jX q2 xn gt n2 e hsz hor nn n1 h1 hn;lia))) lt
     ·rintro c uN ⟨rfl,rfl,Ph⟩
      rw [show max x nrem=nrem by (clear Du jX q2 x1 gt n2 lt e hsz hor nn n1 h1 hn;lia)] at Ph ⊢;exact ⟨rfl,nrem,rfl,xn,Nat.le_refl _,Ph⟩
     ·rintro c uN ⟨rfl,y,rfl,y1,yn,Ph⟩
      exact wpS_pure (h y _ pY (by first |exact k1.trans k4|(subst hst;exact k4)) (by (clear yn Du jX q2 xn gt n2 lt e hsz hor nn n1 h1 hn;lia)) yn Ph)
theorem wpS_binarySort {st:SortSt} {lo n ok:Nat} {Q:Bool->SortSt->Prop} (C:Dp prog w A s κ a₀ rk) (hn:lo+n<=a₀.size) (hok:ok<=n) (hB:SB κ a₀ pd st) (hs:Seg rk (arrOf st) lo (lo+ok))
 (h:∀st',SB κ a₀ pd st'->Kb lo st st'->Seg rk (arrOf st') lo (lo+n)->Q true st'):wpS (model prog w) A E s (binarySort' lo n ok) Q st:=by
 rw [binarySort'_eq]
 refine wpS_bind (wpS_mono (wpS_forRange (I:=fun k c st'=>c=(none,())/\SB κ a₀ pd st'/\Kb lo st st'/\Seg rk (arrOf st') lo (lo+min k n))
  (Q:=fun c st'=>c=(none,())/\SB κ a₀ pd st'/\Kb lo st st'/\Seg rk (arrOf st') lo (lo+n)) ?step ?fin ?init) ?post)
 case post=>
  rintro c st' ⟨rfl,hB',k',hs'⟩;exact wpS_pure (h st' hB' k' hs')
 case init=>
  refine ⟨rfl,hB,Kb.refl,fun i j a b c=> ?_⟩
  by_cases h1:ok=0
  ·rw [show i=j by (clear hok hn;lia)];exact Nat.le_refl _
  ·exact hs i j a b (by (clear b a hok hn;lia))
 case fin=>
  rintro c st' ⟨hc,hB',k',hs'⟩;refine ⟨hc,hB',k', ?_⟩;rwa [show min (max (max ok 1) n) n=n by (clear hc hok hn;lia)] at hs'
 case step=>
  rintro k c st' hak hkn ⟨rfl,hB',k',hs'⟩;rw [show min k n=k by (clear hak hok hn;lia)] at hs';have sz:(arrOf st').size=a₀.size:=hB'.size
  refine wpS_bind (wpS_mono (wpS_forRange (I:=fun x c st''=>st''=st' /\ ∃l r,c=(none,l,r)/\l<=r/\r<=k/\r - l<=k - x /\
   (∀i,i<l->R rk (arrOf st') (lo+i)<=R rk (arrOf st') (lo+k))/\(∀i,r<=i->i<k->R rk (arrOf st') (lo+k)<R rk (arrOf st') (lo+i)))
   (Q:=fun c st''=>st''=st' /\ ∃l r,c=(none,l,r)/\l<=k /\
     (∀i,i<l->R rk (arrOf st') (lo+i)<=R rk (arrOf st') (lo+k))/\(∀i,l<=i->i<k->R rk (arrOf st') (lo+k)<R rk (arrOf st') (lo+i))) ?istep ?ifin ?iinit) ?ipost)
  case iinit=>exact ⟨rfl,0,k,rfl,by (clear sz hkn hak hok hn;lia),by (clear sz hkn hak hok hn;lia),by (clear sz hkn hak hok hn;lia),fun i hi=>by (clear sz hkn hak hok hn;lia),fun i h1 h2=>by (clear sz hkn hak hok hn;lia)⟩
  case ifin=>
   rintro c st'' ⟨rfl,l,r,rfl,hlr,hrk,hm,hlo,hhi⟩;have:l=r:=by (clear hrk sz hkn hak hok hn;lia)
   subst this;exact ⟨rfl,l,l,rfl,hrk,hlo,hhi⟩
  case istep=>
   rintro x c st'' _ hxk ⟨rfl,l,r,rfl,hlr,hrk,hm,hlo,hhi⟩;dsimp only;refine aM (fun hge=> ?_) (fun hge=> ?_)
   ·have:l=r:=by (clear hm hrk sz hxk hkn hak hok hn;lia)
    subst this;exact wpS_pure ⟨rfl,l,l,rfl,hrk,hlo,hhi⟩
   ·refine wpS_bind (jg C hB' (by (clear hge hm hrk hlr sz hxk hak hok;lia)) (by (clear hge hm sz hxk hak hok;lia)) ?_)
    dsimp only;refine aM (fun lt=> ?_) (fun lt=> ?_)
    ·have lt:=of_decide_eq_true lt
     refine wpS_pure ⟨rfl,l,(l+r) / 2,rfl,by (clear lt hge hm hrk sz hxk hkn hak hok hn;lia),by (clear lt hge hm sz hxk hkn hak hok hn;lia),by (clear lt hge hrk hlr sz hxk hkn hak hok hn;lia),hlo,fun i h1 h2=> ?_⟩;exact Nat.lt_of_lt_of_le lt (hs' _ _ (by (clear h2 h1 lt hge hm hrk hlr sz hxk hkn hak hok hn;lia)) (by (clear h2 lt hge hm hrk hlr sz hxk hkn hak hok hn;lia)) (by (clear h1 lt hge hm hrk hlr sz hxk hkn hak hok hn;lia)))
    ·have lt:R rk (arrOf st'') (lo+(l+r) / 2)<=R rk (arrOf st'') (lo+k):=Nat.le_of_not_lt fun z=>lt (decide_eq_true z)
     refine wpS_pure ⟨rfl,(l+r) / 2+1,r,rfl,by (clear lt hm hrk hlr sz hxk hkn hak hok hn;lia),by (clear lt hge hm hlr sz hxk hkn hak hok hn;lia),by (clear lt hge hrk hlr sz hxk hkn hak hok hn;lia),fun i h1=> ?_,hhi⟩;exact Nat.le_trans (hs' (lo+i) (lo+(l+r) / 2) (by (clear h1 lt hge hm hrk hlr sz hxk hkn hak hok hn;lia)) (by (clear lt hge hm hrk hlr sz hxk hkn hak hok hn;lia)) (by (clear h1 lt hm hlr sz hxk hkn hak hok hn;lia))) lt
  case ipost=>
   rintro c st'' ⟨rfl,l,r,rfl,hlk,hlo,hhi⟩;show wpS _ _ _ _ (do moveDown' (lo+k) (lo+l);pure (ForInStep.yield (none,()))) _ _;rw [moveDown'_eq];refine wpS_bind (wpS_modify (wpS_pure ⟨rfl,hB'.setArr (bubble_perm _ _ _),k'.trans ?_, ?_⟩))
   ·intro i hi
    show (bubble (arrOf st'') (lo+k) (lo+k - (lo+l)))[i]? = _;rw [getElem?_bubble (by (clear hi hlk hak hok;lia)) _ (by (clear hi hlk sz hkn hak hok hn;lia)),if_neg (by (clear hlk sz hkn hak hok hn;lia)),if_neg (by (clear hlk sz hkn hak hok hn;lia))]
   rw [show min (k+1) n=k+1 by (clear hlk sz hak hok hn;lia)];intro i j a b c;show R rk (bubble (arrOf st'') (lo+k) (lo+k - (lo+l))) i<=R rk (bubble (arrOf st'') (lo+k) (lo+k - (lo+l))) j;rw [Ak (by (clear c b a hlk hak hok;lia)) (by (clear c b a hlk sz hkn hak hok hn;lia)),Ak (by (clear c b a hlk hak hok;lia)) (by (clear c b a hlk sz hkn hak hok hn;lia)),show lo+k - (lo+k - (lo+l))=lo+l by (clear c b a sz hkn hak hok hn;lia)]
   have L1:∀i,lo<=i->i<lo+l->R rk (arrOf st'') i<=R rk (arrOf st'') (lo+k):=fun i i1 i2=>by
    have:=hlo (i - lo) (by (clear c b a hlk sz hkn hak hok hn;lia));rwa [show lo+(i - lo)=i by (clear this i2 c b a hlk sz hkn hak hok hn;lia)] at this
   have L2:∀i,lo+l<=i->i<lo+k->R rk (arrOf st'') (lo+k)<R rk (arrOf st'') i:=fun i i1 i2=>by
    have:=hhi (i - lo) (by (clear i2 c b a hlk sz hkn hak hok hn;lia)) (by (clear i1 c b a hlk sz hkn hok hn;lia));rwa [show lo+(i - lo)=i by (clear this i2 c b a hlk sz hkn hak hok hn;lia)] at this
   repeat' split
   all_goals first
    | (exfalso;(clear a hlk sz hkn hak hok hn;lia))
    | exact Nat.le_refl _
    | exact L1 _ (by (clear c b hlk sz hkn hak hok hn;lia)) (by (clear c a hlk sz hkn hak hok hn;lia))
    | exact Nat.le_of_lt (L2 _ (by (clear c b a hlk sz hkn hak hok hn;lia)) (by (clear c b a hlk sz hkn hak hok hn;lia)))
    | exact hs' _ _ (by (clear c b hlk sz hkn hak hok hn;lia)) (by (clear c a hlk sz hkn hak hok hn;lia)) (by (clear b a sz hkn hak hok hn;lia))
end
end Tim
set_option Elab.async false
set_option linter.all false
set_option maxRecDepth 100000
set_option maxHeartbeats 4000000
namespace Tim
open PySem PyProof.Rows
theorem zu (i:Nat):mergeAt' i=(do
 let s ←get
 let (some (sa,na,power),some (sb,nb,_)):=((pendingOf s)[i]?,(pendingOf s)[i+1]?)|unsupported "internal:list.sort.pending"
 set (SortSt.mk' (kindOf s) (arrOf s) (((pendingOf s).setIfInBounds i (sa,na+nb,power)).eraseIdxIfInBounds (i+1)) (gallopOf s) (failedOf s))
 let some k ←jD false (←elem' (arrOf s) sb) (arrOf s) sa na 0|return false
 let (sa,na):=(sa+k,na - k)
 if na==0 then return true
 let some nb ←jD true (←elem' (arrOf s) (sa+na - 1)) (arrOf s) sb nb (nb - 1)|return false
 if nb==0 then return true
 let x:=(arrOf s).extract sa sb
 let y:=(arrOf s).extract sb (sb+nb)
 let merged ←if na<=nb then sY x y else sZ x y
 modify fun s=>setArr s (merged.toList.zipIdx.foldl (fun a (p,j)=>a.setIfInBounds (sa+j) p) (arrOf s))
 return (failedOf (←get)).isNone):=rfl
section
variable {prog:Program} {w:World} {A:Around} {E:Value->Shared->Prop} {s:Shared} {κ:SortKind} {a₀:Array Keyed} {rk:Value->Nat} {pd:Array (Nat×Nat×Nat)}
theorem DQ (b:Nat) (m:List Keyed):∀(n:Nat) (xs:Array Keyed) (j:Nat),b+n+m.length<=xs.size->((m.zipIdx n).foldl (fun a x=>a.setIfInBounds (b+x.2) x.1) xs)[j]? = if b+n<=j/\j<b+n+m.length then m[j - (b+n)]? else xs[j]? :=by
 induction m with
 | nil=>intro n xs j h;rw [if_neg (by simp)];rfl
 | cons p m ih=>
   intro n xs j h;rw [List.length_cons] at h;rw [List.zipIdx_cons,List.foldl_cons,ih (n+1) _ j (by rw [Array.size_setIfInBounds];lia)]
   by_cases e:j=b+n
   ·subst e
    rw [if_neg (by (clear h;lia)),if_pos (by rw [List.length_cons];(clear h;lia)),Nat.sub_self];rw [Array.getElem?_setIfInBounds_self_of_lt (by lia)];rfl
   ·by_cases c:b+(n+1)<=j/\j<b+(n+1)+m.length
    ·rw [if_pos c,if_pos (by rw [List.length_cons];(clear e h;lia)),show j - (b+n)=(j - (b+(n+1)))+1 by (clear e h;lia),List.getElem?_cons_succ]
    ·rw [if_neg c,if_neg (by rw [List.length_cons];(clear h;lia)),Array.getElem?_setIfInBounds_ne (Ne.symm e)]
theorem Jf {b n:Nat} {m:List Keyed} {xs:Array Keyed} (hl:m.length=n) (hb:b+n<=xs.size) (hp:m.Perm ((xs.toList.drop b).take n)):((m.zipIdx).foldl (fun a x=>a.setIfInBounds (b+x.2) x.1) xs).Perm xs:=by
 have e:((m.zipIdx).foldl (fun a x=>a.setIfInBounds (b+x.2) x.1) xs).toList=xs.toList.take b++(m++xs.toList.drop (b+n)):=by
  have hx:xs.toList.length=xs.size:=Array.length_toList;apply List.ext_getElem?;intro j;rw [Array.getElem?_toList,DQ b m 0 xs j (by (clear hx;lia))]
  by_cases j1:j<b
  ·rw [if_neg (by (clear hx hb hl;lia)),List.getElem?_append_left (by rw [List.length_take,hx];(clear hx hl;lia)),List.getElem?_take_of_lt j1,Array.getElem?_toList]
  ·rw [List.getElem?_append_right (by rw [List.length_take,hx];(clear hx hb hl;lia)),List.length_take,hx,Nat.min_eq_left (by (clear j1 hx hl;lia))]
   by_cases j2:j<b+n
   ·rw [if_pos (by (clear hx hb;lia)),List.getElem?_append_left (by (clear hx hb;lia))];rfl
   ·rw [if_neg (by (clear j1 hx hb;lia)),List.getElem?_append_right (by (clear j1 hx hb;lia)),List.getElem?_drop,Array.getElem?_toList]
    congr 1
    (clear j1 hx hb;lia)
 refine Array.perm_iff_toList_perm.mpr ?_;rw [e]
 have sp:xs.toList=xs.toList.take b++((xs.toList.drop b).take n++xs.toList.drop (b+n)):=by
  rw [←tW,List.take_append_drop]
 refine List.Perm.trans ?_ (List.Perm.of_eq sp.symm);exact List.Perm.append_left _ (List.Perm.append_right _ hp)
theorem qF {xs:Array Keyed} {lo hi i:Nat} (h:lo+i<hi) (hh:hi<=xs.size):R rk (xs.extract lo hi) i=R rk xs (lo+i):=by
 apply fD;rw [Array.getElem?_extract];rw [if_pos (by lia)]
theorem Lk {σ:Type} {M:Model} {A:Around} {E:Value->Shared->Prop} {s:Shared} {x:σ} {Q:PUnit->σ->Prop} {st:σ} (h:Q ⟨⟩ x):wpS M A E s (set x:StateT σ Sem PUnit) Q st:=by
 unfold wpS;rw [StateT.run_set];exact wpAny_pure ⟨rfl,h⟩
theorem yj {st:SortSt} {i sa na pw sb nb Zv:Nat} {Q:Bool->SortSt->Prop} (C:Dp prog w A s κ a₀ rk) (hB:SB κ a₀ pd st) (h1:pd[i]? = some (sa,na,pw)) (h2:pd[i+1]? = some (sb,nb,Zv)) (hsb:sb=sa+na) (na1:1<=na) (cU:1<=nb) (hz:sb+nb<=a₀.size)
 (s1:Seg rk (arrOf st) sa (sa+na)) (s2:Seg rk (arrOf st) sb (sb+nb))
 (h:∀st',SB κ a₀ ((pd.setIfInBounds i (sa,na+nb,pw)).eraseIdxIfInBounds (i+1)) st'->(∀j,j<sa\/sb+nb<=j->(arrOf st')[j]? = (arrOf st)[j]?)->Seg rk (arrOf st') sa (sb+nb)->Q true st'):
 wpS (model prog w) A E s (mergeAt' i) Q st:=by
 rw [zu];refine wpS_bind (wpS_get ?_);rw [hB.pend,h1,h2];dsimp only;have sz:(arrOf st).size=a₀.size:=hB.size;have oU:∀p∈(arrOf st).toList,p∈a₀.toList:=fun p hp=>hB.mem hp;have Pb:∀i,i<a₀.size -> ∃p,(arrOf st)[i]? = some p/\p∈a₀.toList/\R rk (arrOf st) i=rk p.1:=fun i hi=>⟨(arrOf st)[i]'(by (clear hz cU na1 hsb h2 h1;lia)),getElem?_pos (arrOf st) i (by (clear hz cU na1 hsb h2 h1;lia)),hB.mem (by simp),gO (by (clear hz cU na1 hsb h2 h1;lia))⟩;refine wpS_bind (Lk ?_);have jY:SB κ a₀ ((pd.setIfInBounds i (sa,na+nb,pw)).eraseIdxIfInBounds (i+1)) (SortSt.mk' (kindOf st) (arrOf st) ((pd.setIfInBounds i (sa,na+nb,pw)).eraseIdxIfInBounds (i+1)) (gallopOf st) (failedOf st)):=⟨hB.perm,hB.kind,hB.failed,rfl⟩;have cH:arrOf (SortSt.mk' (kindOf st) (arrOf st) ((pd.setIfInBounds i (sa,na+nb,pw)).eraseIdxIfInBounds (i+1)) (gallopOf st) (failedOf st))=arrOf st:=rfl;generalize (pd.setIfInBounds i (sa,na+nb,pw)).eraseIdxIfInBounds (i+1)=pd1 at jY cH h ⊢;generalize SortSt.mk' (kindOf st) (arrOf st) pd1 (gallopOf st) (failedOf st)=st1 at jY cH ⊢;obtain ⟨p,ep,mp,rp⟩:=Pb sb (by (clear cH sz na1 hsb h2 h1;lia));refine wpS_bind (bD ep (wpS_bind (gU C jY.kind mp oU (by (clear rp ep cH cU na1 h2 h1;lia)) (by (clear rp ep cH sz hz cU hsb h2 h1;lia)) s1 fun k k1 k2 k3=> ?_)));dsimp only;refine aM (fun e=> ?_) (fun e=> ?_)
 ·have e:na - k=0:=eq_of_beq e
  refine wpS_pure (h st1 jY (fun j _=>by rw [cH]) fun i j a b c=> ?_);rw [cH]
  by_cases hj:j<sb
  ·exact s1 i j a b (by (clear c b a e k1 rp ep cH sz hz cU na1 h2 h1;lia))
  ·by_cases hi:i<sb
   ·have e1:=Ou (k2 (i - sa) (by (clear hj c b a k1 rp ep cH sz hz cU h2 h1;lia)))
    rw [show sa+(i - sa)=i by (clear e1 hi hj c b e k1 rp ep cH sz hz cU na1 hsb h2 h1;lia)] at e1;have e2:=s2 sb j (Nat.le_refl _) (by (clear e1 hi c b a e k1 rp ep cH sz hz cU na1 hsb h2 h1;lia)) c
    (clear hi hj c b a e k1 ep cH sz hz cU na1 hsb h2 h1;lia)
   ·exact s2 i j (by (clear hj c b a e k1 rp ep cH sz hz cU na1 hsb h2 h1;lia)) b c
 have ek:k<na:=by have:¬na - k=0:=fun z=>e (beq_iff_eq.mpr z);(clear e k1 rp ep cH sz hz cU na1 hsb h2 h1;lia)
 obtain ⟨q,eq,mq,rq⟩:=Pb (sa+k+(na - k) - 1) (by (clear ek e rp ep cH sz cU h2 h1;lia));refine wpS_bind (bD eq (wpS_bind (gU C jY.kind mq oU (by (clear rq eq ek e k1 rp ep cH cU na1 hsb h2 h1;lia)) (by (clear rq eq ek e k1 rp ep cH sz hz na1 hsb h2 h1;lia)) s2 fun n2 l1 l2 l3=> ?_)));dsimp only;have aN:sa+k+(na - k) - 1=sb - 1:=by (clear l1 rq eq ek e rp ep cH sz hz cU na1 h2 h1;lia)
 rw [aN] at rq;refine aM (fun e=> ?_) (fun e=> ?_)
 ·have e:n2=0:=eq_of_beq e
  refine wpS_pure (h st1 jY (fun j _=>by rw [cH]) fun i j a b c=> ?_);rw [cH]
  by_cases hj:j<sb
  ·exact s1 i j a b (by (clear c b a e aN l1 rq eq ek k1 rp ep cH sz hz cU na1 h2 h1;lia))
  ·by_cases hi:i<sb
   ·have e1:=Ar (l3 (j - sb) (by (clear hi hj c b a aN l1 rq eq ek k1 rp ep cH sz hz cU na1 hsb h2 h1;lia)) (by (clear hi hj b a e aN l1 rq eq ek k1 rp ep cH sz hz na1 hsb h2 h1;lia)))
    rw [show sb+(j - sb)=j by (clear e1 hi c b a e aN l1 rq eq ek k1 rp ep cH sz hz cU na1 hsb h2 h1;lia)] at e1;have e2:=s1 i (sb - 1) a (by (clear e1 hj c b a e aN l1 rq eq ek k1 rp ep cH sz hz cU na1 hsb h2 h1;lia)) (by (clear e1 hi hj c b a e aN l1 rq eq ek k1 rp ep cH sz hz cU h2 h1;lia))
    (clear hi hj c b a e aN l1 eq ek k1 rp ep cH sz hz cU na1 hsb h2 h1;lia)
   ·exact s2 i j (by (clear hj c b a e aN l1 rq eq ek k1 rp ep cH sz hz cU na1 hsb h2 h1;lia)) b c
 have e2:¬n2=0:=fun z=>e (beq_iff_eq.mpr z);have eF:((arrOf st).extract (sa+k) sb).size=sb - (sa+k):=by rw [Array.size_extract,Nat.min_eq_left (by (clear e2 e aN l1 rq eq ek k1 rp ep cH cU na1 hsb h2 h1;lia))]
 have eG:((arrOf st).extract sb (sb+n2)).size=n2:=by rw [Array.size_extract,Nat.min_eq_left (by (clear eF e2 e aN rq eq ek k1 rp ep cH cU na1 hsb h2 h1;lia))];(clear eF e2 e aN l1 rq eq ek k1 rp ep cH sz hz cU na1 hsb h2 h1;lia)
 have xin:∀p∈((arrOf st).extract (sa+k) sb).toList,p∈a₀.toList:=fun p hp=>oU p (by rw [cB] at hp;exact List.mem_of_mem_drop (List.mem_of_mem_take hp));have yin:∀p∈((arrOf st).extract sb (sb+n2)).toList,p∈a₀.toList:=fun p hp=>oU p (by rw [cB] at hp;exact List.mem_of_mem_drop (List.mem_of_mem_take hp))
 have sx:Seg rk ((arrOf st).extract (sa+k) sb) 0 ((arrOf st).extract (sa+k) sb).size:=fun i j a b c=>by
  rw [eF] at c;rw [qF (by (clear a eG eF e2 e aN l1 rq eq ek k1 rp ep cH sz hz cU na1 hsb h2 h1;lia)) (by (clear c b a eG eF e2 e aN l1 rq eq ek k1 rp ep cH cU na1 hsb h2 h1;lia)),qF (by (clear b a eG eF e2 e aN l1 rq eq ek k1 rp ep cH sz hz cU na1 hsb h2 h1;lia)) (by (clear c b a eG eF e2 e aN l1 rq eq ek k1 rp ep cH cU na1 hsb h2 h1;lia))];exact s1 _ _ (by (clear c b a eG eF e2 e aN l1 rq eq ek k1 rp ep cH sz hz cU na1 hsb h2 h1;lia)) (by (clear c a eG eF e2 e aN l1 rq eq ek k1 rp ep cH sz hz cU na1 hsb h2 h1;lia)) (by (clear b a eG eF e2 e aN l1 rq eq ek k1 rp ep cH sz hz cU na1 h2 h1;lia))
 have sy:Seg rk ((arrOf st).extract sb (sb+n2)) 0 ((arrOf st).extract sb (sb+n2)).size:=fun i j a b c=>by
  rw [eG] at c;rw [qF (by (clear a eG eF e2 e aN l1 rq eq ek k1 rp ep cH sz hz cU na1 hsb h2 h1;lia)) (by (clear c b a eG eF e2 e aN rq eq ek k1 rp ep cH cU na1 hsb h2 h1;lia)),qF (by (clear b a eG eF e2 e aN l1 rq eq ek k1 rp ep cH sz hz cU na1 hsb h2 h1;lia)) (by (clear c b a eG eF e2 e aN rq eq ek k1 rp ep cH cU na1 hsb h2 h1;lia))];exact s2 _ _ (by (clear c b a eG eF e2 e aN l1 rq eq ek k1 rp ep cH sz hz cU na1 hsb h2 h1;lia)) (by (clear c a eG eF e2 e aN l1 rq eq ek k1 rp ep cH sz hz cU na1 hsb h2 h1;lia)) (by (clear b a eG eF e2 e aN rq eq ek k1 rp ep cH sz hz cU na1 hsb h2 h1;lia))
 have h0:R rk ((arrOf st).extract sb (sb+n2)) 0<=R rk ((arrOf st).extract (sa+k) sb) 0:=by
  rw [qF (by (clear eG eF e aN l1 rq eq ek k1 rp ep cH sz hz cU na1 hsb h2 h1;lia)) (by (clear eG eF e2 e aN rq eq ek k1 rp ep cH cU na1 hsb h2 h1;lia)),qF (by (clear eG eF e2 e aN l1 rq eq k1 rp ep cH sz hz cU na1 h2 h1;lia)) (by (clear eG eF e2 e aN l1 rq eq ek k1 rp ep cH cU na1 hsb h2 h1;lia)),Nat.add_zero,Nat.add_zero,rp];have:=K_ (k3 k (Nat.le_refl _) ek)
  (clear eG eF e2 e aN l1 rq eq ek k1 rp ep cH sz hz cU na1 hsb h2 h1;lia)
 have hl:R rk ((arrOf st).extract sb (sb+n2)) (((arrOf st).extract sb (sb+n2)).size - 1)<=R rk ((arrOf st).extract (sa+k) sb) (((arrOf st).extract (sa+k) sb).size - 1):=by
  rw [eF,eG,qF (by (clear h0 eG eF e aN l1 rq eq ek k1 rp ep cH sz hz cU na1 hsb h2 h1;lia)) (by (clear h0 eG eF e2 e aN rq eq ek k1 rp ep cH cU na1 hsb h2 h1;lia)),qF (by (clear h0 eG eF e2 e aN l1 rq eq k1 rp ep cH sz hz cU na1 h2 h1;lia)) (by (clear h0 eG eF e2 e aN l1 rq eq ek k1 rp ep cH cU na1 hsb h2 h1;lia)),show sa+k+(sb - (sa+k) - 1)=sb - 1 by (clear h0 eG eF e2 e aN l1 rq eq k1 rp ep cH sz hz cU na1 h2 h1;lia),rq];have:=RX (l2 (n2 - 1) (by (clear h0 eG eF e aN l1 rq eq ek k1 rp ep cH sz hz cU na1 hsb h2 h1;lia)))
  (clear h0 eG eF e2 e aN l1 rq eq ek k1 rp ep cH sz hz cU na1 hsb h2 h1;lia)
 have fin:∀r st2,yc st1 st2->Mg rk ((arrOf st).extract (sa+k) sb) ((arrOf st).extract sb (sb+n2)) r->wpS (model prog w) A E s (do
  modify fun s=>setArr s (List.foldl (fun a x=>a.setIfInBounds (sa+k+x.snd) x.fst) (arrOf s) r.toList.zipIdx)
  let __do_lift ←get
  pure (failedOf __do_lift).isNone) Q st2:=by
  intro r st2 k2' mg;have jN:arrOf st2=arrOf st:=k2'.a.trans cH;refine wpS_bind (wpS_modify ?_);refine wpS_bind (wpS_get ?_);have hf:failedOf (setArr st2 (List.foldl (fun a x=>a.setIfInBounds (sa+k+x.snd) x.fst) (arrOf st2) r.toList.zipIdx))=none:=k2'.f.trans jY.failed;rw [hf]
  have rl:r.toList.length=sb - (sa+k)+n2:=by
   rw [mg.perm.length_eq,List.length_append,Array.length_toList,Array.length_toList,eF,eG]
  have rp':r.toList.Perm (((arrOf st).toList.drop (sa+k)).take (sb - (sa+k)+n2)):=by
   refine mg.perm.trans (List.Perm.of_eq ?_);rw [cB,cB,List.take_add,List.drop_drop,show sb+n2 - sb=n2 by (clear rl hf jN hl h0 eG eF e2 e aN l1 rq eq ek k1 rp ep cH sz hz cU na1 hsb h2 h1;lia),show sa+k+(sb - (sa+k))=sb by (clear rl hf jN hl h0 eG eF e2 e aN l1 rq eq ek rp ep cH sz hz cU na1 h2 h1;lia)]
  have get:∀j,(arrOf (setArr st2 (List.foldl (fun a x=>a.setIfInBounds (sa+k+x.snd) x.fst) (arrOf st2) r.toList.zipIdx)))[j]? = if sa+k<=j/\j<sb+n2 then r.toList[j - (sa+k)]? else (arrOf st)[j]? :=fun j=>by
   show (List.foldl (fun a x=>a.setIfInBounds (sa+k+x.snd) x.fst) (arrOf st2) r.toList.zipIdx)[j]? = _;rw [jN,DQ (sa+k) r.toList 0 (arrOf st) j (by (clear hf jN hl h0 eG eF e2 e aN rq eq ek rp ep cH cU na1 h2 h1;lia)),rl]
   by_cases c:sa+k<=j/\j<sb+n2
   ·rw [if_pos c,if_pos (by (clear rl hf jN hl h0 eG eF e2 e aN l1 rq eq ek k1 rp ep cH sz hz cU na1 hsb h2 h1;lia))];rfl
   ·rw [if_neg c,if_neg (by (clear rl hf jN hl h0 eG eF e2 e aN l1 rq eq ek rp ep cH sz hz cU na1 h2 h1;lia))]
  have hB2:SB κ a₀ pd1 (setArr st2 (List.foldl (fun a x=>a.setIfInBounds (sa+k+x.snd) x.fst) (arrOf st2) r.toList.zipIdx)):=by
   refine ⟨?_,k2'.k.trans jY.kind,hf,k2'.p.trans jY.pend⟩;show (List.foldl (fun a x=>a.setIfInBounds (sa+k+x.snd) x.fst) (arrOf st2) r.toList.zipIdx).Perm a₀;rw [jN];exact (Jf rl (by (clear rl hf jN hl h0 eG eF e2 e aN rq eq ek rp ep cH cU na1 h2 h1;lia)) rp').trans hB.perm
  generalize setArr st2 (List.foldl (fun a x=>a.setIfInBounds (sa+k+x.snd) x.fst) (arrOf st2) r.toList.zipIdx)=st3 at get hB2 ⊢;have out:∀j,¬(sa+k<=j/\j<sb+n2)->R rk (arrOf st3) j=R rk (arrOf st) j:=fun j hj=>fD (by rw [get j,if_neg hj])
  have mid:∀j,sa+k<=j->j<sb+n2 -> ∃j0,sa+k<=j0/\j0<sb+n2/\R rk (arrOf st3) j=R rk (arrOf st) j0:=fun j j1 j2=>by
   have e:=get j;rw [if_pos ⟨j1,j2⟩,List.getElem?_eq_getElem (by (clear e j1 hf jN hl h0 eG eF e2 aN l1 rq eq k1 rp ep cH sz hz cU na1 h2 h1;lia))] at e;have hm:r.toList[j - (sa+k)]'(by (clear e j1 hf jN hl h0 eG eF e2 aN l1 rq eq k1 rp ep cH sz hz cU na1 h2 h1;lia))∈((arrOf st).toList.drop (sa+k)).take (sb - (sa+k)+n2):=rp'.mem_iff.mp (List.getElem_mem _);obtain ⟨j0,a1,a2,a3⟩:=iD (rk:=rk) hm;exact ⟨sa+k+j0,by (clear a3 a2 a1 e j1 hf jN hl h0 eG eF e2 aN l1 rq eq k1 rp ep cH sz hz cU na1 h2 h1;lia),by (clear a3 a2 e j1 hf jN hl h0 eG eF e2 aN l1 rq eq k1 rp ep cH sz hz cU na1 h2 h1;lia),by rw [uI e,a3]⟩
  refine wpS_pure (h st3 hB2 (fun j hj=>by rw [get j,if_neg (by (clear rl hf jN hl h0 eG eF e2 e aN rq eq ek k1 rp ep cH sz hz cU na1 hsb h2 h1;lia))]) fun i j a b c=> ?_)
  by_cases i1:i<sa+k
  ·have ei:=Ou (k2 (i - sa) (by (clear c b rl hf jN hl h0 eG eF e2 e aN l1 rq eq ek k1 rp ep cH sz hz cU na1 hsb h2 h1;lia)))
   rw [show sa+(i - sa)=i by (clear ei i1 c b rl hf jN hl h0 eG eF e2 e aN l1 rq eq ek k1 rp ep cH sz hz cU na1 hsb h2 h1;lia),←rp] at ei;rw [out i (by (clear ei c b a rl hf jN hl h0 eG eF e2 e aN l1 rq eq ek k1 rp ep cH sz hz cU na1 hsb h2 h1;lia))]
   have key:∀j0,sa+k<=j0->j0<sb+nb->R rk (arrOf st) i<=R rk (arrOf st) j0:=fun j0 b1 b2=>by
    by_cases c:j0<sb
    ·exact s1 i j0 a (by (clear c b2 ei b a rl hf jN hl h0 eG eF e2 e aN l1 rq eq ek k1 rp ep cH sz hz cU na1 hsb h2 h1;lia)) (by (clear b2 b1 ei i1 b a rl hf jN hl h0 eG eF e2 e aN l1 rq eq ek k1 rp ep cH sz hz cU na1 h2 h1;lia))
    ·have:=s2 sb j0 (Nat.le_refl _) (by (clear b2 b1 ei i1 b a rl hf jN hl h0 eG eF e2 e aN l1 rq eq ek k1 rp ep cH sz hz cU na1 hsb h2 h1;lia)) b2;(clear c b2 b1 i1 b a rl hf jN hl h0 eG eF e2 e aN l1 rq eq ek k1 rp ep cH sz hz cU na1 hsb h2 h1;lia)
   by_cases j1:sa+k<=j/\j<sb+n2
   ·obtain ⟨j0,b1,b2,b3⟩:=mid j j1.1 j1.2
    rw [b3];exact key j0 b1 (by (clear b3 b1 j1 ei i1 c b a rl hf jN hl h0 eG eF e2 e aN rq eq ek k1 rp ep cH sz hz cU na1 hsb h2 h1;lia))
   ·rw [out j j1]
    by_cases j2:j<sa+k
    ·exact s1 i j a b (by (clear j1 ei i1 c b a rl hf jN hl h0 eG eF e2 e aN l1 rq eq ek rp ep cH sz hz cU na1 hsb h2 h1;lia))
    ·exact key j (by (clear j1 ei i1 c b a rl hf jN hl h0 eG eF e2 e aN l1 rq eq ek k1 rp ep cH sz hz cU na1 hsb h2 h1;lia)) c
  ·by_cases i2:i<sb+n2
   ·by_cases j2:j<sb+n2
    ·have e1:=get i
     have e2:=get j;rw [if_pos ⟨by (clear e2 e1 j2 i2 c b a rl hf jN hl h0 eG eF e aN l1 rq eq ek k1 rp ep cH sz hz cU na1 hsb h2 h1;lia),i2⟩,List.getElem?_eq_getElem (by (clear e2 e1 j2 i1 c b a hf jN hl h0 eG eF e aN l1 rq eq ek k1 rp ep cH sz hz cU na1 hsb h2 h1;lia))] at e1;rw [if_pos ⟨by (clear e2 e1 j2 i2 c a rl hf jN hl h0 eG eF e aN l1 rq eq ek k1 rp ep cH sz hz cU na1 hsb h2 h1;lia),j2⟩,List.getElem?_eq_getElem (by (clear e2 e1 i2 i1 c b a hf jN hl h0 eG eF e aN l1 rq eq ek k1 rp ep cH sz hz cU na1 hsb h2 h1;lia))] at e2;rw [uI e1,uI e2]
     by_cases eij:i=j
     ·subst eij;exact Nat.le_refl _
     ·exact List.pairwise_iff_getElem.mp mg.srt _ _ _ _ (by (clear e2 e1 j2 i2 c a rl hf jN hl h0 eG eF e aN l1 rq eq ek k1 rp ep cH sz hz cU na1 hsb h2 h1;lia))
    ·obtain ⟨i0,b1,b2,b3⟩:=mid i (by (clear j2 i2 c b a rl hf jN hl h0 eG eF e2 e aN l1 rq eq ek k1 rp ep cH sz hz cU na1 hsb h2 h1;lia)) i2
     rw [b3,out j (by (clear b3 b2 b1 i2 i1 c b a rl hf jN hl h0 eG eF e2 e aN l1 rq eq ek k1 rp ep cH sz hz cU na1 hsb h2 h1;lia))]
     by_cases c':i0<sb
     ·have e1:=s1 i0 (sb - 1) (by (clear c' b3 b2 j2 i2 i1 c b a rl hf jN hl h0 eG eF e2 e aN l1 rq eq ek k1 rp ep cH sz hz cU na1 hsb h2 h1;lia)) (by (clear b3 b2 b1 j2 i2 i1 c b a rl hf jN hl h0 eG eF e2 e aN l1 rq eq ek k1 rp ep cH sz hz cU na1 hsb h2 h1;lia)) (by (clear c' b3 b2 b1 j2 i2 i1 c b a rl hf jN hl h0 eG eF e2 e aN l1 rq eq ek k1 rp ep cH sz hz cU h2 h1;lia))
      have e2:=Ar (l3 (j - sb) (by (clear e1 c' b3 b2 b1 i2 i1 c b a rl hf jN hl h0 eG eF e2 e aN l1 rq eq ek k1 rp ep cH sz hz cU na1 hsb h2 h1;lia)) (by (clear e1 c' b3 b2 b1 j2 i2 i1 b a rl hf jN hl h0 eG eF e2 e aN l1 rq eq ek k1 rp ep cH sz hz na1 hsb h2 h1;lia)));rw [show sb+(j - sb)=j by (clear e2 e1 c' b3 b2 b1 i2 i1 c b a rl hf jN hl h0 eG eF e aN l1 rq eq ek k1 rp ep cH sz hz cU na1 hsb h2 h1;lia),←rq] at e2
      (clear c' b3 b2 b1 j2 i2 i1 c b a rl hf jN hl h0 eG eF e aN l1 rq eq ek k1 rp ep cH sz hz cU na1 hsb h2 h1;lia)
     ·exact s2 i0 j (by (clear b3 b2 b1 j2 i2 i1 c b a rl hf jN hl h0 eG eF e2 e aN l1 rq eq ek k1 rp ep cH sz hz cU na1 hsb h2 h1;lia)) (by (clear c' b3 b1 i2 i1 c b a rl hf jN hl h0 eG eF e2 e aN l1 rq eq ek k1 rp ep cH sz hz cU na1 hsb h2 h1;lia)) c
   ·rw [out i (by (clear i1 c b a rl hf jN hl h0 eG eF e2 e aN l1 rq eq ek k1 rp ep cH sz hz cU na1 hsb h2 h1;lia)),out j (by (clear i1 c a rl hf jN hl h0 eG eF e2 e aN l1 rq eq ek k1 rp ep cH sz hz cU na1 hsb h2 h1;lia))]
    exact s2 i j (by (clear i1 c b a rl hf jN hl h0 eG eF e2 e aN l1 rq eq ek k1 rp ep cH sz hz cU na1 hsb h2 h1;lia)) b c
 refine aM (fun _=> ?_) (fun _=> ?_)
 ·exact wpS_bind (yg C jY.kind xin yin (by (clear hl h0 eG e2 e aN l1 rq eq k1 rp ep cH sz hz cU na1 h2 h1;lia)) (by (clear hl h0 eF e2 e aN l1 rq eq k1 rp ep cH sz hz cU na1 hsb h2 h1;lia)) sx sy h0 hl fin)
 ·exact wpS_bind (yh C jY.kind xin yin (by (clear hl h0 eG e2 e aN l1 rq eq ek k1 rp ep cH sz hz cU na1 h2 h1;lia)) (by (clear hl h0 eF e aN l1 rq eq ek k1 rp ep cH sz hz cU na1 hsb h2 h1;lia)) sx sy h0 hl fin)
end
end Tim
set_option Elab.async false
set_option linter.all false
set_option maxRecDepth 100000
set_option maxHeartbeats 4000000
namespace Tim
open PySem PyProof.Rows
section
variable {prog:Program} {w:World} {A:Around} {E:Value->Shared->Prop} {s:Shared} {κ:SortKind} {a₀:Array Keyed} {rk:Value->Nat} {pd:Array (Nat×Nat×Nat)}
def Runs (rk:Value->Nat) (xs:Array Keyed):List (Nat×Nat×Nat)->Nat->Nat->Prop
 | [],a,e=>a=e
 | (s,n,_)::r,a,e=>s=a/\1<=n/\Seg rk xs a (a+n)/\Runs rk xs r (a+n) e
theorem Runs.le {xs:Array Keyed}:∀{l:List (Nat×Nat×Nat)} {a e:Nat},Runs rk xs l a e->a+l.length<=e
 | [],a,e,h=>Nat.le_of_eq h
 | (s,n,_)::r,a,e,h=>by
   have:=Runs.le h.2.2.2;have:=h.2.1;rw [List.length_cons];lia
theorem Runs.app {xs:Array Keyed} {r:List (Nat×Nat×Nat)}:∀{l:List (Nat×Nat×Nat)} {a e:Nat},Runs rk xs (l++r) a e ↔ ∃m,Runs rk xs l a m/\Runs rk xs r m e
 | [],a,e=>⟨fun h=>⟨a,rfl,h⟩,fun ⟨m,h1,h2⟩=>by
     have h1:a=m:=h1;subst h1;exact h2⟩
 | (s,n,_)::l,a,e=>by
   constructor
   ·rintro ⟨h1,h2,h3,h4⟩
    obtain ⟨m,m1,m2⟩:=Runs.app.mp h4;exact ⟨m,⟨h1,h2,h3,m1⟩,m2⟩
   ·rintro ⟨m,⟨h1,h2,h3,h4⟩,m2⟩
    exact ⟨h1,h2,h3,Runs.app.mpr ⟨m,h4,m2⟩⟩
theorem Runs.congr {xs ys:Array Keyed}:∀{l:List (Nat×Nat×Nat)} {a e:Nat},Runs rk xs l a e->(∀j,a<=j->j<e->R rk xs j=R rk ys j)->Runs rk ys l a e
 | [],a,e,h,_=>h
 | (s,n,_)::r,a,e,⟨h1,h2,h3,h4⟩,g=>by
   have le:=Runs.le h4;refine ⟨h1,h2,fun i j x y z=> ?_,Runs.congr h4 fun j x y=>g j (by (clear y le h2 h1;lia)) y⟩;rw [←g i x (by (clear x h2 h1;lia)),←g j (by (clear z le h2 h1;lia)) (by (clear y x h2 h1;lia))];exact h3 i j x y z
theorem Qd {α:Type} {l:List α} {i:Nat} (h:i+1<l.length):∃pre p q post,l=pre++p::q::post/\pre.length=i:=by
 refine ⟨l.take i,l[i],l[i+1],l.drop (i+2), ?_,by rw [List.length_take];lia⟩;rw [←List.drop_eq_getElem_cons,←List.drop_eq_getElem_cons,List.take_append_drop]
theorem nA {st:SortSt} {i e:Nat} {Q:Bool->SortSt->Prop} (C:Dp prog w A s κ a₀ rk) (hB:SB κ a₀ pd st) (hr:Runs rk (arrOf st) pd.toList 0 e) (he:e<=a₀.size) (hi:i+1<pd.size)
 (h:∀Z8 st',SB κ a₀ Z8 st'->Runs rk (arrOf st') Z8.toList 0 e->Z8.size+1=pd.size->(∀j,e<=j->(arrOf st')[j]? = (arrOf st)[j]?)->Q true st'):wpS (model prog w) A E s (mergeAt' i) Q st:=by
 obtain ⟨pre,⟨sa,na,pw⟩,⟨sb,nb,Zv⟩,post,el,pl⟩:=Qd (l:=pd.toList) (i:=i) (by rw [Array.length_toList];exact hi);rw [el] at hr;obtain ⟨m,r1,r2⟩:=Runs.app.mp hr;obtain ⟨e1,n1,s1,e2,n2,s2,r3⟩:=r2;subst e1;have fW:=Runs.le r3;have h1:pd[i]? = some (sa,na,pw):=by rw [←Array.getElem?_toList,el,List.getElem?_append_right (by (clear fW e2 n2 n1 el hi he;lia)),pl,Nat.sub_self];rfl
 have h2:pd[i+1]? = some (sb,nb,Zv):=by rw [←Array.getElem?_toList,el,List.getElem?_append_right (by (clear h1 fW e2 n2 n1 el hi he;lia)),pl,show i+1 - i=1 by (clear h1 fW e2 n2 n1 pl el hi he;lia)];rfl
 refine yj C hB h1 h2 e2 n1 n2 (by (clear h2 h1 n2 n1 pl el hi;lia)) s1 (by rw [e2];exact s2) fun st' hB' out seg=> ?_
 have ep:((pd.setIfInBounds i (sa,na+nb,pw)).eraseIdxIfInBounds (i+1)).toList=pre++(sa,na+nb,pw)::post:=by
  rw [Array.toList_eraseIdxIfInBounds,Array.toList_setIfInBounds,el,List.set_append_right _ _ (by (clear h2 h1 fW e2 n2 n1 el hi he;lia)),pl,Nat.sub_self];rw [List.eraseIdx_append_of_length_le (by (clear h2 h1 fW e2 n2 n1 el hi he;lia)),pl,show i+1 - i=1 by (clear h2 h1 fW e2 n2 n1 pl el hi he;lia)];rfl
 refine h _ st' hB' ?_ ?_ fun j hj=>out j (.inr (by (clear ep h2 h1 n2 n1 pl el hi he;lia)))
 ·rw [ep]
  refine Runs.app.mpr ⟨sa,r1.congr fun j _ j2=>fD (out j (.inl j2)).symm,rfl,by (clear ep h2 h1 fW e2 n2 pl el hi he;lia), ?_, ?_⟩
  ·rw [show sa+(na+nb)=sb+nb by (clear ep h2 h1 fW n2 n1 pl el hi he;lia)];exact seg
  ·rw [←Nat.add_assoc]
   exact r3.congr fun j j1 j2=>fD (out j (.inr (by (clear j2 ep h2 h1 fW n2 n1 pl el hi he;lia)))).symm
 ·rw [←Array.length_toList,ep,←Array.length_toList,el]
  simp only [List.length_append,List.length_cons]
  (clear ep h2 h1 fW e2 n2 n1 pl el hi he;lia)
theorem Runs.modify {xs:Array Keyed} {f:Nat×Nat×Nat->Nat×Nat×Nat} (hf:∀x,(f x).1=x.1/\(f x).2.1=x.2.1) (l:List (Nat×Nat×Nat)):∀(i a e:Nat),Runs rk xs l a e->Runs rk xs (l.modify i f) a e:=by
 induction l with
 | nil=>intro i a e h;cases i<;>exact h
 | cons t r ih=>
   obtain ⟨s,n,p⟩:=t;intro i a e h;obtain ⟨h1,h2,h3,h4⟩:=h;cases i with
   | zero=>
     rw [List.modify_zero_cons];have e2:=hf (s,n,p);rcases hfp:f (s,n,p) with ⟨s',n',p'⟩
     rw [hfp] at e2;obtain ⟨q1,q2⟩:=e2;have q1:s'=s:=q1;have q2:n'=n:=q2;rw [q1,q2];exact ⟨h1,h2,h3,h4⟩
   | succ i=>
     rw [List.modify_succ_cons];exact ⟨h1,h2,h3,ih i _ _ h4⟩
theorem wpS_sortRuns {st:SortSt} {Q:Unit->SortSt->Prop} (C:Dp prog w A s κ a₀ rk) (hB:SB κ a₀ #[] st) (h2:2<=a₀.size)
 (h:∀st',(arrOf st').Perm a₀->failedOf st'=none->Seg rk (arrOf st') 0 a₀.size->Q () st'):wpS (model prog w) A E s sortRuns' Q st:=by
 rw [sortRuns'_eq];refine wpS_bind (wpS_get ?_);dsimp only;simp only [hB.size];generalize minRun' a₀.size a₀.size 0=mr
 refine wpS_bind (wpS_mono (wpS_forRange (I:=fun x c st'=>∃lo pd,c=(none,lo)/\x<=lo/\lo<=a₀.size/\SB κ a₀ pd st'/\Runs rk (arrOf st') pd.toList 0 lo)
  (Q:=fun c st'=>∃pd,c=(none,a₀.size)/\SB κ a₀ pd st'/\Runs rk (arrOf st') pd.toList 0 a₀.size) ?step ?fin ⟨0, #[],rfl,by (clear h2;lia),by (clear h2;lia),hB,rfl⟩) ?post)
 case fin=>
  rintro c st' ⟨lo,pd,rfl,x1,x2,hB',hr⟩;have:lo=a₀.size:=by (clear h2;lia)
  subst this;exact ⟨pd,rfl,hB',hr⟩
 case step=>
  rintro x c st' _ hx ⟨lo,pd,rfl,x1,x2,hB',hr⟩;dsimp only;refine aM (fun ge=> ?_) (fun ge=> ?_)
  ·have:lo=a₀.size:=by (clear x1 hx h2;lia)
   subst this;exact wpS_pure ⟨pd,rfl,hB',hr⟩
  refine wpS_bind (wpS_countRun C (by (clear ge x1 hx h2;lia)) (by (clear x2 x1 hx h2;lia)) hB' fun m st2 hB2 kb2 m1 m2 hs2=> ?_);dsimp only;have hr2:=hr.congr (ys:=arrOf st2) fun j _ j2=>fD (kb2 j j2).symm;apply aM
  case' h1=>
   intro lt;refine wpS_bind (wpS_lift (wpAny_rule ⟨rfl, ?_⟩));refine wpS_bind (wpS_binarySort C (by (clear lt m2 m1 ge x1 hx h2;lia)) (by (clear m1 ge x2 x1 hx h2;lia)) hB2 hs2 fun st3 hB3 kb3 hs3=> ?_);simp only [Bool.not_true,Bool.false_eq_true,if_false];have Ri:=hr2.congr (ys:=arrOf st3) fun j _ j2=>fD (kb3 j j2).symm;have n1:1<=min (a₀.size - lo) mr:=by (clear m2 m1 x2 x1 hx h2;lia)
   have n2:min (a₀.size - lo) mr<=a₀.size - lo:=by (clear n1 lt m2 m1 ge x2 x1 hx h2;lia)
   generalize min (a₀.size - lo) mr=n at hs3 n1 n2 ⊢
  case' h2=>
   intro lt;have Ri:=hr2;have hB3:=hB2;have hs3:=hs2;have n1:=m1;have n2:=m2;revert Ri hB3 hs3;generalize st2=st3;revert n1 n2;generalize m=n;intro n1 n2 Ri hB3 hs3
  all_goals
   refine wpS_bind (wpS_get ?_)
   have done:∀lC lN,SB κ a₀ lC lN->Runs rk (arrOf lN) lC.toList 0 lo->Seg rk (arrOf lN) lo (lo+n)->wpS (model prog w) A E s (do
    modify fun s=>setPending s ((pendingOf s).push (lo,n,0))
    pure (ForInStep.yield ((none:Option Unit),lo+n))) (fun r st'=>match r with
     | ForInStep.done c'=>∃pd,c'=(none,a₀.size)/\SB κ a₀ pd st'/\Runs rk (arrOf st') pd.toList 0 a₀.size
     | ForInStep.yield c'=>∃lo pd,c'=(none,lo)/\x+1<=lo/\lo<=a₀.size/\SB κ a₀ pd st'/\Runs rk (arrOf st') pd.toList 0 lo) lN:=by
    intro lC lN pY uZ Rc;refine wpS_bind (wpS_modify (wpS_pure ⟨lo+n,lC.push (lo,n,0),rfl,by (clear n2 lt m2 m1 ge x2 hx h2;lia),by (clear n1 lt m2 m1 ge x1 hx h2;lia),⟨pY.perm,pY.kind,pY.failed,by show (pendingOf lN).push _=_;rw [pY.pend]⟩, ?_⟩));rw [Array.toList_push];exact Runs.app.mpr ⟨lo,uZ,rfl,n1,Rc,rfl⟩
   cases hb:(pendingOf st3).back? with
   | none=>exact done _ _ hB3 Ri hs3
   | some t=>
     obtain ⟨s1,n1',pw⟩:=t;dsimp only;generalize power' a₀.size (2*s1+n1') (2*s1+n1'+n1'+n) a₀.size=pwr
     refine wpS_bind (wpS_mono (wpS_forRange (I:=fun y c lN=>∃lC,c=(none,())/\SB κ a₀ lC lN/\Runs rk (arrOf lN) lC.toList 0 lo/\Seg rk (arrOf lN) lo (lo+n))
      (Q:=fun c lN=>∃lC,c=(none,())/\SB κ a₀ lC lN/\Runs rk (arrOf lN) lC.toList 0 lo/\Seg rk (arrOf lN) lo (lo+n)) ?_ (fun _ _ z=>z) ⟨_,rfl,hB3,Ri,hs3⟩) ?_)
     ·rintro y c lN _ hy ⟨lC,rfl,pY,uZ,Rc⟩
      refine wpS_bind (wpS_get ?_);rw [pY.pend];cases hg:(if lC.size>1 then lC[lC.size - 2]? else none) with
      | none=>exact wpS_pure ⟨lC,rfl,pY,uZ,Rc⟩
      | some t=>
        obtain ⟨f1,f2,older⟩:=t;dsimp only
        have gt:lC.size>1:=by
         by_cases g:lC.size>1
         ·exact g
         ·rw [if_neg g] at hg;cases hg
        refine aM (fun _=> ?_) (fun _=> ?_)
        ·exact wpS_pure ⟨lC,rfl,pY,uZ,Rc⟩
        ·refine wpS_bind (nA C pY uZ x2 (by (clear hg hy hb n2 n1 lt m2 m1 ge x2 x1 hx h2;lia)) fun Z7 uN hB5 Uu _ TQ=> ?_)
         simp only [Bool.not_true,Bool.false_eq_true,if_false];refine wpS_pure ⟨Z7,rfl,hB5,Uu,fun i j a b c=> ?_⟩;rw [fD (TQ i a),fD (TQ j (by (clear c gt hg hy hb n2 n1 lt m2 m1 ge x2 x1 hx h2;lia)))];exact Rc i j a b c
     ·rintro c lN ⟨lC,rfl,pY,uZ,Rc⟩
      dsimp only;refine wpS_bind (wpS_modify ?_);refine done _ _ ⟨pY.perm,pY.kind,pY.failed,rfl⟩ ?_ Rc;rw [←pY.pend] at uZ;rw [Array.toList_modify];refine Runs.modify (fun x=> ?_) _ _ _ _ uZ;exact ⟨rfl,rfl⟩
 case post=>
  rintro c st' ⟨pd,rfl,hB',hr⟩;dsimp only;have le:=Runs.le hr;rw [Array.length_toList] at le
  refine wpS_bind (wpS_mono (wpS_forRange (I:=fun y c lN=>∃lC,c=(none,())/\SB κ a₀ lC lN/\Runs rk (arrOf lN) lC.toList 0 a₀.size/\lC.size<=max 1 (a₀.size - y))
   (Q:=fun c lN=>∃lC,c=(none,())/\SB κ a₀ lC lN/\Runs rk (arrOf lN) lC.toList 0 a₀.size/\lC.size<=1) ?_ ?_ ⟨pd,rfl,hB',hr,by (clear h2;lia)⟩) ?_)
  ·rintro y c lN _ hy ⟨lC,rfl,pY,uZ,Uc⟩
   refine wpS_bind (wpS_get ?_);rw [pY.pend];refine aM (fun l1=> ?_) (fun l1=> ?_)
   ·exact wpS_pure ⟨lC,rfl,pY,uZ,l1⟩
   ·have hix:∀(c:Prop) [Decidable c],(if c then lC.size - 2 - 1 else lC.size - 2)+1<lC.size:=by
     intro c _;split<;>(clear Uc hy le h2;lia)
    refine wpS_bind (nA C pY uZ (Nat.le_refl _) (hix _) fun Z7 uN hB5 Uu z5 _=> ?_);simp only [Bool.not_true,Bool.false_eq_true,if_false];exact wpS_pure ⟨Z7,rfl,hB5,Uu,by (clear l1 hy le h2;lia)⟩
  ·rintro c lN ⟨lC,rfl,pY,uZ,Uc⟩
   exact ⟨lC,rfl,pY,uZ,by (clear le h2;lia)⟩
  ·rintro c lN ⟨lC,rfl,pY,uZ,Uc⟩
   refine wpS_pure (h lN pY.perm pY.failed ?_);have ll:lC.toList.length<=1:=by rw [Array.length_toList];exact Uc
   match hl:lC.toList,ll,uZ with
   | [],_,uZ=>have:0=a₀.size:=uZ;(clear hl ll Uc le;lia)
   | [(s,n,p)],_,uZ=>
     obtain ⟨_,_,hs,e⟩:=uZ;have e:0+n=a₀.size:=e;rw [e] at hs;exact hs
end
end Tim
set_option Elab.async false
set_option linter.all false
set_option maxRecDepth 100000
set_option maxHeartbeats 4000000
namespace Tim
open PySem PyProof.Rows
section
variable {prog:Program} {w:World} {A:Around} {E:Value->Shared->Prop} {s:Shared} {κ:SortKind} {rk:Value->Nat}
theorem Qw {vs:List Value} {xs:Array Keyed} (hp:xs.Perm (pairsOf vs)) (hs:Seg rk xs 0 (pairsOf vs).size):(xs.map (·.2)).toList.Perm vs/\(xs.map (·.2)).toList.Pairwise (fun x y=>rk x<=rk y):=by
 have hl:xs.toList.Perm (vs.zip vs):=by rw [←pairsOf_toList];exact Array.perm_iff_toList_perm.mp hp
 have hmem:∀p,p∈xs.toList->p.1=p.2:=fun p hp'=>(mem_zip_self (hl.mem_iff.mp hp')).1
 have e:(xs.map (·.2)).toList=xs.toList.map (·.1):=by
  rw [Array.toList_map];exact List.map_congr_left fun p hp'=>(hmem p hp').symm
 rw [e];constructor
 ·have:=hl.map Prod.fst
  rwa [List.map_fst_zip (Nat.le_refl _)] at this
 ·rw [List.pairwise_map,List.pairwise_iff_getElem]
  intro i j hi hj hij;rw [Array.length_toList] at hi hj;have:=hs i j (Nat.zero_le _) (Nat.le_of_lt hij) (by rw [←hp.size_eq];exact hj);rw [gO hi,gO hj] at this;simpa using this
theorem uX {a:Addr} {vs:List Value} {n:Nat} {P:PySem.Fin->Shared->Prop} (ho:s.heap.get? a=some (seqObj "list" vs.toArray n)) (hz:vs.length<=sizeLine)
 (hk:2<=vs.length -> ∀h':Heap,(∀b o,b≠a->s.heap.get? b=some o->h'.get? b=some o)->(∀(Q:SortKind->Shared->Prop) (E:Value->Shared->Prop),Q κ {s with heap:=h'}->wpAny (model prog w) A (keyKind' vs.toArray) Q E {s with heap:=h'})/\Dp prog w A {s with heap:=h'} κ (pairsOf vs) rk)
 (h:∀out:List Value,out.Perm vs->out.Pairwise (fun x y=>rk x<=rk y)->P (.done (.ret .none)) {s with heap:=sortedHeap s.heap a vs out.toArray}):
 wpAny (model prog w) A (Builtin.«list.sort» ⟨[.ref a],[]⟩) P E s:=by
 rw [list_sort_plain];have ha:a<s.heap.objs.size:=Heap.lt_size ho;refine wpAny_bind (listItems_at ho rfl ?_);refine wpAny_bind (listUpdate_at ho rfl ?_ (by rw [List.size_toArray];exact hz) (Nat.zero_le _));obtain ⟨e1,ho1⟩:∃e1,(s.heap.update a (Obj.mapSeq fun _=> #[])).get? a=some (seqObj "list" #[] e1):=⟨_,get?_update_seq ho (fun _=> #[])⟩;refine wpAny_bind (seqEpoch_at ho1 rfl ?_);refine wpAny_bind (wpAny_newTuple ?_ (by show vs.length<=_;exact hz));refine wpAny_bind (wpAny_newList ?_ (Nat.zero_le _));refine wpAny_holding ?_
 have keep:∀b o,b≠a->s.heap.get? b=some o->(((s.heap.update a (Obj.mapSeq fun _=> #[])).push (seqObj "tuple" vs.toArray 0)).push (seqObj "list" #[] 0)).get? b=some o:=fun b o nb e=>by
  refine Heap.get?_push_of_some _ (Heap.get?_push_of_some _ ?_);rw [Heap.get?_update_ne _ _ _ _ nb];exact e
 have ho6:(((s.heap.update a (Obj.mapSeq fun _=> #[])).push (seqObj "tuple" vs.toArray 0)).push (seqObj "list" #[] 0)).get? a=some (seqObj "list" #[] e1):=Heap.get?_push_of_some _ (Heap.get?_push_of_some _ ho1);show wpAny (model prog w) A _ P E {s with heap:=((s.heap.update a (Obj.mapSeq fun _=> #[])).push (seqObj "tuple" vs.toArray 0)).push (seqObj "list" #[] 0)};dsimp only;have hsz:vs.toArray.size=vs.length:=by simp
 have fin:∀st':SortSt,(arrOf st').Perm (pairsOf vs)->Seg rk (arrOf st') 0 (pairsOf vs).size ->
  P (.done (.ret .none)) {s with heap:=sortedHeap s.heap a vs ((arrOf st').map (·.2))}:=by
  intro st' hp hs;obtain ⟨h1,h2⟩:=Qw hp hs;have:=h _ h1 h2;rwa [Array.toArray_toList] at this
 by_cases h2:vs.toArray.size<2
 ·rw [if_pos h2,if_pos h2]
  refine wpAny_bind (wpAny_pure ?_);rw [StateT.run_pure];refine wpAny_bind (wpAny_pure ?_);dsimp only;refine wpAny_bind (seqEpoch_at ho6 rfl ?_);refine wpAny_bind (listUpdate_at ho6 rfl ?_ (Nat.zero_le _) (by rw [Array.size_map];show (pairsOf vs).size<=_;rw [pairsOf_size];omega));simp only [bne_self_eq_false,Bool.false_eq_true,if_false];refine wpAny_pure (fin (SortSt.mk' general' (vs.toArray.zip vs.toArray) #[] 7 none) (Array.Perm.refl _) ?_);intro i j _ hij hj;have:i=j:=by rw [pairsOf_size] at hj;omega
  subst this;exact Nat.le_refl _
 ·rw [if_neg h2,if_neg h2]
  obtain ⟨kk,kc⟩:=hk (by omega) _ keep;refine wpAny_bind (kk _ _ ?_)
  refine wpAny_bind (wpAny_mono (wpS_sortRuns (a₀:=pairsOf vs) (rk:=rk) (st:=SortSt.mk' κ (vs.toArray.zip vs.toArray) #[] 7 none)
   (Q:=fun _ st'=>(arrOf st').Perm (pairsOf vs)/\failedOf st'=none/\Seg rk (arrOf st') 0 (pairsOf vs).size)
   kc ⟨Array.Perm.refl _,rfl,rfl,rfl⟩ (by rw [pairsOf_size];omega) fun st' a1 a2 a3=>⟨a1,a2,a3⟩) ?_ fun _ _ e=>e)
  rintro ⟨⟨⟩,st'⟩ s' ⟨rfl,hp,hf,hs⟩;dsimp only;refine wpAny_bind (seqEpoch_at ho6 rfl ?_);refine wpAny_bind (listUpdate_at ho6 rfl ?_ (Nat.zero_le _) (Nat.le_trans (Nat.le_of_eq ((Array.size_map ..).trans (hp.size_eq.trans (pairsOf_size _)))) (Nat.le_succ_of_le hz)));rw [hf];simp only [bne_self_eq_false,Bool.false_eq_true,if_false];exact wpAny_pure (fin st' hp hs)
theorem Bo {l:Addr} {vs:List Value} {Q:Value->Shared->Prop} (hl:s.heap.IsList l vs.toArray) (hz:vs.length<=sizeLine)
 (hk:2<=vs.length -> ∀h':Heap,(∀b o,s.heap.get? b=some o->h'.get? b=some o)->(∀(Q:SortKind->Shared->Prop) (E:Value->Shared->Prop),Q κ {s with heap:=h'}->wpAny (model prog w) A.in1.in1 (keyKind' vs.toArray) Q E {s with heap:=h'})/\Dp prog w A.in1.in1 {s with heap:=h'} κ (pairsOf vs) rk)
 (h:∀(h':Heap) (D:Addr) (c:Nat) (out:List Value),(∀b o,s.heap.get? b=some o->h'.get? b=some o)->s.heap.objs.size<=D->h'.get? D=some (seqObj "list" out.toArray c)->out.Perm vs->out.Pairwise (fun x y=>rk x<=rk y)->Q (.ref D) {s with heap:=h'}):
 wpAny (model prog w) A (call (.builtin "sorted") [.ref l]) Q E s:=by
 refine Calls.call_function_entry kind_sorted plain_sorted entry_sorted (args_sorted1 _) ?_;unfold Builtin.«sorted»;refine wpAny_bind (m:=checkCount "sorted" 1 1 _) (wpAny_pure ?_);refine wpAny_bind (collect_list hl ?_ hz);refine wpAny_bind (wpAny_newList ?_ hz)
 have hsz:((s.heap.push (seqObj "list" #[] 0)).update s.heap.objs.size (Obj.mapSeq (· ++ vs.toArray))).objs.size=s.heap.objs.size+1:=by
  rw [Heap.size_update,size_push']
 have hoL:(((s.heap.push (seqObj "list" #[] 0)).update s.heap.objs.size (Obj.mapSeq (· ++ vs.toArray))).push (seqObj "list" vs.toArray 0)).get? (s.heap.objs.size+1)=some (seqObj "list" vs.toArray 0):=by
  rw [←hsz];exact Heap.get?_push_size _ rfl
 have keep:∀b o,s.heap.get? b=some o->(((s.heap.push (seqObj "list" #[] 0)).update s.heap.objs.size (Obj.mapSeq (· ++ vs.toArray))).push (seqObj "list" vs.toArray 0)).get? b=some o:=fun b o q=>by
  have hlt:b<s.heap.objs.size:=Heap.lt_size q;rw [Heap.get?_push_ne _ _ _ (by rw [hsz];exact Nat.ne_of_lt (Nat.lt_succ_of_lt hlt)),Heap.get?_update_ne _ _ _ _ (Nat.ne_of_lt hlt),Heap.get?_push_ne _ _ _ (Nat.ne_of_lt hlt)];exact q
 show wpAny _ _ _ _ _ {s with heap:=((s.heap.push (seqObj "list" #[] 0)).update s.heap.objs.size (Obj.mapSeq (· ++ vs.toArray))).push (seqObj "list" vs.toArray 0)};rw [hsz];generalize ((s.heap.push (seqObj "list" #[] 0)).update s.heap.objs.size (Obj.mapSeq (· ++ vs.toArray))).push (seqObj "list" vs.toArray 0)=h1 at keep hoL ⊢;have nD:∀b o,s.heap.get? b=some o->b≠s.heap.objs.size+1:=fun b o e=>Nat.ne_of_lt (Nat.lt_succ_of_lt (Heap.lt_size e));refine wpAny_bind (wpAny_holding (wpAny_call_entry slot_list_sort ⟨_,hoL,rfl⟩ entry_list_sort (uX (s:={s with heap:=h1}) hoL hz (fun h2 h' kp=>hk h2 h' fun b o e=>kp b o (nD b o e) (keep b o e)) fun out p1 p2=>⟨_,rfl, ?_⟩) (args_list_sort _)));refine wpAny_pure ⟨_,rfl, ?_⟩;obtain ⟨e1,ho1⟩:∃e1,(h1.update (s.heap.objs.size+1) (Obj.mapSeq fun _=> #[])).get? (s.heap.objs.size+1)=some (seqObj "list" #[] e1):=⟨_,get?_update_seq hoL (fun _=> #[])⟩;have ho2:(((h1.update (s.heap.objs.size+1) (Obj.mapSeq fun _=> #[])).push (seqObj "tuple" vs.toArray 0)).push (seqObj "list" #[] 0)).get? (s.heap.objs.size+1)=some (seqObj "list" #[] e1):=Heap.get?_push_of_some _ (Heap.get?_push_of_some _ ho1);refine h (sortedHeap h1 (s.heap.objs.size+1) vs out.toArray) _ _ out (fun b o e=> ?_) (Nat.le_succ _) (by unfold sortedHeap;exact get?_update_seq ho2 (fun _=>out.toArray)) p1 p2;unfold sortedHeap;rw [Heap.get?_update_ne _ _ _ _ (nD b o e)];refine Heap.get?_push_of_some _ (Heap.get?_push_of_some _ ?_);rw [Heap.get?_update_ne _ _ _ _ (nD b o e)];exact keep b o e
end
section
theorem vL {α:Type} {p q:α->Bool} {u:α}:∀{l:List α},u∈l->q u=true->p u=false->(∀x,p x=true->q x=true)->l.countP p<l.countP q
 | [],hm,_,_,_=>by simp at hm
 | x::l,hm,hq,hp,hi=>by
   have mono:l.countP p<=l.countP q:=List.countP_mono_left fun x _=>hi x;rw [List.countP_cons,List.countP_cons];rcases List.mem_cons.mp hm with rfl|hm
   ·rw [hq,hp];simp;omega
   ·have:=vL hm hq hp hi
    cases e:p x with
    | true=>rw [hi x e];simp;omega
    | false=>simp;omega
def lQ {α:Type} (L:α->α->Bool) (vs:List α) (v:α):Nat:=vs.countP fun u=>L u v
structure Swo {α:Type} (L:α->α->Bool):Prop where
 irr:∀a,L a a=false
 tr:∀a b c,L a b=true->L b c=true->L a c=true
 ntr:∀a b c,L a b=false->L b c=false->L a c=false
theorem DN {α:Type} {L:α->α->Bool} (S:Swo L) {vs:List α} {u v:α} (hu:u∈vs):decide (lQ L vs u<lQ L vs v)=L u v:=by
 cases e:L u v with
 | true=>exact decide_eq_true (vL hu e (S.irr u) fun x hx=>S.tr x u v hx e)
 | false=>
   refine decide_eq_false fun z=> ?_
   have:lQ L vs v<=lQ L vs u:=List.countP_mono_left fun x _ hx=>by
    cases e':L x u with
    | true=>rfl
    | false=>rw [S.ntr x u v e' e] at hx;cases hx
   omega
theorem Lz {α:Type} {L:α->α->Bool} (S:Swo L) {vs:List α} {u v:α} (hv:v∈vs) (h:lQ L vs u<=lQ L vs v):L v u=false:=by
 have:=DN S (u:=v) (v:=u) hv;rw [←this];exact decide_eq_false (by omega)
def gJ:List Int->List Int->Bool
 | _,[]=>false
 | [],_::_=>true
 | a::as,b::bs=>if a=b then gJ as bs else decide (a<b)
theorem zA (a:List Int):gJ a []=false:=by cases a<;>rfl
theorem zB:∀a,gJ a a=false
 | []=>rfl
 | a::as=>by unfold gJ;rw [if_pos rfl];exact zB as
theorem Eh:∀a b c,gJ a b=true->gJ b c=true->gJ a c=true
 | a,[],_,h,_=>by rw [zA] at h;cases h
 | [],_::_,[],_,h=>by cases h
 | [],_::_,_::_,_,_=>rfl
 | _::_,_::_,[],_,h=>by cases h
 | a::as,b::bs,c::cs,h1,h2=>by
   unfold gJ at h1 h2 ⊢
   by_cases e1:a=b
   ·rw [if_pos e1] at h1
    by_cases e2:b=c
    ·rw [if_pos e2] at h2
     rw [if_pos (e1.trans e2)];exact Eh as bs cs h1 h2
    ·rw [if_neg e2] at h2
     rw [if_neg (e1▸e2),e1];exact h2
   ·rw [if_neg e1] at h1
    have h1:=of_decide_eq_true h1
    by_cases e2:b=c
    ·rw [←e2,if_neg e1];exact decide_eq_true h1
    ·rw [if_neg e2] at h2
     have h2:=of_decide_eq_true h2;rw [if_neg (by omega)];exact decide_eq_true (by omega)
theorem zy:∀a b c,gJ a b=false->gJ b c=false->gJ a c=false
 | a,_,[],_,_=>zA a
 | [],[],_::_,_,h=>by cases h
 | [],_::_,_::_,h,_=>by cases h
 | _::_,[],_::_,_,h=>by cases h
 | a::as,b::bs,c::cs,h1,h2=>by
   unfold gJ at h1 h2 ⊢
   by_cases e1:a=b
   ·rw [if_pos e1] at h1
    by_cases e2:b=c
    ·rw [if_pos e2] at h2
     rw [if_pos (e1.trans e2)];exact zy as bs cs h1 h2
    ·rw [if_neg e2] at h2
     rw [if_neg (e1▸e2),e1];exact h2
   ·rw [if_neg e1] at h1
    have h1:=of_decide_eq_false h1
    by_cases e2:b=c
    ·rw [←e2,if_neg e1];exact decide_eq_false h1
    ·rw [if_neg e2] at h2
     have h2:=of_decide_eq_false h2;rw [if_neg (by omega)];exact decide_eq_false (by omega)
theorem zx:∀a b,gJ a b=false->gJ b a=false->a=b
 | [],[],_,_=>rfl
 | [],_::_,h,_=>by cases h
 | _::_,[],_,h=>by cases h
 | a::as,b::bs,h1,h2=>by
   unfold gJ at h1 h2
   by_cases e:a=b
   ·rw [if_pos e] at h1
    rw [if_pos e.symm] at h2;rw [e,zx as bs h1 h2]
   ·rw [if_neg e] at h1
    rw [if_neg (Ne.symm e)] at h2;have h1:=of_decide_eq_false h1;have h2:=of_decide_eq_false h2;omega
theorem Dv {α:Type} (key:α->List Int):Swo fun a b=>gJ (key a) (key b):=⟨fun a=>zB _,fun a b c=>Eh _ _ _,fun a b c=>zy _ _ _⟩
end
end Tim
set_option Elab.async false
set_option linter.all false
set_option maxRecDepth 100000
set_option maxHeartbeats 4000000
namespace L2
open PySem PySem.Spec PyProof.Rows PySem.W
section
variable {X:Cx}
def keyOf (h:Heap):Value->List Int
 | .int n _=>[n]
 | .ref a=>match h.get? a with
   | some o=>match o.data with
     | .seq xs _=>xs.toList.map numOf
     | _=>[]
   | none=>[]
 | _=>[]
theorem Ef {prog:Program} {w:World} {A:Around} {s:Shared} {Q:Bool->Shared->Prop}:∀(xs ys:List Value) (ns ms:List Int) (i:Nat),IntsAre xs ns->IntsAre ys ms -> ∀(fin:Bool),(ns.length=ms.length->fin=false)->ns.length=ms.length->Q (Tim.gJ ns ms) s->KatLex prog w A true fin Q (xs.zip ys) i s
 | _,_,[],[],i,.nil,.nil,fin,hf,_,h=>by
   show Q fin s;rw [hf rfl];exact h
 | _,_,_::_,[],_,_,_,_,_,hl,_=>by cases hl
 | _,_,[],_::_,_,_,_,_,_,hl,_=>by cases hl
 | _,_,n::ns,m::ms,i,.cons _ t hx,.cons _ u hy,fin,hf,hl,h=>by
   rw [List.zip_cons_cons];refine kat_cons (wpAny_eqBool_int ?_);have hl':ns.length=ms.length:=by simpa using hl
   by_cases e:n=m
   ·subst e
    rw [show (n==n)=true by simp];refine kat_yes (Ef _ _ ns ms (i+1) hx hy fin (fun z=>hf (by simpa using z)) hl' ?_);unfold Tim.gJ at h;rwa [if_pos rfl] at h
   ·rw [show (n==m)=false by simpa using e]
    unfold Tim.gJ at h;rw [if_neg e] at h;refine kat_no ?_;cases (true&&i==0) with
    | true=>exact oneLt_int h
    | false=>exact kat_one _ _ (lt_int (show W.BoolBack Q (.bool (decide (n<m))) s from h))
theorem mY {h:Heap} {a:Addr} {its:List Value} {ns:List Int} (ht:IsTup h a its.toArray) (hi:IntsAre its ns):keyOf h (.ref a)=ns:=by
 obtain ⟨o,e,_,n,d⟩:=ht
 show (match h.get? a with
  | some o=>match o.data with
    | .seq xs _=>xs.toList.map numOf
    | _=>[]
  | none=>[])=ns
 rw [e];dsimp only;rw [d];dsimp only;exact hi.nums
def Fg (h:Heap) (k:Nat) (vs:List Value):Prop:=∀v∈vs,∃a its ns,v = .ref a/\IsTup h a its.toArray/\IntsAre its ns/\ns.length=k
theorem Ir {prog:Program} {w:World} {A:Around} {s:Shared} {vs:List Value} {k:Nat} {h0:Heap} (T:Fg h0 k vs) (kp:∀b o,h0.get? b=some o->s.heap.get? b=some o):
 Tim.Dp prog w A s (tuples' true) (pairsOf vs) (Tim.lQ (fun a b=>Tim.gJ (keyOf h0 a) (keyOf h0 b)) vs):=by
 refine ⟨fun p hp q hq E Q h=> ?_⟩;rw [pairsOf_toList] at hp hq;obtain ⟨_,mp⟩:=mem_zip_self hp;obtain ⟨_,mq⟩:=mem_zip_self hq;rw [Tim.DN (Tim.Dv (keyOf h0)) mp] at h;obtain ⟨a,its,ns,ep,ta,ia,la⟩:=T _ mp;obtain ⟨b,jts,ms,eq,tb,ib,lb⟩:=T _ mq;rw [ep,eq] at h ⊢;rw [mY ta ia,mY tb ib] at h;obtain ⟨oa,ea,ca,n1,da⟩:=ta;obtain ⟨ob,eb,cb,n2,db⟩:=tb;have l1:its.length=ns.length:=ia.length;have l2:jts.length=ms.length:=ib.length;refine kat_lt (kp _ _ ea) da (kp _ _ eb) db ?_;have e1:its.toArray.toList=its:=by simp
 have e2:jts.toArray.toList=jts:=by simp
 rw [e1,e2];exact Ef its jts ns ms 0 ia ib _ (fun z=>decide_eq_false (by rw [List.size_toArray,List.size_toArray];omega)) (by omega) h
theorem qj {h0 h1:Heap} {k:Nat} (hk:1<=k) (kp:∀b o,h0.get? b=some o->h1.get? b=some o):∀{vs:List Value},Fg h0 k vs -> ∃fs,KatTups h1 vs fs/\fs.length=vs.length /\ ∀f∈fs,∃n t,f=Value.int n t
 | [],_=>⟨[],trivial,rfl,fun _ z=>absurd z (by simp)⟩
 | v::vs,T=>by
   obtain ⟨fs,t1,t2,t3⟩:=qj hk kp (vs:=vs) fun u hu=>T u (List.mem_cons_of_mem _ hu);obtain ⟨a,its,ns,rfl,⟨o,e,c,n,d⟩,ia,la⟩:=T v (List.mem_cons_self ..)
   match its,ns,ia,la,d with
   | _,_,.nil,la,d=>simp at la;omega
   | _,_,.cons m t r,la,d=>
     refine ⟨_::fs,KatTups.cons (kp _ _ e) c d rfl t1,by simp [t2],fun f hf=> ?_⟩;rcases List.mem_cons.mp hf with rfl|hf
     ·exact ⟨_,_,rfl⟩
     ·exact t3 f hf
theorem Fw {prog:Program} {w:World} {A:Around} {s:Shared} {vs:List Value} {k:Nat} {h0:Heap} {Q:SortKind->Shared->Prop} {E:Value->Shared->Prop} (hk:1<=k) (T:Fg h0 k vs) (hv:2<=vs.length) (kp:∀b o,h0.get? b=some o->s.heap.get? b=some o)
 (h:Q (tuples' true) s):wpAny (model prog w) A (keyKind' vs.toArray) Q E s:=by
 obtain ⟨fs,t1,t2,t3⟩:=qj hk kp T;refine kat_kind (T:= .type "int") t1 (by omega) (fun v hv=> ?_) rfl h;obtain ⟨n,t,rfl⟩:=t3 v hv;exact .now
theorem Fo {ys:List V} {us out:List Value} (r:Vals ys us) (p:out.Perm us):∃zs,Vals zs out/\zs.Perm ys:=by
 induction p generalizing ys with
 | nil=>cases r;exact ⟨[],.nil,.refl _⟩
 | cons x p ih=>
   cases r with
   | cons rx rt=>
     obtain ⟨zs,z1,z2⟩:=ih rt;exact ⟨_::zs,.cons rx z1,.cons _ z2⟩
 | swap x y l=>
   cases r with
   | cons rx rt=>
     cases rt with
     | cons ry rl=>exact ⟨_,.cons ry (.cons rx rl),.swap _ _ _⟩
 | trans p q ih1 ih2=>
   obtain ⟨zs,z1,z2⟩:=ih2 r;obtain ⟨ws,w1,w2⟩:=ih1 z1;exact ⟨ws,w1,w2.trans z2⟩
theorem vJ:∀{ns:List Int} {vs:List Value},Vals (ns.map V.int) vs->IntsAre vs ns
 | [],_,.nil=> .nil
 | n::ns,_,.cons ⟨t,e⟩ r=>by subst e;exact .cons n t (vJ r)
theorem vm {R:Value->Value->Prop} {S:V->V->Prop} (hRS:∀x y u v,RelV x u->RelV y v->R u v->S x y):∀{zs:List V} {out:List Value},Vals zs out->out.Pairwise R->zs.Pairwise S
 | _,_,.nil,_=> .nil
 | _,_,.cons rx rt,p=>by
   rw [List.pairwise_cons] at p;refine .cons (fun y hy=> ?_) (vm hRS rt p.2);obtain ⟨i,hi,e⟩:=List.getElem_of_mem hy;obtain ⟨v,hv,ry⟩:=Vals.get rt (i:=i) (x:=y) (by rw [List.getElem?_eq_getElem hi,e]);exact hRS _ _ _ _ rx ry (p.1 v (List.mem_of_getElem? hv))
def aec (K:PySem.W.Frag) (H:Hp) (k:Nat) (f:V->List Int) (x:V):Prop:=∃a,x = .ref a/\cu K H a ((f x).map V.int)/\(f x).length=k
def Bs (K:PySem.W.Frag):List V->Hp->VK->Prop:=fun xs H Q=>∃(p:Addr) (ys:List V) (k:Nat) (f:V->List Int),xs=[.ref p]/\aW K H p ys/\1<=k/\(∀y∈ys,aec K H k f y) /\
 ∀l zs,H l=none->zs.Perm ys->zs.Pairwise (fun x y=>Tim.gJ (f y) (f x)=false)->Q (.ref l) (upd H l (.lst zs))
theorem CW:jG X (.builtin "sorted") (Bs X.K):=by
 intro pins s σ H xs us Q I r h;obtain ⟨p,ys,k,f,rfl,hq,hk,ht,q⟩:=h;obtain ⟨u,rfl,rx⟩:=vals1 r;cases rx;obtain ⟨its,rv,pl,hz⟩:=I.list hq;have hlen:its.length=ys.length:=by rw [←rv.length]
 have item:∀x v,x∈ys->RelV x v -> ∃a jts,v = .ref a/\IsTup s.heap a jts.toArray/\IntsAre jts (f x)/\(f x).length=k:=by
  intro x v hx rxv;obtain ⟨a,rfl,sq,hl⟩:=ht x hx;cases rxv;obtain ⟨jts,rj,tj,_⟩:=I.tuple sq;exact ⟨a,jts,rfl,tj,vJ rj,hl⟩
 have T:Fg s.heap k its:=fun v hv=>by
  obtain ⟨i,hi,e⟩:=List.getElem_of_mem hv;have hy:i<ys.length:=by omega
  obtain ⟨v',hv',ry⟩:=rv.get (i:=i) (x:=ys[i]) (by rw [List.getElem?_eq_getElem hy]);rw [List.getElem?_eq_getElem hi,e] at hv';cases hv';obtain ⟨a,jts,e1,e2,e3,e4⟩:=item _ _ (List.getElem_mem hy) ry;exact ⟨a,jts,_,e1,e2,e3,e4⟩
 refine Tim.Bo (κ:=tuples' true) (rk:=Tim.lQ (fun a b=>Tim.gJ (keyOf s.heap a) (keyOf s.heap b)) its) pl.isList (by omega)
  (fun h2 h' kp=>⟨fun Q E hQ=>Fw hk T h2 kp hQ,Ir T kp⟩) fun h' D c out kp hD hd hp hs=> ?_
 obtain ⟨zs,z1,z2⟩:=Fo rv hp;have hzl:zs.length<=sizeLine:=by rw [z2.length_eq];omega
 refine ⟨.ref D,_,I.laid (t':=s.toks) kp hD (show cD X.prog X.w _ h' _ (.lst zs) from ⟨hzl,out,c,z1,hd⟩),rfl,q D zs (I.hok.fresh hD) z2 ?_⟩
 have hs':out.Pairwise (fun u v=>u∈its/\v∈its/\Tim.gJ (keyOf s.heap v) (keyOf s.heap u)=false):=by
  refine List.Pairwise.imp_of_mem (fun {u v} hu hv huv=> ?_) hs;have mu:=hp.mem_iff.mp hu;have mv:=hp.mem_iff.mp hv;exact ⟨mu,mv,Tim.Lz (Tim.Dv (keyOf s.heap)) mv huv⟩
 have zin:∀z∈zs,z∈ys:=fun z hz=>z2.mem_iff.mp hz
 have zp:zs.Pairwise (fun x y=>x∈zs/\y∈zs):=by
  rw [List.pairwise_iff_getElem];intro i j hi hj _;exact ⟨List.getElem_mem hi,List.getElem_mem hj⟩
 have:=vm (S:=fun x y=>x∈ys->y∈ys->Tim.gJ (f y) (f x)=false) (fun x y u v rx ry huv hx hy=>by
  obtain ⟨a,jts,rfl,e2,e3,e4⟩:=item x u hx rx;obtain ⟨b,kts,rfl,g2,g3,g4⟩:=item y v hy ry;have:=huv.2.2;rwa [mY e2 e3,mY g2 g3] at this) z1 hs'
 exact List.Pairwise.imp₂ (fun {x y} (h1:x∈ys->y∈ys->Tim.gJ (f y) (f x)=false) (h2:x∈zs/\y∈zs)=>h1 (zin _ h2.1) (zin _ h2.2)) this zp
theorem mG {K:PySem.W.Frag} (hK:X.K=K):jG X (.builtin "sorted") (Bs K):=by subst hK;exact CW
end
end L2
set_option Elab.async false
set_option linter.all false
set_option maxRecDepth 100000
set_option maxHeartbeats 4000000
namespace Prf
open PySem L2
def top (i:Nat):Stmt:=PySem.Challenge.pw_fewnotes_k59_whole_cut_and_joined.main.body.getD i (.Pass ⟨0,0,0,0⟩)
abbrev dM:Stmt:=top 6
abbrev dO:Stmt:=top 7
abbrev i_:Stmt:=top 10
abbrev bQ:Stmt:=top 11
abbrev eY:Stmt:=top 12
abbrev iZ:Stmt:=top 14
abbrev eZ:Stmt:=top 15
abbrev dg:Stmt:=top 16
abbrev dJ:Stmt:=top 17
abbrev cO:Stmt:=top 18
abbrev dN:Stmt:=top 19
abbrev jc:Stmt:=top 20
abbrev gB:Stmt:=top 22
abbrev dh:Stmt:=top 23
abbrev cj:Stmt:=top 24
abbrev cN:Stmt:=top 25
abbrev cJ:Stmt:=top 26
abbrev oJ:Stmt:=top 27
abbrev bT:Stmt:=top 28
abbrev cZ:Stmt:=top 30
abbrev cL:Stmt:=top 31
abbrev gC:Stmt:=top 32
abbrev bR:Stmt:=top 33
abbrev j8:Stmt:=top 35
abbrev jd:Stmt:=top 36
abbrev je:Stmt:=top 37
abbrev gG:Stmt:=top 38
abbrev gD:Stmt:=top 39
abbrev dR:Stmt:=top 40
abbrev gF:Stmt:=top 41
abbrev fL:Stmt:=top 42
abbrev fu:Stmt:=top 43
abbrev fB:Stmt:=top 44
abbrev fj:Stmt:=top 45
abbrev oH:Stmt:=top 46
structure qI (mg:Str->Option Value):Prop where
 Oh:mg "ValueError" = none
 Ae:mg "all" = none
 KJ:mg "bool" = none
 qD:mg "enumerate" = none
 Pq:mg "int" = none
 bV:mg "isinstance" = none
 iM:mg "len" = none
 mH:mg "list" = none
 Fe:mg "max" = none
 afy:mg "min" = none
 kO:mg "range" = none
 uF:mg "sorted" = none
 afx:mg "sum" = none
 rH:mg "tuple" = none
 Fd:mg "zip" = none
theorem yD:bf ["value"] ["value"] (aq dM):=⟨rfl,rfl,rfl,by decide +kernel,rfl,by decide +kernel,by decide +kernel⟩
theorem yF:bf ["value","count"] ["value","count"] (aq dO):=⟨rfl,rfl,rfl,by decide +kernel,rfl,by decide +kernel,by decide +kernel⟩
theorem lO:bf ["web","counts","told","touch","k"] ["web"] (aq i_):=⟨rfl,rfl,rfl,by decide +kernel,rfl,by decide +kernel,by decide +kernel⟩
theorem qJ:bf ["one","other"] ["one","other"] (aq bQ):=⟨rfl,rfl,rfl,by decide +kernel,rfl,by decide +kernel,by decide +kernel⟩
theorem Bp:bf ["web","place","later"] ["web","place","later"] (aq eY):=⟨rfl,rfl,rfl,by decide +kernel,rfl,by decide +kernel,by decide +kernel⟩
theorem jq:bf ["web","named","knowns","told","place","name","found"] ["web"] (aq iZ):=⟨rfl,rfl,rfl,by decide +kernel,rfl,by decide +kernel,by decide +kernel⟩
theorem Bq:bf ["value"] ["value"] (aq eZ):=⟨rfl,rfl,rfl,by decide +kernel,rfl,by decide +kernel,by decide +kernel⟩
theorem iY:bf ["web","places","place","name"] ["web"] (aq dg):=⟨rfl,rfl,rfl,by decide +kernel,rfl,by decide +kernel,by decide +kernel⟩
theorem yx:bf ["named","bare","name"] ["named","bare","name"] (aq dJ):=⟨rfl,rfl,rfl,by decide +kernel,rfl,by decide +kernel,by decide +kernel⟩
theorem iw:bf ["web","named","knowns","place","bare","known","earlier"] ["web","named","knowns","place"] (aq cO):=⟨rfl,rfl,rfl,by decide +kernel,rfl,by decide +kernel,by decide +kernel⟩
theorem yE:bf ["name","known"] ["name","known"] (aq dN):=⟨rfl,rfl,rfl,by decide +kernel,rfl,by decide +kernel,by decide +kernel⟩
theorem yC:bf ["known","more","hand"] ["known","more"] (aq jc):=⟨rfl,rfl,rfl,by decide +kernel,rfl,by decide +kernel,by decide +kernel⟩
theorem FP:bf ["record","cut"] ["record","cut"] (aq gB):=⟨rfl,rfl,rfl,by decide +kernel,rfl,by decide +kernel,by decide +kernel⟩
theorem gA:bf ["record","some","cut","broken","note"] ["record","some"] (aq dh):=⟨rfl,rfl,rfl,by decide +kernel,rfl,by decide +kernel,by decide +kernel⟩
theorem sE:bf ["record"] ["record"] (aq cj):=⟨rfl,rfl,rfl,by decide +kernel,rfl,by decide +kernel,by decide +kernel⟩
theorem uR:bf ["record","done"] ["record","done"] (aq cN):=⟨rfl,rfl,rfl,by decide +kernel,rfl,by decide +kernel,by decide +kernel⟩
theorem uQ:bf ["counts","note"] ["counts","note"] (aq cJ):=⟨rfl,rfl,rfl,by decide +kernel,rfl,by decide +kernel,by decide +kernel⟩
theorem Qh:bf ["done","touch"] ["done","touch"] (aq oJ):=⟨rfl,rfl,rfl,by decide +kernel,rfl,by decide +kernel,by decide +kernel⟩
theorem qL:bf ["record","done"] ["record","done"] (aq bT):=⟨rfl,rfl,rfl,by decide +kernel,rfl,by decide +kernel,by decide +kernel⟩
theorem oG:bf ["hands","web","doers"] ["hands","web"] (aq cZ):=⟨rfl,rfl,rfl,by decide +kernel,rfl,by decide +kernel,by decide +kernel⟩
theorem iu:bf ["record","cut","inside","outside","left"] ["record","cut"] (aq cL):=⟨rfl,rfl,rfl,by decide +kernel,rfl,by decide +kernel,by decide +kernel⟩
theorem pP:bf ["one","other","whole","places"] ["one","other"] (aq gC):=⟨rfl,rfl,rfl,by decide +kernel,rfl,by decide +kernel,by decide +kernel⟩
theorem qK:bf ["cut","note"] ["cut","note"] (aq bR):=⟨rfl,rfl,rfl,by decide +kernel,rfl,by decide +kernel,by decide +kernel⟩
theorem rA:bf ["script","total","cell"] ["script"] (aq j8):=⟨rfl,rfl,rfl,by decide +kernel,rfl,by decide +kernel,by decide +kernel⟩
theorem sG:bf ["number","place","one","two"] ["number","place"] (aq jd):=⟨rfl,rfl,rfl,by decide +kernel,rfl,by decide +kernel,by decide +kernel⟩
theorem sH:bf ["bag","many","cell","found"] ["bag","many"] (aq je):=⟨rfl,rfl,rfl,by decide +kernel,rfl,by decide +kernel,by decide +kernel⟩
theorem FQ:bf ["bag"] ["bag"] (aq gG):=⟨rfl,rfl,rfl,by decide +kernel,rfl,by decide +kernel,by decide +kernel⟩
theorem mR:bf ["bag","hands","cells","loads","apart","kinds","hand","kind"] ["bag","hands","cells","loads","apart"] (aq gD):=⟨rfl,rfl,rfl,by decide +kernel,rfl,by decide +kernel,by decide +kernel⟩
theorem fZ:bf ["bag","hands","size","cells","loads","apart","many"] ["bag","hands"] (aq dR):=⟨rfl,rfl,rfl,by decide +kernel,rfl,by decide +kernel,by decide +kernel⟩
theorem bW:bf ["touches","hands","rows","called","brought","many","hand","kind","cell","got","fresh","i","other","sort","there","meets"] ["touches","hands"] (aq gF):=⟨rfl,rfl,rfl,by decide +kernel,rfl,by decide +kernel,by decide +kernel⟩
theorem vA:bf ["found","due"] ["found","due"] (aq fL):=⟨rfl,rfl,rfl,by decide +kernel,rfl,by decide +kernel,by decide +kernel⟩
theorem Br:bf ["web","hands"] ["web","hands"] (aq fu):=⟨rfl,rfl,rfl,by decide +kernel,rfl,by decide +kernel,by decide +kernel⟩
theorem gZ:bf ["web","rows","some","now","many","at","hand"] ["web","rows","some"] (aq fB):=⟨rfl,rfl,rfl,by decide +kernel,rfl,by decide +kernel,by decide +kernel⟩
theorem jr:bf ["web","cut","many","done","left","one"] ["web","cut"] (aq fj):=⟨rfl,rfl,rfl,by decide +kernel,rfl,by decide +kernel,by decide +kernel⟩
theorem gY:bf ["script","bag","hands","web","at","some","record","cut","done","left","one","other","later"] ["script"] (aq oH):=⟨rfl,rfl,rfl,by decide +kernel,rfl,by decide +kernel,by decide +kernel⟩
section
variable {P:Program} {w:World} {K:PySem.W.Frag} {mg:Str->Option Value} {base:Heap}
def cR (H:Hp) (r b:Addr) (n:Nat):Prop:=∃(ns:List Int) (i f c t:Int),H r=some (.lst [.ref b,.int i,.int f,.int c,.int t])/\H b=some (.lst (ns.map V.int))/\b≠r/\0<=i/\i<=ns.length/\0<=f/\0<=c/\c<=n
theorem cR.keep {H H':Hp} {r b:Addr} {n:Nat} (h:cR H r b n) (k:Same H H'):cR H' r b n:=by
 obtain ⟨ns,i,f,c,t,e1,e2,q⟩:=h;exact ⟨ns,i,f,c,t,k _ _ e1,k _ _ e2,q⟩
theorem cR.kp {H H':Hp} {r b p:Addr} {n:Nat} (h:cR H r b n) (k:Kp p H H') (n1:r≠p) (n2:b≠p):cR H' r b n:=by
 obtain ⟨ns,i,f,c,t,e1,e2,q⟩:=h;exact ⟨ns,i,f,c,t,k _ _ e1 n1,k _ _ e2 n2,q⟩
theorem cR.mono {H:Hp} {r b:Addr} {n m:Nat} (h:cR H r b n) (k:n<=m):cR H r b m:=by
 obtain ⟨ns,i,f,c,t,e1,e2,q0,q1,q2,q3,q4,q5⟩:=h;exact ⟨ns,i,f,c,t,e1,e2,q0,q1,q2,q3,q4,by (clear q4 q3 q2 q1 q0 e2 e1;omega)⟩
theorem cR.lst {H:Hp} {r b:Addr} {n:Nat} (h:cR H r b n):∃ys,H r=some (.lst ys):=by
 obtain ⟨ns,i,f,c,t,e1,_⟩:=h;exact ⟨_,e1⟩
theorem cR.ne {H:Hp} {r b p:Addr} {n:Nat} (h:cR H r b n) (hp:H p=none):p≠r/\p≠b:=by
 obtain ⟨ns,i,f,c,t,e1,e2,_⟩:=h;exact ⟨(aB e1 hp).symm,(aB e2 hp).symm⟩
theorem Kp.new {H H':Hp} {r p:Addr} (k:Kp r H H') (hp:H' p=none) (hr:∃o,H' r=some o):H p=none:=by
 cases e:H p with
 | none=>rfl
 | some o=>
   by_cases n:p=r
   ·subst n
    obtain ⟨o',ho⟩:=hr;rw [hp] at ho;cases ho
   ·rw [k _ _ e n] at hp
    cases hp
theorem cR.at {H:Hp} {r b:Addr} {n:Nat} (h:cR H r b n):∃o,H r=some o:=by
 obtain ⟨ns,i,f,c,t,e1,_⟩:=h;exact ⟨_,e1⟩
theorem cR.tups {H H':Hp} {r b:Addr} {n:Nat} (h:cR H r b n) (k:Kp r H H'):∀a xs,H a=some (HO.tup xs)->H' a=some (HO.tup xs):=by
 obtain ⟨ys,e⟩:=h.lst;exact k.tups e
def Bh (K:PySem.W.Frag):Sp:=fun vs H Q _=>∃(x p:Int),vs=[.int x,.int p]/\0<=p/\p<2 ^ 62 /\ ∀z:Int,0<=z->Q (.int z) H
theorem Mu {f:Addr} {fd:FuncData} (F:jU K "_law_stir" "_law_stir" jd f fd):cY P w K mg base jM 1 f fd ["number","place"] (Bh K):=by
 refine F.ok sG (fun vs H Q E h=> ?_) (fun cdv A outer s H vs Q E hr h=> ?_)
 ·obtain ⟨x,p,rfl,_⟩:=h
  rfl
 ·obtain ⟨x,p,rfl,p0,p1,k⟩:=h
  refine ⟨_,(aA (aV (i:=2) sG.nd rfl (Or.inl rfl) (bx jH (bx cX (bx cX (bx lU (pv 0) au) (bx lU (pv 1) au)) au) au))
   (aA (aV (i:=3) sG.nd rfl (Or.inl rfl) (bx jH (bx lU (pv 2) (pv 2)) au))
   (aG (bw (bx rF (bx jH (bx cX (bx cX (bx lU (pv 3) au) (bx lU (bx lU (pv 1) (pv 1)) au)) (bx rF (pv 2) au)) au) au))))), ?_⟩
  refine ⟨_,rfl,_,_,rfl,rfl,.inr ⟨by decide,by decide⟩,_,rfl,_,_,rfl,rfl,.inr ⟨by decide,by decide⟩,_,_,rfl,rfl,_,_,rfl,rfl,_,_,rfl,rfl,(by show (0:Int)<2305843009213693951;decide), ?_⟩;have o0:(0:Int)<=(x*998244353+p*1000000007+5) % 2305843009213693951:=Int.emod_nonneg _ (by decide);have o1:(x*998244353+p*1000000007+5) % 2305843009213693951<2305843009213693951:=Int.emod_lt_of_pos _ (by decide);generalize (x*998244353+p*1000000007+5) % 2305843009213693951=one at o0 o1;refine ⟨_,rfl,_,rfl,_,_,rfl,rfl,.inl ⟨by (clear o1 o0 p1 p0;omega),by (clear o1 o0 p1 p0;omega)⟩,_,_,rfl,rfl,(by show (0:Int)<2305843009213693951;decide), ?_⟩;refine ⟨_,rfl,_,_,rfl,rfl,.inr ⟨by decide,by decide⟩,_,rfl,_,rfl,_,_,rfl,rfl,.inl ⟨by (clear o1 o0 p1;omega),by (clear o1 o0 p0;omega)⟩,_,_,rfl,rfl,.inr ⟨by decide,by decide⟩,_,_,rfl,rfl,_,rfl,_,_,rfl,rfl,(by show K9 _ 3;exact ⟨by decide,by decide⟩),_,_,rfl,rfl,_,_,rfl,rfl,(by show (0:Int)<2305843009213693921;decide),_,_,rfl,rfl,(by show K9 _ 1024;exact ⟨by decide,by decide⟩), ?_⟩;exact k _ (Int.ediv_nonneg (Int.emod_nonneg _ (by decide)) (by decide))
def pK (K:PySem.W.Frag):Sp:=fun vs H Q _=>∃(r b:Addr) (m:Int) (n:Nat),vs=[.ref r,.int m]/\cR H r b n/\n<1099511627776/\0<m/\m<1329227995784915872903807060280344576 /\ ∀(z:Int) (H':Hp),0<=z->z<m->cR H' r b (n+1)->Kp r H H'->Q (.int z) H'
theorem Mw {f:Addr} {fd:FuncData} (F:jU K "_law_draw" "_law_draw" je f fd) (Fl:FnAt P w K mg base 1 "_law_stir" ["number","place"] (Bh K)) (Bt:qI mg):cY P w K mg base jM 2 f fd ["bag","many"] (pK K):=by
 refine F.ok sH (fun vs H Q E h=> ?_) (fun cdv A outer s H vs Q E hr h=> ?_)
 ·obtain ⟨r,b,m,n,rfl,_⟩:=h
  rfl
 ·obtain ⟨r,b,m,n,rfl,⟨ns,i,f,c,t,hR,hB,nb,i0,i1,f0,c0,c1⟩,hn,m0,m1,k⟩:=h
  have gK:=hr.units
  refine ⟨_,(aA (dH (cF nF (pv 1) au (bL _)) (aG (bw au)) bK)
   (aA (ju (bx cX (aJ (aK (K:=K) rfl) (pv 0) au (fun _ _=>rfl)) au) (j_ (pv 0) au set_list))
   (aA (dH (PW.pt (wF (cF sV (aJ (aK (K:=K) rfl) (pv 0) au (fun _ _=>rfl)) au (bL _)) (rC (cF nF (aJ (aK (K:=K) rfl) (pv 0) au (fun _ _=>rfl)) (aO (aZ (K:=K) rfl) (by rfl) Bt.iM eV (aj (aJ (aK (K:=K) rfl) (pv 0) au (fun _ _=>rfl)) ao)) (bL _))))) (aG (bw (bx jH (aU Fl (hr.mono (by decide)) (by rfl) (aj (aJ (aK (K:=K) rfl) (pv 0) au (fun _ _=>rfl)) (aj (aJ (aK (K:=K) rfl) (pv 0) au (fun _ _=>rfl)) ao))) (pv 1)))) bK)
   (aA (dH (cF sV (aJ (aK (K:=K) rfl) (pv 0) au (fun _ _=>rfl)) au (bL _)) (aA (aV (i:=2) sH.nd rfl (Or.inl rfl) (aJ (aK (K:=K) rfl) (aJ (aK (K:=K) rfl) (pv 0) au (fun _ _=>rfl)) (aJ (aK (K:=K) rfl) (pv 0) au (fun _ _=>rfl)) (fun _ _=>rfl)))
   (aA (ju (bx cX (aJ (aK (K:=K) rfl) (pv 0) au (fun _ _=>rfl)) au) (j_ (pv 0) au set_list))
   (aA (dH (cF sV (pv 2) (bx Jv au au) (bL _)) (aG (bw (bx jH (aU Fl (hr.mono (by decide)) (by rfl) (aj (bx jH (pv 2) au) (aj (aJ (aK (K:=K) rfl) (pv 0) au (fun _ _=>rfl)) ao))) (pv 1)))) bK)
   (aG (ju (bx pR (pv 2) (bx Jv au au)) (j_ (pv 0) au set_list)))))) bK)
   (aA (aV (i:=3) sH.nd rfl (Or.inl rfl) (bx jH (aJ (aK (K:=K) rfl) (pv 0) au (fun _ _=>rfl)) (pv 1)))
   (aA (ju (bx Jw (aJ (aK (K:=K) rfl) (pv 0) au (fun _ _=>rfl)) (pv 1)) (j_ (pv 0) au set_list))
   (aG (bw (pv 3))))))))), ?_⟩
  refine ⟨_,rfl,rfl,_,rfl, ?_⟩;refine kj (fun h0=> ?_) (fun h0=> ?_)
  ·have e:m=1:=by injection (of_decide_eq_true h0)
   subst e;exact k 0 H (by decide) (by decide) ⟨ns,i,f,c,t,hR,hB,nb,i0,i1,f0,c0,by (clear h0 m1 m0 gK hn c0 f0 i1 i0 nb hB hR;omega)⟩ (Kp.refl _ _)
  ·
   refine ⟨_,rfl,_,_,_,_,rfl,rfl,aW.of hR,rfl,_,_,rfl,rfl,_,rfl,_,_,_,_,rfl,rfl,hR,rfl, ?_⟩;have k1:Kp r H (upd H r (.lst [.ref b,.int i,.int f,.int (c+1),.int t])):=Kp.set;have nO:(upd H r (.lst [.ref b,.int i,.int f,.int (c+1),.int t])) r=some (.lst [.ref b,.int i,.int f,.int (c+1),.int t]):=ak;have jY:=k1 _ _ hB nb;have ln:(List.map V.int ns).length=ns.length:=List.length_map ..;have uO:(0:Int)<=c+1:=by (clear ln jY nO h0 gK m1 m0 hn c1 f0 i1 i0 nb hB hR;omega)
   have yN:c+1<2 ^ 62:=by (clear uO ln jY nO h0 gK m1 m0 c0 f0 i1 i0 nb hB hR;omega)
   have WT:∀z:Int,0<=z % m:=fun z=>Int.emod_nonneg _ (by (clear yN uO ln jY nO h0 gK m1 hn c1 c0 f0 i1 i0 nb hB hR;omega));have WR:∀z:Int,z % m<m:=fun z=>Int.emod_lt_of_pos _ m0;refine ⟨_,rfl,_,_,_,_,rfl,rfl,aW.of nO,rfl,_,_,rfl,rfl,_,rfl, ?_⟩
   by_cases f2:f<2
   ·rw [decide_eq_true f2]
    refine iJ ?_;refine ⟨_,rfl,_,_,_,_,rfl,rfl,aW.of nO,rfl,_,rfl,_,_,_,_,rfl,rfl,aW.of nO,rfl,b,_,rfl,.inl (aW.of jY),rfl,_,rfl, ?_⟩;refine kj (fun h1=> ?_) (fun h1=> ?_)
    ·refine ⟨_,rfl,_,_,_,_,rfl,rfl,aW.of nO,rfl,_,rfl,_,_,_,_,rfl,rfl,aW.of nO,rfl,t,c+1,rfl,uO,yN,fun z z0=> ?_⟩
     refine ⟨_,rfl,_,_,rfl,rfl,m0, ?_⟩;exact k _ _ (WT z) (WR z) ⟨ns,i,f,c+1,t,nO,jY,nb,i0,i1,f0,uO,by (clear z0 h1 f2 yN uO ln jY nO h0 gK m1 m0 hn c0 f0 i1 i0 nb hB hR;omega)⟩ k1
    ·have hlt:i<ns.length:=by
      have:¬i=(ns.length:Int):=fun z=>h1 (decide_eq_true (by rw [ln,z]));omega
     obtain ⟨cell,hc,_⟩:∃cell:Int,vU (ns.map V.int) i=some (V.int cell)/\True:=by
      obtain ⟨m',rfl⟩:=Int.eq_ofNat_of_zero_le i0;have:m'<ns.length:=by (clear h1 jY nO i1 i0 hR f2 yN uO ln h0 gK m1 m0 hn c1 c0 f0 nb hB;omega)
      exact ⟨ns[m'],cP (by simp [this]),trivial⟩
     refine ⟨_,rfl,_,_,_,_,rfl,rfl,aW.of nO,rfl,_,_,rfl,rfl,_,rfl, ?_⟩;rw [decide_eq_true f2];refine iJ ?_;refine ⟨_,rfl,_,_,_,_,rfl,rfl,aW.of nO,rfl,_,rfl,_,_,_,_,rfl,rfl,aW.of nO,rfl,_,_,_,_,rfl,rfl,aW.of jY,hc, ?_⟩;refine ⟨_,rfl,_,_,_,_,rfl,rfl,aW.of nO,rfl,_,_,rfl,rfl,_,rfl,_,_,_,_,rfl,rfl,nO,rfl, ?_⟩;have k2:Kp r (upd H r (.lst [.ref b,.int i,.int f,.int (c+1),.int t])) (upd (upd H r (.lst [.ref b,.int i,.int f,.int (c+1),.int t])) r (.lst [.ref b,.int (i+1),.int f,.int (c+1),.int t])):=Kp.set;have J7:(upd (upd H r (.lst [.ref b,.int i,.int f,.int (c+1),.int t])) r (.lst [.ref b,.int (i+1),.int f,.int (c+1),.int t])) r=some (.lst [.ref b,.int (i+1),.int f,.int (c+1),.int t]):=ak;have hB2:=k2 _ _ jY nb;refine ⟨_,rfl,_,_,rfl,rfl,(by show RV 10 18;exact ⟨by decide,by decide,by decide⟩),_,_,rfl,rfl,_,rfl, ?_⟩;refine kj (fun h2=> ?_) (fun h2=> ?_)
     ·refine ⟨_,rfl,_,_,rfl,rfl,(by show (0:Int)<2305843009213693951;decide),_,rfl,_,_,_,_,rfl,rfl,aW.of J7,rfl,_,c+1,rfl,uO,yN,fun z z0=> ?_⟩
      refine ⟨_,rfl,_,_,rfl,rfl,m0, ?_⟩;exact k _ _ (WT z) (WR z) ⟨ns,i+1,f,c+1,t,J7,hB2,nb,by (clear z0 h2 hB2 J7 hc hlt h1 f2 yN uO ln jY nO h0 gK m1 m0 hn c1 c0 f0 i1 nb hB hR;omega),by (clear z0 h2 hB2 J7 hc h1 f2 yN uO ln jY nO h0 gK m1 m0 hn c1 c0 f0 i1 i0 nb hB hR;omega),f0,uO,by (clear z0 h2 hB2 J7 hc hlt h1 f2 yN uO ln jY nO h0 gK m1 m0 hn c0 f0 i1 i0 nb hB hR;omega)⟩ (k1.trans k2)
     ·have hbig:(0:Int)<=cell - 10 ^ ((18:Int).toNat):=by
       have h2':(1000000000000000000:Int)<=cell:=by simpa using h2
       show (0:Int)<=cell - 1000000000000000000
       (clear h2 hB2 J7 hc hlt h1 f2 yN uO ln jY nO h0 gK m1 m0 hn c1 c0 f0 i1 i0 nb hB hR;omega)
      refine ⟨_,rfl,_,_,rfl,rfl,(by show RV 10 18;exact ⟨by decide,by decide,by decide⟩),_,_,rfl,rfl,_,rfl,_,_,_,_,rfl,rfl,J7,rfl, ?_⟩;have Rk:(upd (upd (upd H r (.lst [.ref b,.int i,.int f,.int (c+1),.int t])) r (.lst [.ref b,.int (i+1),.int f,.int (c+1),.int t])) r (.lst [.ref b,.int (i+1),.int (cell - 10 ^ ((18:Int).toNat)),.int (c+1),.int t])) r=some (.lst [.ref b,.int (i+1),.int (cell - 10 ^ ((18:Int).toNat)),.int (c+1),.int t]):=ak;have k3:Kp r (upd (upd H r (.lst [.ref b,.int i,.int f,.int (c+1),.int t])) r (.lst [.ref b,.int (i+1),.int f,.int (c+1),.int t])) (upd (upd (upd H r (.lst [.ref b,.int i,.int f,.int (c+1),.int t])) r (.lst [.ref b,.int (i+1),.int f,.int (c+1),.int t])) r (.lst [.ref b,.int (i+1),.int (cell - 10 ^ ((18:Int).toNat)),.int (c+1),.int t])):=Kp.set;have hB3:=k3 _ _ hB2 nb;refine ⟨_,rfl,_,_,_,_,rfl,rfl,aW.of Rk,rfl,_,rfl,_,_,rfl,rfl,m0, ?_⟩;refine ⟨_,rfl,_,_,_,_,rfl,rfl,aW.of Rk,rfl,_,rfl,_,_,rfl,rfl,⟨m0,m1⟩,_,rfl,_,_,_,_,rfl,rfl,Rk,rfl, ?_⟩;refine ⟨_,rfl, ?_⟩;refine k _ _ (WT _) (WR _) ⟨ns,i+1,_,c+1,t,ak, ?_,nb,by (clear hB3 Rk hbig h2 hB2 J7 hc hlt h1 f2 yN uO ln jY nO h0 gK m1 m0 hn c1 c0 f0 i1 nb hB hR;omega),by (clear hB3 Rk hbig h2 hB2 J7 hc h1 f2 yN uO ln jY nO h0 gK m1 m0 hn c1 c0 f0 i1 i0 nb hB hR;omega),Int.ediv_nonneg hbig (by (clear hB3 Rk hbig h2 hB2 J7 hc hlt h1 f2 yN uO ln jY nO h0 gK m1 hn c1 c0 f0 i1 i0 nb hB hR;omega)),uO,by (clear hB3 Rk hbig h2 hB2 J7 hc hlt h1 f2 yN uO ln jY nO h0 gK m1 m0 hn c0 f0 i1 i0 nb hB hR;omega)⟩ (((k1.trans k2).trans k3).trans Kp.set);rw [bA nb];exact hB3
   ·have Rr:decide (f<2)=false:=decide_eq_false f2
    rw [Rr];refine fK ?_;refine ⟨_,rfl,_,_,_,_,rfl,rfl,aW.of nO,rfl,_,_,rfl,rfl,_,rfl, ?_⟩;rw [Rr];refine fK ?_;refine ⟨_,rfl,_,_,_,_,rfl,rfl,aW.of nO,rfl,_,rfl,_,_,rfl,rfl,m0, ?_⟩;refine ⟨_,rfl,_,_,_,_,rfl,rfl,aW.of nO,rfl,_,rfl,_,_,rfl,rfl,⟨m0,m1⟩,_,rfl,_,_,_,_,rfl,rfl,nO,rfl, ?_⟩;refine ⟨_,rfl, ?_⟩;refine k _ _ (WT _) (WR _) ⟨ns,i,_,c+1,t,ak, ?_,nb,by (clear Rr f2 yN uO ln jY nO h0 gK m1 m0 hn c1 c0 f0 i1 nb hB hR;omega),by (clear Rr f2 yN uO ln jY nO h0 gK m1 m0 hn c1 c0 f0 i0 nb hB hR;omega),Int.ediv_nonneg f0 (by (clear Rr f2 yN uO ln jY nO h0 gK m1 hn c1 c0 f0 i1 i0 nb hB hR;omega)),uO,by (clear Rr f2 yN uO ln jY nO h0 gK m1 m0 hn c0 f0 i1 i0 nb hB hR;omega)⟩ (k1.trans Kp.set);rw [bA nb];exact jY
def I_ (K:PySem.W.Frag):Sp:=fun vs H Q _=>∃(a:Addr) (ns:List Int),vs=[.ref a]/\aW K H a (ns.map V.int)/\ns.length<=63 /\ ∀(r b:Addr) (H':Hp),H r=none->H b=none->cR H' r b 0->Same H H'->Q (.ref r) H'
theorem QD {f:Addr} {fd:FuncData} (F:jU K "_law_bag" "_law_bag" j8 f fd) (Bt:qI mg):cY P w K mg base jM 1 f fd ["script"] (I_ K):=by
 refine F.ok rA (fun vs H Q E h=> ?_) (fun cdv A outer s H vs Q E hr h=> ?_)
 ·obtain ⟨a,ns,rfl,_⟩:=h
  rfl
 ·obtain ⟨a,ns,rfl,hs,hlen,k⟩:=h
  refine ⟨_,(aA (aV (i:=1) rA.nd rfl (Or.inl rfl) au)
   (aA (jt PassesOwn.never rfl (cI (K:=K) rfl (pv 0)) (aP (i:=2) rA.nd rfl (Or.inl rfl))
   (aG (aV (i:=1) rA.nd rfl (Or.inl rfl) (bx jH (bx cX (bx cX (bx lU (pv 1) au) (bx jH (pv 2) au)) au) au))))
   (aG (bw (cW (aj (mV (iG (K:=K) rfl) (by rfl) Bt.mH jF (aj (pv 0) ao)) (aj au (aj au (aj au (aj (pv 1) ao)))))))))), ?_⟩
  refine ⟨_,rfl,a,rfl,⟨_,hs⟩,mz (K:=K) (a:=a) (xs:=ns.map V.int) (fun i σ H2=>∃(t:Int) (v:Option V),σ=[some (.ref a),some (.int t),v]/\H2=H)
   ⟨1,none,rfl,rfl⟩ (fun i σ H2 _ ⟨_,_,_,e⟩=>by rw [e];exact hs) ?_ ?_⟩
  ·rintro i y σ H2 hi ⟨t,v,rfl,rfl⟩
   obtain ⟨z,rfl⟩:∃z,y=V.int z:=by
    rw [List.getElem?_map] at hi;cases e:ns[i]? with
    | none=>rw [e] at hi;cases hi
    | some z=>rw [e] at hi;exact ⟨z,(Option.some.inj hi).symm⟩
   refine ⟨_,rfl,_,_,rfl,rfl,.inr ⟨by decide,by decide⟩,_,rfl,_,_,rfl,rfl,(by show (0:Int)<2305843009213693951;decide),_,_,rfl,rfl,_,_,rfl,rfl,_,_,rfl,rfl,(by show (0:Int)<2305843009213693951;decide), ?_⟩;exact ⟨_,_,rfl,rfl⟩
  ·rintro σ H2 ⟨t,v,rfl,rfl⟩
   refine ⟨_,rfl,a,_,rfl,.inl hs,fun b hb=> ?_⟩;refine ⟨_,rfl,(by show 5<=sizeLine;decide),fun r hr'=> ?_⟩;have sm:=aC (o:=HO.lst (ns.map V.int)) hb;exact k r b _ (sm.free hr') hb ⟨ns,0,0,0,t,ak,aC hr' _ _ ak,aB ak hr',by decide,by (clear hr' hb hlen;omega),by decide,by decide,by decide⟩ (sm.trans (aC hr'))
section
variable {D r b:Addr} {te:TE} {Q:VK} {rest:St} {H1:Hp} {n bn:Nat}
theorem CK {zs:List Int} {z:Int} {p:Nat->Int->Prop} {i:Nat} (hl:zs.length=i) (h:∀j z,zs[j]? = some z->p j z) (hz:p i z):∀j y,(zs++[z])[j]? = some y->p j y:=by
 intro j y e
 by_cases hj:j<zs.length
 ·rw [List.getElem?_append_left hj] at e
  exact h j y e
 ·rw [List.getElem?_append_right (by (clear e hl;omega))] at e
  have:j - zs.length=0:=by
   have:=(List.getElem?_eq_some_iff.mp e).1;simp at this;omega
  rw [this] at e;cases e;have:j=i:=by omega
  rw [this];exact hz
theorem CQ {a:Addr} {xs:List V} {f:Nat} (p:Nat->Int->Prop) (hD:H1 D=none) (hB:cR H1 r b bn) (hx:xs.length<=100000) (ha:H1 a=some (.lst xs)) (nar:a≠r)
 (hs:∀i x H (F:VK),xs[i]? = some x->Kp r H1 H->cR H r b (bn+i)->(∀z H',p i z->Kp r H H'->cR H' r b (bn+i+1)->F (.int z) H')->te (some x::rest) H F)
 (hd:∀H (zs:List Int),zs.length=xs.length->(∀i z,zs[i]? = some z->p i z)->H D=some (.lst (zs.map V.int))->Kp r H1 H->cR H r b (bn+xs.length)->Q (.ref D) H):mK (Oq K a) (fG 0) P_ te Q D (none::rest) H1:=by
 obtain ⟨nr,nb⟩:=hB.ne hD;have mv:∀{H:Hp} {o:HO},Kp r H1 H->Kp r H1 (upd H D o):=fun k c u e m=>by rw [bA (aB e hD)];exact k c u e m
 refine m_ (K:=K) (xs:=xs) (fun i σ H=>(∃v,σ=v::rest) /\ ∃zs:List Int,zs.length=i/\(∀j z,zs[j]? = some z->p j z)/\H D=some (.lst (zs.map V.int))/\Kp r H1 H/\cR H r b (bn+i)) ⟨⟨none,rfl⟩,[],rfl,fun j z e=>(by cases e),ak,.of_same (aC hD),hB.keep (aC hD)⟩ (fun i σ H _ ⟨_,_,_,_,_,k,_⟩=>aW.of (k _ _ ha nar)) ?_ (fun σ H ⟨_,zs,hl,hp,e,k,B⟩=>hd H zs hl hp e k B);rintro i x σ H hi ⟨⟨v,rfl⟩,zs,hl,hp,e,k1,B1⟩;have hil:i<xs.length:=(List.getElem?_eq_some_iff.mp hi).1;refine hs i x H _ hi k1 B1 fun z H' hz k2 B2=> ?_;refine ⟨_,k2 _ _ e nr, ?_,⟨_,rfl⟩,zs++[z],by simp [hl],CK hl hp hz, ?_,mv (k1.trans k2),B2.kp Kp.set nr.symm nb.symm⟩
 ·rw [List.length_map,sizeLine_eq];omega
 ·rw [ak];simp
end
abbrev aY:=Int×Str×Int
def tD (x:aY):PyData:= .tuple [.int x.1,.str x.2.1,.int x.2.2]
theorem jK (x:aY):Ld (tD x)=true:=rfl
def VD (x:aY):Prop:=(0<=x.1/\x.1<8)/\(x.2.1 = "load" \/ x.2.1 = "store" \/ x.2.1 = "swap")/\(0<=x.2.2/\x.2.2<20)
theorem w5 {H:Hp} {t:Addr} {x:aY} (h:H t=some (.tup [.int x.1,.str x.2.1,.int x.2.2])):Dat H (.ref t) (tD x):=by
 simp only [tD,Dat];exact ⟨t,_,rfl,h,by simp only [aD,Dat,and_self]⟩
theorem tX {H:Hp} {v:V} {d:PyData} (h:Dat H v d):aD H [v] [d]:=by
 simp only [aD,and_true];exact h
def cC (H:Hp) (a:Addr) (ws:List aY):Prop:=∃vs,H a=some (.lst vs)/\aD H vs (ws.map tD)
theorem cC.same {H H':Hp} {a:Addr} {ws:List aY} (h:cC H a ws) (k:Same H H'):cC H' a ws:=by
 obtain ⟨vs,e,d⟩:=h;exact ⟨vs,k _ _ e,aD.keep k.tups _ (aX _ jK ws) d⟩
theorem cC.kp {H H':Hp} {a r:Addr} {ws:List aY} {ys:List V} (h:cC H a ws) (hr:H r=some (.lst ys)) (k:Kp r H H') (n:a≠r):cC H' a ws:=by
 obtain ⟨vs,e,d⟩:=h;exact ⟨vs,k _ _ e n,aD.keep (k.tups hr) _ (aX _ jK ws) d⟩
theorem gb {H:Hp} {v:V} {x:aY} (h:Dat H v (tD x)):∃t,v = .ref t/\H t=some (.tup [.int x.1,.str x.2.1,.int x.2.2]):=by
 simp only [tD,Dat] at h;obtain ⟨t,vs,e,q,d⟩:=h
 match vs,d with
 | [a,b,c],d=>
   simp only [aD,Dat,and_true] at d;obtain ⟨rfl,rfl,rfl⟩:=d;exact ⟨t,e,q⟩
 | [],d=>simp only [aD] at d
 | [_],d=>simp only [aD,and_false] at d
 | [_,_],d=>simp only [aD,and_false] at d
 | _::_::_::_::_,d=>simp only [aD,and_false] at d
theorem qY {H:Hp} {a:Addr} {ws:List aY} {i:Nat} {x:aY} (h:cC H a ws) (e:ws[i]? = some x):∃vs t,H a=some (.lst vs)/\vs[i]? = some (.ref t)/\H t=some (.tup [.int x.1,.str x.2.1,.int x.2.2]):=by
 obtain ⟨vs,ha,d⟩:=h;obtain ⟨v,ev,dv⟩:=d.getD (i:=i) (d:=tD x) (by rw [List.getElem?_map,e];rfl);obtain ⟨t,rfl,ht⟩:=gb dv;exact ⟨vs,t,ha,ev,ht⟩
def wz (K:PySem.W.Frag):Sp:=fun vs H Q _=>∃(r b:Addr) (n:Nat),vs=[.ref r]/\cR H r b n/\n<549755813888 /\ ∀(z:Int) (H':Hp),1<=z->z<=8->cR H' r b (n+2)->Kp r H H'->Q (.int z) H'
theorem T8 (n:Int) (h0:0<=n) (h1:n<6):∃z:Int,vU [V.int 2,V.int 3,V.int 4,V.int 2,V.int 3,V.int 1] n=some (V.int z)/\1<=z/\z<=4:=by
 have:n=0\/n=1\/n=2\/n=3\/n=4\/n=5:=by omega
 rcases this with rfl|rfl|rfl|rfl|rfl|rfl
 ·exact ⟨2,rfl,by decide,by decide⟩
 ·exact ⟨3,rfl,by decide,by decide⟩
 ·exact ⟨4,rfl,by decide,by decide⟩
 ·exact ⟨2,rfl,by decide,by decide⟩
 ·exact ⟨3,rfl,by decide,by decide⟩
 ·exact ⟨1,rfl,by decide,by decide⟩
theorem JH {f:Addr} {fd:FuncData} (F:jU K "_law_hands" "_law_hands" gG f fd) (dF:FnAt P w K mg base 2 "_law_draw" ["bag","many"] (pK K)):cY P w K mg base jM 3 f fd ["bag"] (wz K):=by
 refine F.ok FQ (fun vs H Q E h=> ?_) (fun cdv A outer s H vs Q E hr h=> ?_)
 ·obtain ⟨r,b,n,rfl,_⟩:=h
  rfl
 ·obtain ⟨r,b,n,rfl,B0,hn,k⟩:=h
  refine ⟨_,(aA (dH (cF nF (aU dF (hr.mono (by decide)) (by rfl) (aj (pv 0) (aj au ao))) au (bL _)) (aG (bw (bx cX au (aU dF (hr.mono (by decide)) (by rfl) (aj (pv 0) (aj au ao)))))) bK)
   (aG (bw (aJ (aK (K:=K) rfl) (cW (aj au (aj au (aj au (aj au (aj au (aj au ao))))))) (aU dF (hr.mono (by decide)) (by rfl) (aj (pv 0) (aj au ao))) (fun _ _=>rfl))))), ?_⟩
  refine ⟨_,rfl,r,b,8,n,rfl,B0,by omega,by decide,by decide,fun z H1 z0 z1 B1 k1=>⟨rfl,_,rfl, ?_⟩⟩;refine kj (fun _=> ?_) (fun _=> ?_)
  ·refine ⟨_,rfl,r,b,4,_,rfl,B1,by (clear z1 z0;omega),by decide,by decide,fun y H2 y0 y1 B2 k2=>⟨_,_,rfl,rfl, ?_⟩⟩
   exact k _ H2 (by (clear y1 z1 z0 hn;omega)) (by (clear y0 z1 z0 hn;omega)) B2 (k1.trans k2)
  ·refine ⟨(by show 6<=sizeLine;decide),fun p hp=> ?_⟩
   have sp:=aC (o:=HO.lst [V.int 2,V.int 3,V.int 4,V.int 2,V.int 3,V.int 1]) hp;obtain ⟨wL,_⟩:=B1.ne hp;refine ⟨_,rfl,r,b,6,_,rfl,B1.keep sp,by (clear wL hp z1 z0;omega),by decide,by decide,fun y H2 y0 y1 B2 k2=> ?_⟩;obtain ⟨v,ev,v0,v1⟩:=T8 y y0 y1;exact ⟨_,_,_,_,rfl,rfl,aW.of (k2 _ _ ak wL),ev,k v H2 v0 (by (clear v0 ev y1 y0 wL hp z1 z0 hn;omega)) B2 ((k1.trans (.of_same sp)).trans k2)⟩
theorem Oi {α:Type} {xs:List α} {n:Int} (h0:0<=n) (h1:n<xs.length):∃v,vU xs n=some v/\xs[n.toNat]? = some v:=by
 obtain ⟨m,rfl⟩:=Int.eq_ofNat_of_zero_le h0;have:m<xs.length:=by (clear h0;omega)
 exact ⟨xs[m],cP (by simp [this]),by simp [this]⟩
def V4 (k:Str):Prop:=k = "load" \/ k = "store" \/ k = "swap"
theorem QX {H:Hp} {p1 p2 p3:Addr} (h1:H p1=some (.lst [.str "load",.str "store",.str "swap"])) (h2:H p2=some (.lst [.str "load",.str "load",.str "swap",.str "load"])) (h3:H p3=some (.lst [.str "store",.str "swap",.str "load",.str "store"])) (n:Int) (n0:0<=n) (n1:n<3):
 ∃(q:Addr) (ks:List Str),vU [V.ref p1,V.ref p2,V.ref p3] n=some (V.ref q)/\H q=some (.lst (ks.map V.str))/\3<=ks.length/\ks.length<=4/\(∀k∈ks,V4 k)/\(q=p1\/q=p2\/q=p3):=by
 have:n=0\/n=1\/n=2:=by (clear h3 h2 h1;omega)
 rcases this with rfl|rfl|rfl
 ·refine ⟨p1,["load","store","swap"],rfl,h1,by decide,by decide,fun k hk=> ?_,.inl rfl⟩
  simp only [List.mem_cons,List.not_mem_nil,or_false] at hk;exact hk
 ·refine ⟨p2,["load","load","swap","load"],rfl,h2,by decide,by decide,fun k hk=> ?_,.inr (.inl rfl)⟩
  simp only [List.mem_cons,List.not_mem_nil,or_false] at hk;rcases hk with h|h|h|h
  ·exact .inl h
  ·exact .inl h
  ·exact .inr (.inr h)
  ·exact .inl h
 ·refine ⟨p3,["store","swap","load","store"],rfl,h3,by decide,by decide,fun k hk=> ?_,.inr (.inr rfl)⟩
  simp only [List.mem_cons,List.not_mem_nil,or_false] at hk;rcases hk with h|h|h|h
  ·exact .inr (.inl h)
  ·exact .inr (.inr h)
  ·exact .inl h
  ·exact .inr (.inl h)
def jy (hn:Int) (x:aY):Prop:=(0<=x.1/\x.1<hn)/\V4 x.2.1/\(0<=x.2.2/\x.2.2<20)
def v7 (K:PySem.W.Frag):Sp:=fun vs H Q _=>∃(r b:Addr) (n:Nat) (hn cl ld ap:Int),vs=[.ref r,.int hn,.int cl,.int ld,.int ap]/\cR H r b n/\n<549755813888/\1<=hn/\hn<=8/\1<=cl/\cl<=20/\0<=ld/\ld<3 /\
 ∀(t:Addr) (x:aY) (H':Hp),H t=none->H' t=some (.tup [.int x.1,.str x.2.1,.int x.2.2])->jy hn x->cR H' r b (n+3)->Kp r H H'->Q (.ref t) H'
theorem Jy {f:Addr} {fd:FuncData} (F:jU K "_law_touch" "_law_touch" gD f fd) (dF:FnAt P w K mg base 2 "_law_draw" ["bag","many"] (pK K)) (Bt:qI mg):cY P w K mg base jM 3 f fd ["bag","hands","cells","loads","apart"] (v7 K):=by
 refine F.ok mR (fun vs H Q E h=> ?_) (fun cdv A outer s H vs Q E hr h=> ?_)
 ·obtain ⟨r,b,n,hn,cl,ld,ap,rfl,_⟩:=h
  rfl
 ·obtain ⟨r,b,n,hn,cl,ld,ap,rfl,B0,nn,hn0,hn1,Oc,cl1,qO,qN,k⟩:=h
  refine ⟨_,(aA (aV (i:=5) mR.nd rfl (Or.inl rfl) (aJ (aK (K:=K) rfl) (cW (aj (cW (aj fV (aj fV (aj fV ao)))) (aj (cW (aj fV (aj fV (aj fV (aj fV ao))))) (aj (cW (aj fV (aj fV (aj fV (aj fV ao))))) ao)))) (pv 3) (fun _ _=>rfl)))
   (aA (aV (i:=6) mR.nd rfl (Or.inl rfl) (aU dF (hr.mono (by decide)) (by rfl) (aj (pv 0) (aj (pv 1) ao))))
   (aA (aV (i:=7) mR.nd rfl (Or.inl rfl) (aJ (aK (K:=K) rfl) (pv 5) (aU dF (hr.mono (by decide)) (by rfl) (aj (pv 0) (aj (aO (aZ (K:=K) rfl) (by rfl) Bt.iM eV (aj (pv 5) ao)) ao))) (fun _ _=>rfl)))
   (aG (bw (fU (aj (pv 6) (aj (pv 7) (aj (bx jH (bx cX (pv 4) (bx lU au (aU dF (hr.mono (by decide)) (by rfl) (aj (pv 0) (aj (pv 2) ao))))) au) ao))))))))), ?_⟩
  refine ⟨(by show 3<=sizeLine;decide),fun p1 h1=> ?_⟩;have s1:=aC (o:=HO.lst [V.str "load",V.str "store",V.str "swap"]) h1;refine ⟨(by show 4<=sizeLine;decide),fun p2 h2=> ?_⟩;have s2:=aC (o:=HO.lst [V.str "load",V.str "load",V.str "swap",V.str "load"]) h2;refine ⟨(by show 4<=sizeLine;decide),fun p3 h3=> ?_⟩;have s3:=aC (o:=HO.lst [V.str "store",V.str "swap",V.str "load",V.str "store"]) h3;refine ⟨(by show 3<=sizeLine;decide),fun p h4=> ?_⟩;have s4:=aC (o:=HO.lst [V.ref p1,V.ref p2,V.ref p3]) h4;obtain ⟨q,ks,eq,hq,Ni,Nh,kok,qq⟩:=QX (s4 _ _ (s3 _ _ (s2 _ _ ak))) (s4 _ _ (s3 _ _ ak)) (s4 _ _ ak) ld qO qN;have Tj:=((s1.trans s2).trans s3).trans s4;have B4:=B0.keep Tj;refine ⟨_,rfl,_,_,_,_,rfl,rfl,aW.of ak,eq, ?_⟩
  have HN:q≠r:=by
   have a1:=(B0.ne h1).1;have a2:=((B0.keep s1).ne h2).1;have a3:=((B0.keep (s1.trans s2)).ne h3).1;rcases qq with rfl|rfl|rfl<;>assumption
  generalize (upd (upd (upd (upd H p1 (HO.lst [V.str "load",V.str "store",V.str "swap"])) p2 (HO.lst [V.str "load",V.str "load",V.str "swap",V.str "load"])) p3 (HO.lst [V.str "store",V.str "swap",V.str "load",V.str "store"])) p (HO.lst [V.ref p1,V.ref p2,V.ref p3]))=H4 at Tj hq B4 ⊢;refine ⟨_,rfl,_,rfl,r,b,hn,n,rfl,B4,by (clear hq HN qq Nh Ni eq h4 h3 h2 h1 qN qO cl1 Oc hn1 hn0;omega),by (clear hq HN qq Nh Ni eq h4 h3 h2 h1 qN qO cl1 Oc hn1 nn;omega),by (clear hq HN qq Nh Ni eq h4 h3 h2 h1 qN qO cl1 Oc hn0 nn;omega),fun z H5 z0 z1 B5 k5=> ?_⟩;have GP:=k5 _ _ hq HN;refine ⟨_,rfl,_,rfl,_,rfl,q,_,rfl,.inl (aW.of GP),r,b,_,_,rfl,B5,by (clear GP z1 z0 hq HN qq Nh Ni eq h4 h3 h2 h1 qN qO cl1 Oc hn1 hn0;omega),by rw [List.length_map];(clear GP z1 z0 hq HN qq Nh eq h4 h3 h2 h1 qN qO cl1 Oc hn1 hn0 nn;omega),by rw [List.length_map];(clear GP z1 z0 hq HN qq Ni eq h4 h3 h2 h1 qN qO cl1 Oc hn1 hn0 nn;omega),fun y H6 y0 y1 B6 k6=> ?_⟩;rw [List.length_map] at y1;obtain ⟨v,ev,gv⟩:=Oi (xs:=ks.map V.str) y0 (by rw [List.length_map];(clear y0 GP z1 z0 hq HN qq Nh Ni eq h4 h3 h2 h1 qN qO cl1 Oc hn1 hn0 nn;omega));rw [List.getElem?_map] at gv;cases ek:ks[y.toNat]? with
  | none=>rw [ek] at gv;cases gv
  | some kd=>
    rw [ek] at gv;cases gv;refine ⟨_,_,_,_,rfl,rfl,aW.of (k6 _ _ GP HN),ev, ?_⟩;refine ⟨_,rfl,_,rfl,_,rfl,_,rfl,_,rfl,r,b,_,_,rfl,B6,by (clear ev ek y1 y0 GP z1 z0 hq HN qq Nh Ni eq h4 h3 h2 h1 qN qO cl1 Oc hn1 hn0;omega),by (clear ev ek y1 y0 GP z1 z0 hq HN qq Nh Ni eq h4 h3 h2 h1 qN qO cl1 hn1 hn0 nn;omega),by (clear ev ek y1 y0 GP z1 z0 hq HN qq Nh Ni eq h4 h3 h2 h1 qN qO Oc hn1 hn0 nn;omega),fun u H7 u0 u1 B7 k7=>⟨_,_,rfl,rfl,.inl ⟨by decide,by decide⟩,_,_,rfl,rfl,_,_,rfl,rfl,(by show (0:Int)<20;decide), ?_⟩⟩;refine ⟨(by show 3<=sizeLine;decide),fun t ht=> ?_⟩;have st:=aC (o:=HO.tup [V.int z,V.str kd,V.int ((ap+7*u) % 20)]) ht;have kk:Kp r H H7:=(((Kp.of_same Tj).trans k5).trans k6).trans k7;exact k t (z,kd,(ap+7*u) % 20) _ (Kp.new kk ht B7.at) ak ⟨⟨z0,z1⟩,kok kd (List.mem_of_getElem? ek),Int.emod_nonneg _ (by decide),Int.emod_lt_of_pos _ (by decide)⟩ (B7.keep st) (kk.trans (.of_same st))
def pH (K:PySem.W.Frag):Sp:=fun vs H Q _=>∃(r b:Addr) (n:Nat) (hn:Int),vs=[.ref r,.int hn]/\cR H r b n/\n<274877906944/\1<=hn/\hn<=8 /\
 ∀(a:Addr) (ws:List aY) (H':Hp),H a=none->cC H' a ws->(∀x∈ws,jy hn x)->ws.length<=300->cR H' r b (n+1000)->Kp r H H'->Q (.ref a) H'
theorem QS (n:Int) (h0:0<=n) (h1:n<4):∃z:Int,vU [V.int 1,V.int 2,V.int 3,V.int 20] n=some (V.int z)/\1<=z/\z<=20:=by
 have:n=0\/n=1\/n=2\/n=3:=by omega
 rcases this with rfl|rfl|rfl|rfl
 ·exact ⟨1,rfl,by decide,by decide⟩
 ·exact ⟨2,rfl,by decide,by decide⟩
 ·exact ⟨3,rfl,by decide,by decide⟩
 ·exact ⟨20,rfl,by decide,by decide⟩
theorem QT (n:Int) (h0:0<=n) (h1:n<32):∃z:Int,vU [V.int 31,V.int 101,V.int 301] (n / 28+n / 31)=some (V.int z)/\1<=z/\z<=301:=by
 have:n / 28+n / 31=0\/n / 28+n / 31=1\/n / 28+n / 31=2:=by omega
 rcases this with e|e|e<;>rw [e]
 ·exact ⟨31,rfl,by decide,by decide⟩
 ·exact ⟨101,rfl,by decide,by decide⟩
 ·exact ⟨301,rfl,by decide,by decide⟩
theorem BL {f:Addr} {fd:FuncData} (F:jU K "_law_touches" "_law_touches" dR f fd) (dF:FnAt P w K mg base 2 "_law_draw" ["bag","many"] (pK K)) (K4:FnAt P w K mg base 3 "_law_touch" ["bag","hands","cells","loads","apart"] (v7 K)) (Bt:qI mg):cY P w K mg base jM 4 f fd ["bag","hands"] (pH K):=by
 refine F.ok fZ (fun vs H Q E h=> ?_) (fun cdv A outer s H vs Q E hr h=> ?_)
 ·obtain ⟨r,b,n,hn,rfl,_⟩:=h
  rfl
 ·obtain ⟨r,b,n,hn,rfl,B0,nn,hn0,hn1,k⟩:=h
  refine ⟨_,(aA (aV (i:=2) fZ.nd rfl (Or.inl rfl) (aU dF (hr.mono (by decide)) (by rfl) (aj (pv 0) (aj au ao))))
   (aA (aV (i:=3) fZ.nd rfl (Or.inr rfl) (aJ (aK (K:=K) rfl) (cW (aj au (aj au (aj au (aj au ao))))) (aU dF (hr.mono (by decide)) (by rfl) (aj (pv 0) (aj au ao))) (fun _ _=>rfl)))
   (aA (aV (i:=4) fZ.nd rfl (Or.inr rfl) (aU dF (hr.mono (by decide)) (by rfl) (aj (pv 0) (aj au ao))))
   (aA (aV (i:=5) fZ.nd rfl (Or.inr rfl) (aU dF (hr.mono (by decide)) (by rfl) (aj (pv 0) (aj au ao))))
   (aA (aV (i:=6) fZ.nd rfl (Or.inl rfl) (aU dF (hr.mono (by decide)) (by rfl) (aj (pv 0) (aj (aJ (aK (K:=K) rfl) (cW (aj au (aj au (aj au ao)))) (bx cX (bx rF (pv 2) au) (bx rF (pv 2) au)) (fun _ _=>rfl)) ao))))
   (aG (bw (fO rfl (N:=["step","bag","hands","cells","loads","apart"]) (own:=["step"]) (caps:=[0,1,3,4,5]) (aQ.of (by kernel_rfl)) (jP (by rfl) Bt.kO (aj (pv 6) ao)) (fun _ _ _ _=>(aP (i:=0) (show List.Nodup (["step","bag","hands","cells","loads","apart"]:List Str) by decide +kernel) rfl (Or.inl rfl))) (fun _ _ _ _=>eE) (fun _ _ _ _=>(aU K4 (hr.mono (by decide)) (by rfl) (aj (pv 1) (aj (pv 2) (aj (pv 3) (aj (pv 4) (aj (pv 5) ao))))))))))))))), ?_⟩
  refine ⟨_,rfl,r,b,32,n,rfl,B0,by (clear hn1 hn0;omega),by decide,by decide,fun sz H1 Bf Bd B1 k1=> ?_⟩;refine ⟨(by show 4<=sizeLine;decide),fun p hp=> ?_⟩;have sp:=aC (o:=HO.lst [V.int 1,V.int 2,V.int 3,V.int 20]) hp;obtain ⟨wL,_⟩:=B1.ne hp;refine ⟨_,rfl,r,b,4,_,rfl,B1.keep sp,by (clear wL hp Bd Bf hn1 hn0;omega),by decide,by decide,fun y H2 y0 y1 B2 k2=> ?_⟩;obtain ⟨cl,ec,c0,c1⟩:=QS y y0 y1;refine ⟨_,_,_,_,rfl,rfl,aW.of (k2 _ _ ak wL),ec, ?_⟩;have kk2:Kp r H H2:=(k1.trans (.of_same sp)).trans k2;refine ⟨_,rfl,r,b,3,_,rfl,B2,by (clear c1 c0 ec y1 y0 wL hp Bd Bf hn1 hn0;omega),by decide,by decide,fun ld H3 qO qN B3 k3=> ?_⟩;refine ⟨_,rfl,r,b,20,_,rfl,B3,by (clear qN qO c1 c0 ec y1 y0 wL hp Bd Bf hn1 hn0;omega),by decide,by decide,fun ap H4 KQ KN B4 k4=> ?_⟩;have kk4:=(kk2.trans k3).trans k4;refine ⟨_,rfl,(by show 3<=sizeLine;decide),fun p2 hp2=> ?_⟩;have OJ:=aC (o:=HO.lst [V.int 31,V.int 101,V.int 301]) hp2;obtain ⟨mn,em,m0,m1⟩:=QT sz Bf Bd;refine ⟨_,rfl,_,_,rfl,rfl,(by show K9 _ 28;exact ⟨by decide,by decide⟩),_,rfl,_,_,rfl,rfl,(by show K9 _ 31;exact ⟨by decide,by decide⟩),_,_,rfl,rfl,_,_,_,_,rfl,rfl,aW.of ak,em,r,b,mn,_,rfl,B4.keep OJ,by (clear m1 m0 em hp2 KN KQ qN qO c1 c0 ec y1 y0 wL hp Bd Bf hn1 hn0;omega),by (clear m1 em hp2 KN KQ qN qO c1 c0 ec y1 y0 wL hp Bd Bf hn1 hn0 nn;omega),by (clear m0 em hp2 KN KQ qN qO c1 c0 ec y1 y0 wL hp Bd Bf hn1 hn0 nn;omega),fun many H5 y0 y1 B5 k5=> ?_⟩;have kk5:=(kk4.trans (.of_same OJ)).trans k5;refine ⟨_,rfl,many,rfl,by (clear y1 m1 m0 em hp2 KN KQ qN qO c1 c0 ec wL hp Bd Bf hn1 hn0 nn;omega),by (clear y0 m0 em hp2 KN KQ qN qO c1 c0 ec wL hp Bd Bf hn1 hn0 nn;omega),fun D hD=> ?_⟩;obtain ⟨ml,rfl⟩:=Int.eq_ofNat_of_zero_le y0;rw [show ((ml:Int)).toNat=ml by (clear y1 y0 hD m1 m0 em hp2 KN KQ qN qO c1 c0 ec wL hp Bd Bf hn1 hn0 nn;omega)];obtain ⟨QM,R7⟩:=B5.ne hD;have mv:∀{H:Hp} {o:HO},Kp r H5 H->Kp r H5 (upd H D o):=fun k c u e m=>by rw [bA (aB e hD)];exact k c u e m
  refine uh (lo:=0) (n:=ml) (fun i σ H6=>(∃v,σ=[v,some (.ref r),some (.int hn),some (.int cl),some (.int ld),some (.int ap)]) /\ ∃ws:List aY,ws.length=i/\(∀x∈ws,jy hn x)/\cC H6 D ws/\Kp r H5 H6/\cR H6 r b (n+1+1+1+1+1+3*i))
   ⟨⟨none,rfl⟩,[],rfl,fun _ z=>absurd z (by simp),⟨[],ak,by simp [aD]⟩,.of_same (aC hD),B5.keep (aC hD)⟩ ?_ ?_
  ·rintro i σ H6 hi ⟨⟨v,rfl⟩,ws,wl,Il,W,k6,B6⟩
   refine ⟨_,rfl,_,rfl,_,rfl,_,rfl,_,rfl,r,b,_,hn,cl,ld,ap,rfl,B6,by (clear wl R7 QM y0 hD m0 em hp2 KN KQ qN qO c1 c0 ec wL hp Bd Bf hn1 hn0;omega),hn0,hn1,c0,c1,qO,qN,fun t x H7 ht0 ht xok B7 k7=> ?_⟩;obtain ⟨vs,hv,dv⟩:=id W;have vl:vs.length=i:=by rw [dv.length,List.length_map,wl]
   have Xn:=k7 _ _ hv QM;have k8:Kp D H7 (upd H7 D (.lst (vs++[V.ref t]))):=Kp.set;have t8:=k8.tups Xn;refine ⟨vs,Xn,by rw [sizeLine_eq];(clear Xn hv ht ht0 wl R7 QM y0 hD m0 em hp2 KN KQ qN qO c1 c0 ec wL hp Bd Bf hn1 hn0 nn;omega),⟨_,rfl⟩,ws++[x],by simp [wl],fun y hy=> ?_,⟨_,ak, ?_⟩,mv (k6.trans k7),(B7.mono (by (clear Xn vl hv ht ht0 wl hi R7 QM y1 y0 hD m1 m0 em hp2 KN KQ qN qO c1 c0 ec wL hp Bd Bf hn1 hn0 nn;omega))).kp k8 QM.symm R7.symm⟩
   ·rcases List.mem_append.mp hy with hy|hy
    ·exact Il y hy
    ·have:y=x:=by simpa using hy
     subst this;exact xok
   ·rw [List.map_append]
    refine aD.append (aD.keep (fun a xs h=>t8 _ _ (B6.tups k7 _ _ h)) _ (aX _ jK _) dv) (tX (w5 (t8 _ _ ht)))
  ·rintro σ H6 ⟨⟨v,rfl⟩,ws,wl,Il,W,k6,B6⟩
   exact k D ws H6 (Kp.new kk5 hD B5.at) W Il (by (clear R7 QM y0 hD m0 em hp2 KN KQ qN qO c1 c0 ec wL hp Bd Bf hn1 hn0 nn;omega)) (B6.mono (by (clear wl R7 QM y0 hD m0 em hp2 KN KQ qN qO c1 c0 ec wL hp Bd Bf hn1 hn0 nn;omega))) (kk5.trans k6)
def mt (x y:aY):Bool:=if x.1=y.1 then false else if x.2.2=y.2.2 then (if x.2.1 = "load" then !decide (y.2.1 = "load") else true) else false
def Qe (K:PySem.W.Frag):Sp:=fun vs H Q _=>∃(a b:Addr) (x y:aY),vs=[.ref a,.ref b]/\H a=some (.tup [.int x.1,.str x.2.1,.int x.2.2])/\H b=some (.tup [.int y.1,.str y.2.1,.int y.2.2])/\Q (.bl (mt x y)) H
theorem M8 {K:PySem.W.Frag} {a b:Addr} {x y:aY} {H:Hp} {Q:VK} (ha:H a=some (.tup [.int x.1,.str x.2.1,.int x.2.2])) (hb:H b=some (.tup [.int y.1,.str y.2.1,.int y.2.2])) (k:Q (.bl (mt x y)) H) {D:Ends} (hD:D.rt=Q):
 (Pz (S5 (tOr (Ds (Dt rEq (Dt (wD K) (yt 0) (tC (.int 0))) (Dt (wD K) (yt 1) (tC (.int 0))))) (Ds (Dt Wv (Dt (wD K) (yt 0) (tC (.int 2))) (Dt (wD K) (yt 1) (tC (.int 2)))))) (PB (tC (.bl false))) Oz)
   (PB (SN (Dt Wv (Dt (wD K) (yt 0) (tC (.int 1))) (tC (.str "load"))) (Dt Wv (Dt (wD K) (yt 1) (tC (.int 1))) (tC (.str "load")))))) D [some (.ref a),some (.ref b)] H:=by
 refine ⟨_,rfl,_,_,_,_,rfl,rfl,cu.of ha,rfl,_,rfl,_,_,_,_,rfl,rfl,cu.of hb,rfl,rfl,_,rfl, ?_⟩;refine kj (fun h1=> ?_) (fun h1=> ?_)
 ·have e:x.1=y.1:=by injection (of_decide_eq_true h1)
  have em:mt x y=false:=by unfold mt;rw [if_pos e]
  refine (show D.rt (.bl false) H from ?_);rw [hD,←em];exact k
 ·have e:¬x.1=y.1:=fun z=>h1 (decide_eq_true (by rw [z]))
  refine ⟨_,rfl,_,_,_,_,rfl,rfl,cu.of ha,rfl,_,rfl,_,_,_,_,rfl,rfl,cu.of hb,rfl,rfl,_,rfl, ?_⟩
  by_cases e2:x.2.2=y.2.2
  ·refine nJ (by rw [e2]) ?_
   refine ⟨_,rfl,_,_,_,_,rfl,rfl,cu.of ha,rfl,rfl,_,rfl, ?_⟩
   by_cases e3:x.2.1 = "load"
   ·refine nJ (by rw [e3]) ?_
    refine ⟨_,rfl,_,_,_,_,rfl,rfl,cu.of hb,rfl,rfl, ?_⟩
    have em:mt x y = !decide (V.str y.2.1=V.str "load"):=by
     unfold mt;rw [if_neg e,if_pos e2,if_pos e3];congr 1;rw [Bool.eq_iff_iff,decide_eq_true_iff,decide_eq_true_iff];exact ⟨fun z=>by rw [z],fun z=>by injection z⟩
    rw [←em,hD];exact k
   ·have ne:¬V.str x.2.1=V.str "load" :=fun z=>e3 (by injection z)
    rw [decide_eq_false ne];refine iJ ?_;have em:mt x y=true:=by unfold mt;rw [if_neg e,if_pos e2,if_neg e3]
    rw [←em,hD];exact k
  ·have ne:¬V.int x.2.2=V.int y.2.2:=fun z=>e2 (by injection z)
   rw [decide_eq_false ne];refine iJ ?_;have em:mt x y=false:=by unfold mt;rw [if_neg e,if_neg e2]
   refine (show D.rt (.bl false) H from ?_);rw [hD,←em];exact k
theorem qM {f:Addr} {fd:FuncData} (F:jU K "touches_meet" "touches_meet" bQ f fd):cY P w K mg base jM 1 f fd ["one","other"] (Qe K):=by
 refine F.ok qJ (fun vs H Q E h=> ?_) (fun cdv A outer s H vs Q E hr h=> ?_)
 ·obtain ⟨a,b,x,y,rfl,_⟩:=h
  rfl
 ·obtain ⟨a,b,x,y,rfl,ha,hb,k⟩:=h
  exact ⟨_,(aA (dH (PW.pt (ql (cF nF (aJ (aL (K:=K) rfl) (pv 0) au (fun _ _=>rfl)) (aJ (aL (K:=K) rfl) (pv 1) au (fun _ _=>rfl)) (bL _)) (nR (cF jQ (aJ (aL (K:=K) rfl) (pv 0) au (fun _ _=>rfl)) (aJ (aL (K:=K) rfl) (pv 1) au (fun _ _=>rfl)) (bL _))))) (aG (bw oK)) bK)
   (aG (bw (Jp (gH jQ (aJ (aL (K:=K) rfl) (pv 0) au (fun _ _=>rfl)) fV (bL _)) (kh (gH jQ (aJ (aL (K:=K) rfl) (pv 1) au (fun _ _=>rfl)) fV (bL _))))))),M8 (K:=K) ha hb k rfl⟩
def Bg (ws:List aY) (i j:Nat):Bool:=match ws[i]?,ws[j]? with |some x,some y=>decide (x.1=y.1)||mt x y|_,_=>false
def gQ (ws:List aY) (i j:Nat):Bool:=decide (i<j)&&Bg ws i j
theorem cA {ws:List aY} {i j:Nat} (h:gQ ws i j=true):i<j/\j<ws.length:=by
 unfold gQ Bg at h;simp only [Bool.and_eq_true,decide_eq_true_eq] at h;refine ⟨h.1, ?_⟩
 by_cases l:j<ws.length
 ·exact l
 ·have e:ws[j]? = none:=by simp;(clear h;omega)
  rw [e] at h;cases ws[i]? <;> simp at h
theorem rJ {vs:List V} {i:Nat} {v:V} (h:vs[i]? = some v):vU vs (i:Int)=some v:=cP h
def Bj (K:PySem.W.Frag):Sp:=fun vs H Q _=>∃(a:Addr) (ws:List aY) (i j:Nat),vs=[.ref a,.int i,.int j]/\cC H a ws/\i<ws.length/\j<ws.length/\Q (.bl (gQ ws i j)) H
theorem BW {f:Addr} {fd:FuncData} (F:jU K "is_step" "is_step" eY f fd) (uK:FnAt P w K mg base 1 "touches_meet" ["one","other"] (Qe K)):cY P w K mg base jM 2 f fd ["web","place","later"] (Bj K):=by
 refine F.ok Bp (fun vs H Q E h=> ?_) (fun cdv A outer s H vs Q E hr h=> ?_)
 ·obtain ⟨a,ws,i,j,rfl,_⟩:=h
  rfl
 ·obtain ⟨a,ws,i,j,rfl,W,hi,hj,k⟩:=h
  refine ⟨_,(aA (dH (cF O8 (pv 1) (pv 2) (bL _)) (aG (bw oK)) bK)
   (aG (bw (Jp (gH nF (aJ (aL (K:=K) rfl) (aJ (aK (K:=K) rfl) (pv 0) (pv 1) (fun _ _=>rfl)) au (fun _ _=>rfl)) (aJ (aL (K:=K) rfl) (aJ (aK (K:=K) rfl) (pv 0) (pv 2) (fun _ _=>rfl)) au (fun _ _=>rfl)) (bL _)) (kh (aU uK (hr.mono (by decide)) (by rfl) (aj (aJ (aK (K:=K) rfl) (pv 0) (pv 1) (fun _ _=>rfl)) (aj (aJ (aK (K:=K) rfl) (pv 0) (pv 2) (fun _ _=>rfl)) ao)))))))), ?_⟩
  refine ⟨_,rfl,_,rfl,_,_,rfl,rfl,_,rfl, ?_⟩
  by_cases l:i<j
  ·rw [decide_eq_false (show ¬(j:Int)<=(i:Int) by omega)]
   refine fK ?_;obtain ⟨x,ex⟩:∃x,ws[i]? = some x:=⟨ws[i],by simp [hi]⟩;obtain ⟨y,ey⟩:∃y,ws[j]? = some y:=⟨ws[j],by simp [hj]⟩;obtain ⟨vs,t1,ha,e1,ht1⟩:=qY W ex;obtain ⟨vs',t2,ha',e2,GK⟩:=qY W ey;have ev:vs=vs':=by rw [ha] at ha';injection ha' with q;injection q
   subst ev;have es:gQ ws i j=(decide (x.1=y.1)||mt x y):=by unfold gQ Bg;rw [ex,ey,decide_eq_true l,Bool.true_and]
   refine ⟨_,rfl,_,rfl,_,_,_,_,rfl,rfl,aW.of ha,rJ e1,_,_,_,_,rfl,rfl,cu.of ht1,rfl,_,rfl,_,rfl,_,_,_,_,rfl,rfl,aW.of ha,rJ e2,_,_,_,_,rfl,rfl,cu.of GK,rfl,rfl,_,rfl, ?_⟩
   by_cases q:x.1=y.1
   ·rw [show decide (V.int x.1=V.int y.1)=true by simp [q]]
    refine iJ ?_;rw [decide_eq_true q,Bool.true_or] at es;rw [←es];exact k
   ·rw [show decide (V.int x.1=V.int y.1)=false by simp [q]]
    refine fK ?_;rw [decide_eq_false q,Bool.false_or] at es;exact ⟨_,rfl,_,rfl,_,_,_,_,rfl,rfl,aW.of ha,rJ e1,_,rfl,_,rfl,_,_,_,_,rfl,rfl,aW.of ha,rJ e2,t1,t2,x,y,rfl,ht1,GK,by rw [←es];exact k⟩
  ·rw [decide_eq_true (show (j:Int)<=(i:Int) by omega)]
   refine iJ ?_;have es:gQ ws i j=false:=by unfold gQ;rw [decide_eq_false l,Bool.false_and]
   rw [←es];exact k
inductive kY (ws:List aY) (j:Nat):Nat->Prop
 | one {i:Nat} (h:gQ ws i j=true):kY ws j i
 | more {i k:Nat} (h:gQ ws i k=true) (r:kY ws j k):kY ws j i
theorem kY.lt {ws:List aY} {i j:Nat} (r:kY ws j i):i<j/\j<ws.length:=by
 induction r with
 | one h=>exact cA h
 | more h _ ih=>exact ⟨Nat.lt_trans (cA h).1 ih.1,ih.2⟩
abbrev Nt:=Int×Int×Int×Int
def nD (x:Nt):PyData:= .tuple [.int x.1,.int x.2.1,.int x.2.2.1,.int x.2.2.2]
def nV (x:Nt):List V:=[.int x.1,.int x.2.1,.int x.2.2.1,.int x.2.2.2]
theorem dW (x:Nt):Ld (nD x)=true:=rfl
theorem tZ {H:Hp} {t:Addr} {x:Nt} (h:H t=some (.tup (nV x))):Dat H (.ref t) (nD x):=by
 simp only [nD,Dat];exact ⟨t,_,rfl,h,by simp only [nV,aD,Dat,and_self]⟩
theorem tY {H:Hp} {v:V} {x:Nt} (h:Dat H v (nD x)):∃t,v = .ref t/\H t=some (.tup (nV x)):=by
 simp only [nD,Dat] at h;obtain ⟨t,vs,e,q,d⟩:=h
 match vs,d with
 | [a,b,c,z],d=>
   simp only [aD,Dat,and_true] at d;obtain ⟨rfl,rfl,rfl,rfl⟩:=d;exact ⟨t,e,q⟩
 | [],d=>simp only [aD] at d
 | [_],d=>simp only [aD,and_false] at d
 | [_,_],d=>simp only [aD,and_false] at d
 | [_,_,_],d=>simp only [aD,and_false] at d
 | _::_::_::_::_::_,d=>simp only [aD,and_false] at d
def fH (H:Hp) (a:Addr) (ns:List Nt):Prop:=∃vs,H a=some (.lst vs)/\aD H vs (ns.map nD)
theorem fH.kp {H H':Hp} {a r:Addr} {ns:List Nt} (h:fH H a ns) (hr:∀a xs,H a=some (HO.tup xs)->H' a=some (HO.tup xs)) (k:Kp r H H') (n:a≠r):fH H' a ns:=by
 obtain ⟨vs,e,d⟩:=h;exact ⟨vs,k _ _ e n,aD.keep hr _ (aX _ dW ns) d⟩
theorem fH.same {H H':Hp} {a:Addr} {ns:List Nt} (h:fH H a ns) (k:Same H H'):fH H' a ns:=by
 obtain ⟨vs,e,d⟩:=h;exact ⟨vs,k _ _ e,aD.keep k.tups _ (aX _ dW ns) d⟩
theorem jB {H:Hp} {vs:List V} {ns:List Nt} {i:Nat} {v:V} (d:aD H vs (ns.map nD)) (e:vs[i]? = some v):∃x t,ns[i]? = some x/\v = .ref t/\H t=some (.tup (nV x)):=by
 obtain ⟨q,eq,dq⟩:=d.get e;rw [List.getElem?_map] at eq;cases ex:ns[i]? with
 | none=>rw [ex] at eq;cases eq
 | some x=>
   rw [ex] at eq;cases eq;obtain ⟨t,rfl,ht⟩:=tY dq;exact ⟨x,t,rfl,rfl,ht⟩
def gI (cs:List Int) (h:Int):Int:=(cs[h.toNat]?).getD 0
theorem dX {cs:List Int} {h:Int} (h0:0<=h) (h1:h<cs.length):vU (cs.map V.int) h=some (.int (gI cs h)):=by
 obtain ⟨m,rfl⟩:=Int.eq_ofNat_of_zero_le h0;have:m<cs.length:=by (clear h0;omega)
 refine cP ?_;simp [gI,this]
theorem eU {cs:List Int} {i:Nat} {c:Int} (h:cs[i]? = some c):gI cs i=c:=by simp [gI,h]
theorem oN {n:Nat} {i:Int} (h0:0<=i) (h1:i<n):Nk n i=some i.toNat:=by unfold Nk;rw [if_pos h0,if_pos h1]
theorem nY {cs:List Int} {h k v:Int} (h0:0<=h) (h1:h<cs.length) (k0:0<=k):gI (cs.set h.toNat v) k=if k=h then v else gI cs k:=by
 unfold gI;rw [List.getElem?_set]
 by_cases e:k=h
 ·subst e
  have:k.toNat<cs.length:=by (clear h0;omega)
  simp [this]
 ·have:¬h.toNat=k.toNat:=by (clear h1;omega)
  simp [e,this]
def KY (cs:List Int) (x:Nt):Prop:=(0<=x.1/\x.1<cs.length)/\(0<=x.2.1/\x.2.1<gI cs x.1)/\(0<=x.2.2.1/\x.2.2.1<cs.length)/\(0<=x.2.2.2/\x.2.2.2<gI cs x.2.2.1)/\x.1≠x.2.2.1
def K7 (cs:List Int):Prop:=cs.length<=8 /\ ∀c∈cs,0<=c/\c<=300
theorem K7.gI {cs:List Int} (h:K7 cs) (i:Int):0<=gI cs i/\gI cs i<=300:=by
 unfold Prf.gI;cases e:cs[i.toNat]? with
 | none=>simp
 | some c=>exact h.2 c (List.mem_of_getElem? e)
abbrev vh:=Int×Int
def pD (x:vh):PyData:= .tuple [.int x.1,.int x.2]
theorem Cu (x:vh):Ld (pD x)=true:=rfl
theorem N8 {H:Hp} {t:Addr} {x:vh} (h:H t=some (.tup [.int x.1,.int x.2])):Dat H (.ref t) (pD x):=by
 simp only [pD,Dat];exact ⟨t,_,rfl,h,by simp only [aD,Dat,and_self]⟩
theorem qx {H:Hp} {v:V} {x:vh} (h:Dat H v (pD x)):∃t,v = .ref t/\H t=some (.tup [.int x.1,.int x.2]):=by
 simp only [pD,Dat] at h;obtain ⟨t,vs,e,q,d⟩:=h
 match vs,d with
 | [a,b],d=>
   simp only [aD,Dat,and_true] at d;obtain ⟨rfl,rfl⟩:=d;exact ⟨t,e,q⟩
 | [],d=>simp only [aD] at d
 | [_],d=>simp only [aD,and_false] at d
 | _::_::_::_,d=>simp only [aD,and_false] at d
def lB (H:Hp) (a:Addr) (ps:List vh):Prop:=∃vs,H a=some (.lst vs)/\aD H vs (ps.map pD)
theorem lB.same {H H':Hp} {a:Addr} {ws:List vh} (h:lB H a ws) (k:Same H H'):lB H' a ws:=by
 obtain ⟨vs,e,d⟩:=h;exact ⟨vs,k _ _ e,aD.keep k.tups _ (aX _ Cu ws) d⟩
theorem lB.kp {H H':Hp} {a r:Addr} {ws:List vh} {ys:List V} (h:lB H a ws) (hr:H r=some (.lst ys)) (k:Kp r H H') (n:a≠r):lB H' a ws:=by
 obtain ⟨vs,e,d⟩:=h;exact ⟨vs,k _ _ e n,aD.keep (k.tups hr) _ (aX _ Cu ws) d⟩
theorem L_ {H:Hp} {vs:List V} {ps:List vh} {i:Nat} {v:V} (d:aD H vs (ps.map pD)) (e:vs[i]? = some v):∃x t,ps[i]? = some x/\v = .ref t/\H t=some (.tup [.int x.1,.int x.2]):=by
 obtain ⟨q,eq,dq⟩:=d.get e;rw [List.getElem?_map] at eq;cases ex:ps[i]? with
 | none=>rw [ex] at eq;cases eq
 | some x=>
   rw [ex] at eq;cases eq;obtain ⟨t,rfl,ht⟩:=qx dq;exact ⟨x,t,rfl,rfl,ht⟩
def cnt (ws:List aY) (h:Int):Int:=((ws.filter fun x=>decide (x.1=h)).length:Int)
theorem b_ (ws:List aY) (x:aY) (h:Int):cnt (ws++[x]) h=if h=x.1 then cnt ws h+1 else cnt ws h:=by
 unfold cnt;rw [List.filter_append,List.length_append]
 by_cases e:h=x.1
 ·subst e;simp
 ·rw [if_neg e]
  have:¬x.1=h:=fun z=>e z.symm;simp [this]
def hnd (ws:List aY) (i:Nat):Int:=match ws[i]? with |some x=>x.1|none=>0
theorem bN {ws:List aY} {i:Nat} {x:aY} (h:ws[i]? = some x):hnd ws i=x.1:=by unfold hnd;rw [h]
def nm (ws:List aY):List vh:=(List.range ws.length).map fun i=>(hnd ws i,cnt (ws.take i) (hnd ws i))
theorem M4 (ws:List aY) (x:aY):nm (ws++[x])=nm ws++[(x.1,cnt ws x.1)]:=by
 unfold nm;rw [List.length_append,List.length_singleton,List.range_succ,List.map_append];congr 1
 ·refine List.map_congr_left fun i hi=> ?_
  have hi':i<ws.length:=by simpa using hi
  unfold hnd;rw [List.getElem?_append_left hi',List.take_append_of_le_length (by omega)]
 ·simp [hnd]
theorem jh (ws:List aY):(nm ws).length=ws.length:=by unfold nm;simp
def rm (K:PySem.W.Frag):Sp:=fun vs H Q _=>∃(a:Addr) (ws:List aY),vs=[.ref a]/\cC H a ws/\ws.length<=1000 /\ ∀(r:Addr) (H':Hp),H r=none->lB H' r (nm ws)->Same H H'->Q (.ref r) H'
theorem JC {f:Addr} {fd:FuncData} (F:jU K "names" "names" i_ f fd):cY P w K mg base jM 1 f fd ["web"] (rm K):=by
 refine F.ok lO (fun vs H Q E h=> ?_) (fun cdv A outer s H vs Q E hr h=> ?_)
 ·obtain ⟨a,ws,rfl,_⟩:=h
  rfl
 ·obtain ⟨a,ws,rfl,W,hlen,k⟩:=h
  have hu:=tK hr
  refine ⟨_,(aA (aV (i:=1) lO.nd rfl (Or.inl rfl) yM)
   (aA (aV (i:=2) lO.nd rfl (Or.inl rfl) (cW ao))
   (aA (jt PassesOwn.never rfl (cI (K:=K) rfl (pv 0)) (aP (i:=3) lO.nd rfl (Or.inl rfl))
   (aA (aV (i:=4) lO.nd rfl (Or.inl rfl) (sS hu (pv 1) (aJ (aL (K:=K) rfl) (pv 3) au (fun _ _=>rfl)) au ⟨rfl,rfl,rfl,rfl⟩))
   (aA (dz (dU (K:=K) rfl (pv 2) (aj (fU (aj (aJ (aL (K:=K) rfl) (pv 3) au (fun _ _=>rfl)) (aj (pv 4) ao))) ao)))
   (aG (wG hu (pv 1) (aJ (aL (K:=K) rfl) (pv 3) au (fun _ _=>rfl)) (bx cX (pv 4) au) rfl)))))
   (aG (bw (pv 2)))))), ?_⟩
  obtain ⟨vs,ha,dv⟩:=id W;have dj:vs.length=ws.length:=by rw [dv.length,List.length_map]
  intro d hd;have Wj:=aC (o:=HO.dK []) hd;refine ⟨(by show 0<=sizeLine;decide),fun p hp=> ?_⟩;have YC:=aC (o:=HO.lst []) hp;have M6:d≠p:=aB ak hp;have hp0:H p=none:=Wj.free hp
  refine ⟨_,rfl,a,rfl,⟨_,aW.of (YC _ _ (Wj _ _ ha))⟩,mz (K:=K) (a:=a) (xs:=vs) (fun i σ H2=>∃(kvs:List (Key×V)) (x1 x2:Option V),σ=[some (.ref a),some (.ref d),some (.ref p),x1,x2]/\Same H H2 /\
   H2 d=some (.dK kvs)/\kvs.length<=i/\(∀h:Int,(gW kvs (Sum.inl h)).getD (.int 0) = .int (cnt (ws.take i) h))/\lB H2 p (nm (ws.take i)))
   ⟨[],none,none,rfl,Wj.trans YC,YC _ _ ak,Nat.zero_le _,fun h=>rfl,⟨[],ak,by simp only [List.take_zero,nm,List.length_nil,List.range_zero,List.map_nil,aD]⟩⟩ (fun i σ H2 _ ⟨_,_,_,_,sm,_⟩=>aW.of (sm _ _ ha)) ?_ ?_⟩
  ·rintro i y σ H2 hi ⟨kvs,x1,x2,rfl,sm,hd2,kl,hval,PA⟩
   have hil:i<ws.length:=by have:=(List.getElem?_eq_some_iff.mp hi).1;(clear kl hd2 hi hp0 M6 hp hd ha hu hlen;omega)
   obtain ⟨x,ex⟩:∃x,ws[i]? = some x:=⟨ws[i],by simp [hil]⟩;obtain ⟨dd,ed,dy⟩:=dv.get hi;rw [List.getElem?_map,ex] at ed;cases ed;obtain ⟨t,rfl,ht⟩:=gb dy;have GK:H2 t=some (.tup [.int x.1,.str x.2.1,.int x.2.2]):=sm.tups _ _ ht;have tk:ws.take (i+1)=ws.take i++[x]:=by rw [List.take_add_one,ex];rfl
   have Fy:(ws.take i).length=i:=by rw [List.length_take];(clear tk GK hi ht ex kl hd2 hp0 M6 hp hd dj ha hu hlen;omega)
   refine ⟨_,rfl,d,rfl,.inl ⟨_,.inl hd2⟩,_,rfl,_,_,_,_,rfl,rfl,cu.of GK,rfl,_,nZ.k (k:=Sum.inl x.1) hd2, ?_⟩;rw [hval x.1];obtain ⟨ts,hts,Pn⟩:=id PA;refine ⟨_,rfl,.inl ⟨rfl,_,aW.of hts⟩,_,rfl,_,_,_,_,rfl,rfl,cu.of GK,rfl,_,rfl,(by show 2<=sizeLine;decide),fun q hq=> ?_⟩;have sm3:=aC (o:=HO.tup [V.int x.1,V.int (cnt (ws.take i) x.1)]) hq;have zG:=sm3 _ _ hts;have Dr:ts.length=i:=by rw [Pn.length,List.length_map,jh,Fy]
   refine ⟨p,ts,_,rfl,rfl,zG,(by rw [Dr,sizeLine_eq];(clear Dr zG hq hts Fy tk GK hi ht ex kl hd2 hp0 M6 hp hd dj ha hu;omega)), ?_⟩;have Gx:Kp p (upd H2 q (HO.tup [V.int x.1,V.int (cnt (ws.take i) x.1)])) (upd (upd H2 q (HO.tup [V.int x.1,V.int (cnt (ws.take i) x.1)])) p (HO.lst (ts++[V.ref q]))):=Kp.set;have Lh:=Gx _ _ (sm3 _ _ hd2) M6;refine ⟨_,rfl,_,_,rfl,rfl,_,rfl,_,rfl,_,_,_,_,rfl,rfl,cu.of (Gx.tups zG _ _ (sm3.tups _ _ GK)),rfl,d,_,rfl,xV.k (k:=Sum.inl x.1) Lh (FJ (by (clear Lh Dr zG hq hts Fy tk GK hi ht ex hd2 hp0 M6 hp hd dj ha hu;omega))), ?_⟩;refine ⟨putK kvs (Sum.inl x.1) (V.int (cnt (ws.take i) x.1+1)),_,_,rfl, ?_,ak, ?_,fun h=> ?_, ?_⟩
   ·intro b o e
    have nb:b≠p:=aB e hp0;have nb2:b≠d:=aB e hd;rw [bA nb2];exact Gx b o (sm3 b o (sm b o e)) nb
   ·exact Nat.le_trans (iH ..) (by (clear Lh Dr zG hq hts Fy tk GK hi ht ex hil hd2 hp0 M6 hp hd dj ha hu hlen;omega))
   ·rw [rN,tk,b_]
    by_cases e:h=x.1
    ·subst e
     rw [if_pos rfl,if_pos rfl];rfl
    ·rw [if_neg (fun z=>e (Sum.inl.inj z)),if_neg e]
     exact hval h
   ·rw [tk,M4]
    have kd2:Kp d (upd (upd H2 q (HO.tup [V.int x.1,V.int (cnt (ws.take i) x.1)])) p (HO.lst (ts++[V.ref q]))) (upd (upd (upd H2 q (HO.tup [V.int x.1,V.int (cnt (ws.take i) x.1)])) p (HO.lst (ts++[V.ref q]))) d (HO.dK (putK kvs (Sum.inl x.1) (V.int (cnt (ws.take i) x.1+1))))):=Kp.set
    have SJ:∀a xs,(upd H2 q (HO.tup [V.int x.1,V.int (cnt (ws.take i) x.1)])) a=some (HO.tup xs)->(upd (upd (upd H2 q (HO.tup [V.int x.1,V.int (cnt (ws.take i) x.1)])) p (HO.lst (ts++[V.ref q]))) d (HO.dK (putK kvs (Sum.inl x.1) (V.int (cnt (ws.take i) x.1+1))))) a=some (HO.tup xs):=fun a xs hx=>
     kd2.tups' Lh _ _ (Gx.tups zG _ _ hx)
    refine ⟨_,kd2 _ _ ak M6.symm, ?_⟩;rw [List.map_append];refine aD.append (aD.keep (fun a xs hx=>SJ a xs (sm3.tups _ _ hx)) _ (aX _ Cu _) Pn) (tX (N8 (x:=(x.1,cnt (ws.take i) x.1)) ?_));exact kd2 _ _ (Gx _ _ ak (k_ ak zG (by intro z;cases z))) (k_ (Gx _ _ ak (k_ ak zG (by intro z;cases z))) Lh (by intro z;cases z))
  ·rintro σ H2 ⟨kvs,x1,x2,rfl,sm,hd2,kl,hval,PA⟩
   rw [dj,List.take_length] at PA;exact ⟨_,rfl,k p H2 hp0 PA sm⟩
theorem Jd {ws:List aY} {j m:Nat} (r:kY ws j m):∃i,gQ ws i j=true/\(m=i\/kY ws i m):=by
 induction r with
 | one h=>exact ⟨_,h,.inl rfl⟩
 | more h _ ih=>
   obtain ⟨i,st,q⟩:=ih;refine ⟨i,st,.inr ?_⟩;rcases q with rfl|q
   ·exact .one h
   ·exact .more h q
theorem Jc {ws:List aY} {i j m:Nat} (st:gQ ws i j=true) (r:kY ws i m):kY ws j m:=by
 induction r with
 | one h=>exact .more h (.one st)
 | more h _ ih=>exact .more h ih
theorem gM (ws:List aY) (h:Int) (i:Nat):∀d:Nat,cnt (ws.take i) h<=cnt (ws.take (i+d)) h
 | 0=>Int.le_refl _
 | d+1=>by
   have ih:=gM ws h i d;have e:ws.take (i+(d+1))=ws.take (i+d)++(ws[i+d]?).toList:=by rw [←Nat.add_assoc,List.take_add_one]
   rw [e];cases ws[i+d]? with
   | none=>simpa using ih
   | some x=>
     show _<=cnt (ws.take (i+d)++[x]) h;rw [b_];split<;>(clear e;omega)
theorem dG (ws:List aY) (h:Int):0<=cnt ws h:=by unfold cnt;omega
theorem nT {ws:List aY} {i:Nat} {x:aY} (e:ws[i]? = some x):(nm ws)[i]? = some (x.1,cnt (ws.take i) x.1):=by
 have:i<ws.length:=(List.getElem?_eq_some_iff.mp e).1;unfold nm;rw [List.getElem?_map,List.getElem?_range this];simp only [Option.map_some,bN e]
theorem wH {H:Hp} {a:Addr} {ps:List vh} {i:Nat} {x:vh} (h:lB H a ps) (e:ps[i]? = some x):∃vs t,H a=some (.lst vs)/\vs[i]? = some (.ref t)/\H t=some (.tup [.int x.1,.int x.2]):=by
 obtain ⟨vs,ha,d⟩:=h;obtain ⟨v,ev,dv⟩:=d.getD (i:=i) (d:=pD x) (by rw [List.getElem?_map,e];rfl);obtain ⟨t,rfl,ht⟩:=qx dv;exact ⟨vs,t,ha,ev,ht⟩
def mx (a b:Int):Int:=if b>a then b else a
theorem Ed {c a b:Int}:c<mx a b↔c<a\/c<b:=by unfold mx;split<;>omega
theorem T7 {a b:Int} (h:0<=a):0<=mx a b:=by unfold mx;split<;>omega
def wk (K:PySem.W.Frag):Sp:=fun vs H Q _=>∃(t d:Addr) (h k:Int) (g:Int->Int),vs=[.ref t,.ref d]/\H t=some (.tup [.int h,.int k])/\iW H d g/\Q (.bl (decide (k<g h))) H
theorem JG {f:Addr} {fd:FuncData} (F:jU K "is_known" "is_known" dN f fd):cY P w K mg base jM 1 f fd ["name","known"] (wk K):=by
 refine F.ok yE (fun vs H Q E h=> ?_) (fun cdv A outer s H vs Q E hr h=> ?_)
 ·obtain ⟨t,d,h,k,g,rfl,_⟩:=h
  rfl
 ·obtain ⟨t,d,h,k,g,rfl,ht,kd,q⟩:=h
  have hu:=tK hr;refine ⟨_,(aG (bw (gH sV (aJ (aL (K:=K) rfl) (pv 0) au (fun _ _=>rfl)) (sS hu (pv 1) (aJ (aL (K:=K) rfl) (pv 0) au (fun _ _=>rfl)) au ⟨rfl,rfl,rfl,rfl⟩) (bL _)))), ?_⟩;obtain ⟨kvs,hd,_,val⟩:=kd.get;refine ⟨_,rfl,_,_,_,_,rfl,rfl,cu.of ht,rfl,_,rfl,d,rfl,.inl ⟨_,.inl hd⟩,_,rfl,_,_,_,_,rfl,rfl,cu.of ht,rfl,_,nZ.k (k:=Sum.inl h) hd, ?_⟩;rw [val h];exact ⟨_,_,rfl,rfl,q⟩
def wj (K:PySem.W.Frag):Sp:=fun vs H Q _=>∃(d m:Addr) (g1 g2:Int->Int),vs=[.ref d,.ref m]/\iW H d g1/\iW H m g2/\d≠m /\ ∀H',iW H' d (fun h=>mx (g1 h) (g2 h))->Kp d H H'->Q .non H'
def Sh (hs:List Int) (g1 g2:Int->Int):Int->Int:=fun h=>if h∈hs then mx (g1 h) (g2 h) else g1 h
theorem JF {f:Addr} {fd:FuncData} (F:jU K "learn" "learn" jc f fd) (Bt:qI mg):cY P w K mg base jM 1 f fd ["known","more"] (wj K):=by
 refine F.ok yC (fun vs H Q E h=> ?_) (fun cdv A outer s H vs Q E hr h=> ?_)
 ·obtain ⟨d,m,g1,g2,rfl,_⟩:=h
  rfl
 ·obtain ⟨d,m,g1,g2,rfl,k1,k2,ne,q⟩:=h
  have hu:=tK hr
  refine ⟨_,(aG (LR (jt PassesOwn.never rfl (Ml (pv 1)) (aP (i:=2) yC.nd rfl (Or.inl rfl))
   (aG (wG hu (pv 0) (pv 2) (aO (nj rfl) (by rfl) Bt.Fe xu (aj (sS hu (pv 0) (pv 2) au ⟨rfl,rfl,rfl,rfl⟩) (aj (wJ hu (pv 1) (pv 2) (fun _ _=>rfl)) ao))) rfl))))), ?_⟩
  obtain ⟨hs,hm,nd,rg,zz⟩:=k2.ex;refine ⟨_,rfl,m,_,rfl,hm,fun o=> ?_⟩;have kf:Kp m H (upd H m (.lF o (.dK (uY hs g2)))):=Kp.set
  refine J9 (fun i σ H2=>∃v:Option V,σ=[some (.ref d),some (.ref m),v]/\iW H2 d (Sh (hs.take i) g1 g2)/\H2 m=some (.lF o (.dK (uY hs g2)))/\Kp d (upd H m (.lF o (.dK (uY hs g2)))) H2)
   ⟨none,rfl,(k1.kp kf ne).ext (fun h=>by simp [Sh]),ak,Kp.refl _ _⟩ (fun i σ H2 _ ⟨_,_,_,e,_⟩=>e) ?_ ?_
  ·rintro i kk v σ H2 hi ⟨x,rfl,kd,fz,kp⟩
   have hi':(uY hs g2)[i]? = some (kk,v):=hi;unfold uY at hi';rw [List.getElem?_map] at hi';cases eh:hs[i]? with
   | none=>rw [eh] at hi';cases hi'
   | some h=>
     rw [eh] at hi';cases hi';have hm':h∈hs:=List.mem_of_getElem? eh;obtain ⟨h0,h1⟩:=rg h hm';have tk:hs.take (i+1)=hs.take i++[h]:=by rw [List.take_add_one,eh];rfl
     have nin:h∉hs.take i:=by
      intro z;have:(hs.take i++[h]).Nodup:=by rw [←tk];exact nd.sublist (List.take_sublist _ _)
      rw [List.nodup_append] at this;exact this.2.2 h z h (by simp) rfl
     obtain ⟨kvs,hd2,_,val⟩:=kd.get;have gi:Sh (hs.take i) g1 g2 h=g1 h:=by unfold Sh;rw [if_neg nin]
     refine ⟨_,rfl,d,rfl,.inl ⟨_,.inl hd2⟩,_,rfl,_,nZ.k (k:=Sum.inl h) hd2, ?_⟩;rw [val h,gi];have gm:nZ H2 m (kV (Sum.inl h)) (some (V.int (g2 h))):= .inl ⟨_,Sum.inl h,.inr ⟨o,fz⟩,rfl,by rw [wQ,if_pos hm']⟩;refine ⟨_,rfl,_,rfl,m,_,rfl,gm,_,_,rfl, ?_⟩;obtain ⟨kvs',Nr,hz,put⟩:=kd.put (v:=mx (g1 h) (g2 h)) h0 h1 (T7 (k1.nn h));refine ⟨_,rfl,_,rfl,d,_,rfl,xV.k (k:=Sum.inl h) Nr hz, ?_⟩;refine ⟨_,rfl,(put _ ak).ext fun x=> ?_,by rw [bA ne.symm];exact fz,kp.trans Kp.set⟩;unfold zN Sh;rw [tk]
     by_cases e:x=h
     ·subst e;simp
     ·simp [e]
  ·rintro σ H2 ⟨x,rfl,kd,fz,kp⟩
   refine ⟨_,⟨m,_,o,_,hm,fz,rfl⟩, ?_⟩;have kt:Kp m H2 (upd H2 m (.dK (uY hs g2))):=Kp.set;refine q _ ((kd.kp kt ne).ext fun h=> ?_) fun b u e nb=> ?_
   ·have el:hs.take (uY hs g2).length=hs:=by rw [uY,List.length_map,List.take_length]
    rw [el];unfold Sh
    by_cases hh:h∈hs
    ·rw [if_pos hh]
    ·rw [if_neg hh,zz h hh]
     have:=k1.nn h;unfold mx;rw [if_neg (by (clear hh el fz hm hu ne;omega))]
   ·by_cases eb:b=m
    ·subst eb
     rw [hm] at e;rw [ak];exact e
    ·rw [bA eb]
     exact kp _ _ (by rw [bA eb];exact e) nb
def Oo (ws:List aY) (g:Int->Int) (R:Nat->Prop):Prop:=∀m x,ws[m]? = some x->(cnt (ws.take m) x.1<g x.1↔R m)
def RQ (ws:List aY) (j:Nat) (g:Int->Int):Prop:=Oo ws g (fun m=>m=j\/kY ws j m) /\ ∀h,g h<=cnt (ws.take (j+1)) h
def yd (ws:List aY) (j lo m:Nat):Prop:=∃x,lo<=x/\gQ ws x j=true/\(m=x\/kY ws x m)
def Bare (ws:List aY) (j e:Nat):Prop:=gQ ws e j=true /\ ¬yd ws j (e+1) e
noncomputable instance (ws:List aY) (j e:Nat):Decidable (Bare ws j e):=Classical.propDecidable _
theorem FW {ws:List aY} {a b c:Nat} (h:kY ws b a) (g:kY ws c b):kY ws c a:=by
 induction h with
 | one h=>exact .more h g
 | more h _ ih=>exact .more h ih
theorem Oo.iff {ws:List aY} {g:Int->Int} {R S:Nat->Prop} (h:Oo ws g R) (e:∀m,R m↔S m):Oo ws g S:=fun m x ex=>(h m x ex).trans (e m)
theorem z6 {ws:List aY} {j e m:Nat} (h:¬gQ ws e j=true):yd ws j (e+1) m↔yd ws j e m:=by
 constructor
 ·rintro ⟨x,a,b,c⟩
  exact ⟨x,by omega,b,c⟩
 ·rintro ⟨x,a,b,c⟩
  have:x≠e:=fun z=>h (z▸b);exact ⟨x,by omega,b,c⟩
theorem G6 {ws:List aY} {j e m:Nat} (k:yd ws j (e+1) e):yd ws j (e+1) m↔yd ws j e m:=by
 constructor
 ·rintro ⟨x,a,b,c⟩
  exact ⟨x,by omega,b,c⟩
 ·rintro ⟨x,a,b,c⟩
  by_cases z:x=e
  ·subst z
   obtain ⟨y,y1,y2,y3⟩:=k;have r:kY ws y x:=y3.resolve_left (by (clear y3 y2 a c b;omega));rcases c with c|c
   ·subst c;exact ⟨y,y1,y2,.inr r⟩
   ·exact ⟨y,y1,y2,.inr (FW c r)⟩
  ·exact ⟨x,by omega,b,c⟩
theorem Et {ws:List aY} {j e m:Nat} (h:gQ ws e j=true):(yd ws j (e+1) m\/(m=e\/kY ws e m))↔yd ws j e m:=by
 constructor
 ·rintro (⟨x,a,b,c⟩|c)
  ·exact ⟨x,by omega,b,c⟩
  ·exact ⟨e,Nat.le_refl _,h,c⟩
 ·rintro ⟨x,a,b,c⟩
  by_cases z:x=e
  ·subst z;exact .inr c
  ·exact .inl ⟨x,by (clear c b h;omega),b,c⟩
theorem Ng {ws:List aY} {g g':Int->Int} {R S:Nat->Prop} (h:Oo ws g R) (h':Oo ws g' S):Oo ws (fun x=>mx (g x) (g' x)) fun m=>R m\/S m:=fun m x ex=>by
 show cnt _ _<mx _ _↔_;rw [Ed,h m x ex,h' m x ex]
theorem Es {ws:List aY} {j m:Nat}:yd ws j 0 m↔kY ws j m:=by
 constructor
 ·rintro ⟨x,_,b,c|c⟩
  ·subst c;exact .one b
  ·exact Jc b c
 ·intro r
  obtain ⟨i,s,q⟩:=Jd r;exact ⟨i,Nat.zero_le _,s,q⟩
theorem Nf {ws:List aY} {j:Nat} {y:aY} {g:Int->Int} (h:Oo ws g (kY ws j)) (bd:∀h,g h<=cnt (ws.take j) h) (ey:ws[j]? = some y):RQ ws j (fun x=>mx (g x) (if x=y.1 then cnt (ws.take j) y.1+1 else 0)):=by
 have tk:ws.take (j+1)=ws.take j++[y]:=by rw [List.take_add_one,ey];rfl
 refine ⟨?_,fun h=> ?_⟩
 rotate_left
 ·have b1:=bd h
  have b2:=dG (ws.take j) h;rw [tk,b_];show mx _ _<=_;unfold mx
  by_cases e:h=y.1
  ·rw [if_pos e,if_pos e];subst e;split<;>(clear b2 tk ey;omega)
  ·rw [if_neg e,if_neg e];split<;>(clear e tk ey;omega)
 intro m x ex;show cnt _ _<mx _ _↔_;rw [Ed,h m x ex]
 by_cases e:x.1=y.1
 ·rw [if_pos e]
  constructor
  ·rintro (z|z)
   ·exact .inr z
   ·rw [e] at z
    by_cases l:m<=j
    ·by_cases em:m=j
     ·exact .inl em
     ·refine .inr (.one ?_)
      unfold gQ Bg;rw [ex,ey,decide_eq_true (show m<j by (clear z e ex tk ey;omega))];simp [e]
    ·have:=gM ws y.1 (j+1) (m - (j+1))
     rw [show j+1+(m - (j+1))=m by (clear this z e ex tk ey;omega)] at this;have t:ws.take (j+1)=ws.take j++[y]:=by rw [List.take_add_one,ey];rfl
     rw [t,b_,if_pos rfl] at this;omega
  ·rintro (z|z)
   ·subst z
    rw [e];exact .inr (by (clear tk ey e ex;omega))
   ·exact .inl z
 ·rw [if_neg e]
  constructor
  ·rintro (z|z)
   ·exact .inr z
   ·have:=dG (ws.take m) x.1;(clear e ex tk ey;omega)
  ·rintro (z|z)
   ·subst z
    rw [ex] at ey;cases ey;exact absurd rfl e
   ·exact .inl z
def qH (H:Hp) (kn:Addr) (ws:List aY) (n:Nat):Prop:=∃rs:List Addr,H kn=some (.lst (rs.map V.ref))/\rs.length=n /\ ∀j r,rs[j]? = some r -> ∃g,iW H r g/\RQ ws j g
theorem qH.same {H H':Hp} {kn:Addr} {ws:List aY} {n:Nat} (h:qH H kn ws n) (k:Same H H'):qH H' kn ws n:=by
 obtain ⟨rs,e,l,q⟩:=h;refine ⟨rs,k _ _ e,l,fun j r hj=> ?_⟩;obtain ⟨g,a,b⟩:=q j r hj;exact ⟨g,a.same k,b⟩
theorem qH.kp {H H':Hp} {kn r:Addr} {ys:List V} {ws:List aY} {n:Nat} (h:qH H kn ws n) (k:Kp r H H') (hr:H r=some (.lst ys)) (ne:kn≠r):qH H' kn ws n:=by
 obtain ⟨rs,e,l,q⟩:=h;refine ⟨rs,k _ _ e ne,l,fun j r' hj=> ?_⟩;obtain ⟨g,a,b⟩:=q j r' hj;obtain ⟨hs,e',_⟩:=a.ex;exact ⟨g,a.kp k (k_ e' hr (by intro z;cases z)),b⟩
noncomputable def bC (ws:List aY) (j i:Nat):List Nat:=((List.range i).map fun t=>j - 1 - t).filter fun e=>decide (Bare ws j e)
theorem uG (ws:List aY) (j i:Nat):bC ws j (i+1)=bC ws j i++(if Bare ws j (j - 1 - i) then [j - 1 - i] else []):=by
 unfold bC;rw [List.range_succ,List.map_append,List.filter_append];congr 1
 by_cases h:Bare ws j (j - 1 - i)<;>simp [h]
theorem nq (ws:List aY) (j i:Nat):(bC ws j i).length<=i:=by
 unfold bC;exact Nat.le_trans (List.length_filter_le _ _) (by simp)
def lA (l:List Nat):List V:=l.map fun n:Nat=>V.int (n:Int)
def Bl (K:PySem.W.Frag):Sp:=fun vs H Q _=>∃(a nd kn:Addr) (ws:List aY) (j:Nat),vs=[.ref a,.ref nd,.ref kn,.int j]/\cC H a ws/\lB H nd (nm ws)/\qH H kn ws j/\j<ws.length/\ws.length<=300/\(∀x∈ws,0<=x.1/\x.1<8) /\
 ∀(p b d:Addr) (g:Int->Int) (H':Hp),H' p=some (.tup [.ref b,.ref d])->H' b=some (.lst (lA (bC ws j j)))->iW H' d g->RQ ws j g->H b=none->H d=none->H p=none->Same H H'->Q (.ref p) H'
theorem Q7 {H:Hp} {d:Addr} (h:H d=some (.dK [])):iW H d fun _=>0:=⟨⟨[],h,List.nodup_nil,fun _ z=>absurd z (by simp),fun _ _=>rfl⟩,fun _=>Int.le_refl _⟩
theorem Mz {f:Addr} {fd:FuncData} (F:jU K "bare_steps" "bare_steps" cO f fd) (Hw:FnAt P w K mg base 2 "is_step" ["web","place","later"] (Bj K)) (Dm:FnAt P w K mg base 1 "is_known" ["name","known"] (wk K)) (Fj:FnAt P w K mg base 1 "learn" ["known","more"] (wj K)) (Bt:qI mg):cY P w K mg base jM 3 f fd ["web","named","knowns","place"] (Bl K):=by
 refine F.ok iw (fun vs H Q E h=> ?_) (fun cdv A outer s H vs Q E hr h=> ?_)
 ·obtain ⟨a,nd,kn,ws,j,rfl,_⟩:=h
  rfl
 ·obtain ⟨a,nd,kn,ws,j,rfl,W,N,Kn,jl,wl,xY,k⟩:=h
  have hu:=tK hr
  refine ⟨_,(aA (aV (i:=4) iw.nd rfl (Or.inl rfl) (cW ao))
   (aA (aV (i:=5) iw.nd rfl (Or.inl rfl) yM)
   (aA (jt PassesOwn.never rfl (vD (by rfl) Bt.kO (aj (bx pR (pv 3) au) (aj (DY vY au) (aj (DY vY au) ao)))) (aP (i:=6) iw.nd rfl (Or.inl rfl))
   (aG (dH (PW.pt (wF (cV (aU Hw (hr.mono (by decide)) (by rfl) (aj (pv 0) (aj (pv 6) (aj (pv 3) ao))))) (rC (eO (cV (aU Dm (hr.mono (by decide)) (by rfl) (aj (aJ (aK (K:=K) rfl) (pv 1) (pv 6) (fun _ _=>rfl)) (aj (pv 5) ao)))))))) (aA (dz (dU (K:=K) rfl (pv 4) (aj (pv 6) ao)))
   (aG (dz (aU Fj (hr.mono (by decide)) (by rfl) (aj (pv 5) (aj (aJ (aK (K:=K) rfl) (pv 2) (pv 6) (fun _ _=>rfl)) ao)))))) bK)))
   (aA (dz (aU Fj (hr.mono (by decide)) (by rfl) (aj (pv 5) (aj (Mr (Jj (aJ (aL (K:=K) rfl) (aJ (aK (K:=K) rfl) (pv 1) (pv 3) (fun _ _=>rfl)) au (fun _ _=>rfl)) (bx cX (aJ (aL (K:=K) rfl) (aJ (aK (K:=K) rfl) (pv 1) (pv 3) (fun _ _=>rfl)) au (fun _ _=>rfl)) au) Ma) rfl rfl (by simp) (by decide)) ao))))
   (aG (bw (fU (aj (pv 4) (aj (pv 5) ao))))))))), ?_⟩
  refine ⟨(by show 0<=sizeLine;decide),fun b hb=> ?_⟩;have s1:=aC (o:=HO.lst []) hb;intro d hd;have s2:=aC (o:=HO.dK []) hd;have s12:=s1.trans s2;have hd0:H d=none:=s1.free hd;have zc:b≠d:=aB ak hd;refine ⟨_,rfl,_,_,rfl,rfl,_,rfl,_,rfl,(j:Int) - 1, -1,rfl,⟨by (clear zc hd0 hd hb hu wl jl;omega),by (clear zc hd0 hd hb hu;omega),by (clear zc hd0 hd hb hu wl jl;omega),by (clear zc hd0 hd hb hu wl jl;omega)⟩, ?_⟩;have en:((j:Int) - 1 - (-1)).toNat=j:=by (clear zc hd0 hd hb hu wl jl;omega)
  rw [en]
  refine tR (hi:=(j:Int) - 1) (n:=j) (fun i σ H2=>∃(x1:Option V) (g:Int->Int),σ=[some (.ref a),some (.ref nd),some (.ref kn),some (.int j),some (.ref b),some (.ref d),x1]/\Same H H2/\H2 b=some (.lst (lA (bC ws j i)))/\iW H2 d g/\Oo ws g (yd ws j (j - i)) /\ ∀h,g h<=cnt (ws.take j) h)
   ⟨none,fun _=>0,rfl,s12,s2 _ _ (by rw [ak];rfl),Q7 ak,⟨fun m x ex=>⟨fun z=> ?_,fun ⟨x,x1,x2,_⟩=> ?_⟩,fun h=>dG _ _⟩⟩ ?_ ?_
  ·have:=dG (ws.take m) x.1
   have z:cnt (ws.take m) x.1<0:=z;omega
  ·have:=(cA x2).1
   omega
  ·rintro i σ H2 hi ⟨x1,g,rfl,sm,hb2,kd,kp,bd⟩
   have ee:(j:Int) - 1 - (i:Int)=((j - 1 - i:Nat):Int):=by (clear hb2 en zc hd0 hd hb hu wl jl;omega)
   rw [ee];have bs:=uG ws j i;have bl:=nq ws j i;generalize he:j - 1 - i=e at bs;have el:e<ws.length:=by (clear bs bl ee hb2 hi en zc hd0 hd hb hu wl;omega)
   have e1:j - i=e+1:=by (clear el bs bl ee hb2 en zc hd0 hd hb hu wl jl;omega)
   have e2:j - (i+1)=e:=by (clear e1 el bs bl ee hb2 hi en zc hd0 hd hb hu wl jl;omega)
   rw [e1] at kp;rw [e2];obtain ⟨x,ex⟩:∃x,ws[e]? = some x:=⟨ws[e],by simp [el]⟩;refine ⟨_,rfl,_,rfl,_,rfl,a,ws,e,j,rfl,W.same sm,el,jl,_,rfl, ?_⟩
   by_cases st:gQ ws e j=true
   ·rw [st]
    refine iJ ?_;obtain ⟨ns,t,hn,en,ht⟩:=wH (N.same sm) (nT ex);refine ⟨_,rfl,_,rfl,_,_,_,_,rfl,rfl,aW.of hn,cP en,_,rfl,t,d,_,_,g,rfl,ht,kd,_,rfl, ?_⟩;have kx:=kp e x ex
    by_cases kk:yd ws j (e+1) e
    ·rw [decide_eq_true (kx.mpr kk)]
     refine fK ?_;have nb:¬Bare ws j e:=fun z=>z.2 kk;rw [if_neg nb,List.append_nil] at bs;exact ⟨_,g,rfl,sm,by rw [bs];exact hb2,kd,kp.iff fun m=>G6 kk,bd⟩
    ·rw [decide_eq_false (fun z=>kk (kx.mp z))]
     refine iJ ?_;have nb:Bare ws j e:=⟨st,kk⟩;rw [if_pos nb] at bs;refine ⟨_,rfl,.inl ⟨rfl,_,aW.of hb2⟩,_,rfl,b,_,_,rfl,rfl,hb2,by rw [lA,List.length_map,sizeLine_eq];(clear kk kx ht en hn st ex e2 e1 el bs he ee hb2 zc hd0 hd hb hu;omega), ?_⟩;have k3:Kp b H2 (upd H2 b (.lst (lA (bC ws j i)++[V.int (e:Int)]))):=Kp.set;obtain ⟨rs,hk,rl,rq⟩:=id (Kn.same sm);have er:e<rs.length:=by (clear hk kk kx ht en hn st ex e2 e1 el bs bl ee hb2 zc hd0 hd hb hu wl jl;omega)
     obtain ⟨r,err⟩:∃r,rs[e]? = some r:=⟨rs[e],by simp [er]⟩;obtain ⟨ge,kde,kne⟩:=rq e r err
     have nkb:kn≠b:=by
      obtain ⟨_,hk0,_⟩:=Kn;exact aB hk0 hb
     obtain ⟨_,Rh,_⟩:=kde.ex;have nrb:r≠b:=k_ Rh hb2 (by intro z;cases z)
     have nrd:d≠r:=by
      obtain ⟨rs0,hk0,_,rq0⟩:=Kn
      have er0:rs=rs0:=by
       have:=(sm _ _ hk0).symm.trans hk;injection this with this
       injection this with this
       exact (List.map_inj_right (fun x y e=>by injection e)).mp this.symm
      subst er0;obtain ⟨g0,kd0,_⟩:=rq0 e r err;obtain ⟨_,h0,_⟩:=kd0.ex;exact (aB h0 hd0).symm
     have hk3:=k3 _ _ hk nkb;have kd3:=kd.kp k3 zc.symm;have abA:=kde.kp k3 nrb;refine ⟨_,rfl,_,rfl,_,rfl,_,_,_,_,rfl,rfl,aW.of hk3,cP (by rw [List.getElem?_map,err];rfl),d,r,g,ge,rfl,kd3,abA,nrd,fun H4 kd4 k4=> ?_⟩;refine ⟨_,_,rfl,fun y u hy=>k4 _ _ (k3 _ _ (sm _ _ hy) (aB hy hb)) (aB hy hd0), ?_,kd4, ?_,fun h=> ?_⟩
     ·have:=k4 _ _ (ak (H:=H2) (a:=b) (o:= .lst (lA (bC ws j i)++[V.int (e:Int)]))) zc
      rw [this,bs];unfold lA;rw [List.map_append];rfl
     ·exact (Ng kp kne.1).iff fun m=>Et st
     ·have b1:=bd h
      have b2:=kne.2 h;have b3:=gM ws h (e+1) (j - (e+1));rw [show e+1+(j - (e+1))=j by (clear b3 b2 b1 hk3 nrd nrb Rh nkb err er rl hk kk kx ht en hn st ex e2 e1 el bs bl ee hb2 zc hd0 hd hb hu wl jl;omega)] at b3;show mx _ _<=_;unfold mx;split<;>(clear hk3 nrd nrb Rh nkb err er rl hk kk kx ht en hn st ex e2 e1 el bs he bl ee hb2 hi zc hd0 hd hb hu wl jl;omega)
   ·have st':gQ ws e j=false:=by simpa using st
    rw [st'];refine fK ?_;have nb:¬Bare ws j e:=fun z=>st z.1;rw [if_neg nb,List.append_nil] at bs;exact ⟨_,g,rfl,sm,by rw [bs];exact hb2,kd,kp.iff fun m=>z6 st,bd⟩
  ·rintro σ H2 ⟨x1,g,rfl,sm,hb2,kd,kp,bd⟩
   rw [Nat.sub_self] at kp;obtain ⟨y,ey⟩:∃y,ws[j]? = some y:=⟨ws[j],by simp [jl]⟩;obtain ⟨y0,y1⟩:=xY y (List.mem_of_getElem? ey);obtain ⟨ns,t,hn,en,ht⟩:=wH (N.same sm) (nT ey);refine ⟨_,rfl,fun m hm=> ?_⟩;have s3:=aC (o:=HO.dK []) hm;refine ⟨_,rfl,_,rfl,_,_,_,_,rfl,rfl,aW.of (s3 _ _ hn),cP en,_,_,_,_,rfl,rfl,cu.of (s3 _ _ ht),rfl,_,rfl,_,rfl,_,_,_,_,rfl,rfl,aW.of (s3 _ _ hn),cP en,_,_,_,_,rfl,rfl,cu.of (s3 _ _ ht),rfl,_,_,rfl,rfl,ak,[(Sum.inl y.1,V.int (cnt (ws.take j) y.1+1))],rfl,by show 1<=15;decide, ?_⟩
   have e1:upd (upd H2 m (.dK [])) m (.dK (pW [] [(Sum.inl y.1,V.int (cnt (ws.take j) y.1+1))]))=upd H2 m (.dK (uY [y.1] fun x=>if x=y.1 then cnt (ws.take j) y.1+1 else 0)):=by
    rw [Lp];congr 2;show [(Sum.inl y.1,V.int (cnt (ws.take j) y.1+1))]=_;simp [uY]
   rw [e1];have s4:Same H2 (upd H2 m (.dK (uY [y.1] fun x=>if x=y.1 then cnt (ws.take j) y.1+1 else 0))):=aC hm
   have hmd:d≠m:=by
    obtain ⟨_,h,_⟩:=kd.ex;exact aB h hm
   have kdm:iW (upd H2 m (.dK (uY [y.1] fun x=>if x=y.1 then cnt (ws.take j) y.1+1 else 0))) m (fun x=>if x=y.1 then cnt (ws.take j) y.1+1 else 0):=by
    refine ⟨⟨[y.1],ak,by simp,fun h hh=> ?_,fun h hh=> ?_⟩,fun h=> ?_⟩
    ·have:h=y.1:=by simpa using hh
     subst this;exact ⟨y0,y1⟩
    ·have:h≠y.1:=by simpa using hh
     rw [if_neg this]
    ·have:=dG (ws.take j) y.1
     show (0:Int)<=if h=y.1 then _ else 0;split<;>(clear hmd e1 hm ht en hn y1 y0 ey hb2 zc hd0 hd hb hu wl jl;omega)
   refine ⟨d,m,g,_,rfl,kd.same s4,kdm,hmd,fun H5 kd5 k5=> ?_⟩;have hb5:H5 b=some (.lst (lA (bC ws j j))):=k5 _ _ (s4 _ _ hb2) zc;refine ⟨_,rfl,_,rfl,(by show 2<=sizeLine;decide),fun p hp=> ?_⟩;have s6:=aC (o:=HO.tup [V.ref b,V.ref d]) hp;have s05:Same H H5:=fun y u hy=>k5 _ _ (s4 _ _ (sm _ _ hy)) (aB hy hd0);exact k p b d _ _ ak (s6 _ _ hb5) (kd5.same s6) (Nf (kp.iff fun m=>Es) bd ey) hb hd0 (s05.free hp) (s05.trans s6)
def nK (x:Nt):List Int:=[x.1,x.2.1,x.2.2.1,x.2.2.2]
theorem QK (x:Nt):(nK x).map V.int=nV x:=rfl
theorem QL {x y:Nt} (h:nK x=nK y):x=y:=by
 obtain ⟨a,b,c,d⟩:=x;obtain ⟨a',b',c',d'⟩:=y;simp only [nK,List.cons.injEq,and_true] at h;obtain ⟨rfl,rfl,rfl,rfl⟩:=h;rfl
def nu (ns:List Nt):Prop:=ns.Pairwise fun x y=>Tim.gJ (nK y) (nK x)=false
theorem mW:∀{a b:List Nt},a.Perm b->nu a->nu b->a=b
 | [],_,p,_,_=>p.nil_eq
 | x::r,b,p,ha,hb=>by
   cases b with
   | nil=>exact absurd p.length_eq (by simp)
   | cons y t=>
     have hx:x∈y::t:=p.mem_iff.mp (.head _);have hy:y∈x::r:=p.mem_iff.mpr (.head _)
     have e:x=y:=by
      rcases List.mem_cons.mp hx with h|h
      ·exact h
      ·rcases List.mem_cons.mp hy with h'|h'
       ·exact h'.symm
       ·exact QL (Tim.zx _ _ ((List.pairwise_cons.mp hb).1 x h) ((List.pairwise_cons.mp ha).1 y h'))
     subst e;rw [mW (List.perm_cons _ |>.mp p) (List.pairwise_cons.mp ha).2 (List.pairwise_cons.mp hb).2]
def vInt:V->Int
 | .int n=>n
 | _=>0
def tupK (H:Hp) (v:V):List Int:=match v with
 | .ref t=>match H t with
   | some (.tup xs)=>xs.map vInt
   | _=>[]
 | _=>[]
def toN:List Int->Nt
 | [a,b,c,d]=>(a,b,c,d)
 | _=>(0,0,0,0)
theorem mO {H:Hp} {t:Addr} {x:Nt} (h:H t=some (.tup (nV x))):tupK H (.ref t)=nK x:=by
 unfold tupK;dsimp only;rw [h];rfl
theorem Iv (x:Nt):toN (nK x)=x:=rfl
theorem D_ {H:Hp} {vs:List V} {ns:List Nt} (d:aD H vs (ns.map nD)) {v:V} (hv:v∈vs):∃t x,v = .ref t/\x∈ns/\H t=some (.tup (nV x)):=by
 obtain ⟨i,hi,e⟩:=List.getElem_of_mem hv;obtain ⟨x,t,ex,ev,ht⟩:=jB d (i:=i) (v:=v) (by rw [List.getElem?_eq_getElem hi,e]);exact ⟨t,x,ev,List.mem_of_getElem? ex,ht⟩
theorem Ea {H:Hp}:∀{vs:List V} {ns:List Nt},aD H vs (ns.map nD)->vs.map (fun v=>toN (tupK H v))=ns
 | [],[],_=>rfl
 | [],_::_,h=>by simp only [List.map_cons,aD] at h
 | _::_,[],h=>by simp only [List.map_nil,aD] at h
 | v::vs,n::ns,h=>by
   simp only [List.map_cons,aD] at h;obtain ⟨t,rfl,ht⟩:=tY h.1;rw [List.map_cons,Ea h.2,mO ht,Iv]
theorem JK {H:Hp}:∀{vs:List V},(∀v∈vs,∃t x,v=V.ref t/\H t=some (.tup (nV x)))->aD H vs ((vs.map fun v=>toN (tupK H v)).map nD)
 | [],_=>by simp [aD]
 | v::vs,h=>by
   obtain ⟨t,x,rfl,ht⟩:=h v (.head _);simp only [List.map_cons,aD];exact ⟨by rw [mO ht,Iv];exact tZ ht,JK fun v hv=>h v (.tail _ hv)⟩
theorem rZ {K:PySem.W.Frag} {H:Hp} {p:Addr} {ns:List Nt} {Q:VK} (N:fH H p ns) (k:∀l ns' H',H l=none->fH H' l ns'->ns'.Perm ns->nu ns'->Same H H'->Q (.ref l) H'):Bs K [.ref p] H Q:=by
 obtain ⟨ys,hp,d⟩:=N;refine ⟨p,ys,4,tupK H,rfl,aW.of hp,by decide,fun y hy=> ?_,fun l zs hl pz sz=> ?_⟩
 ·obtain ⟨t,x,rfl,_,ht⟩:=D_ d hy
  exact ⟨t,rfl,by rw [mO ht,QK];exact cu.of ht,by rw [mO ht];rfl⟩
 ·have sm:=aC (o:=HO.lst zs) hl
  have all:∀v∈zs,∃t x,v=V.ref t/\H t=some (.tup (nV x)):=fun v hv=>by
   obtain ⟨t,x,e,_,ht⟩:=D_ d (pz.mem_iff.mp hv);exact ⟨t,x,e,ht⟩
  refine k l (zs.map fun v=>toN (tupK H v)) _ hl ⟨zs,ak,aD.keep sm.tups _ (aX _ dW _) (JK all)⟩ ?_ ?_ sm
  ·rw [←Ea d]
   exact pz.map _
  ·unfold nu
   rw [List.pairwise_map];refine List.Pairwise.imp_of_mem (fun {x y} hx hy h=> ?_) sz;obtain ⟨t,a,rfl,ht⟩:=all x hx;obtain ⟨u,b,rfl,hu⟩:=all y hy;rw [mO ht,mO hu] at h ⊢;exact h
def bU (ws:List aY) (i j:Nat):Nt:=(hnd ws i,cnt (ws.take i) (hnd ws i),hnd ws j,cnt (ws.take j) (hnd ws j))
def aR (ws:List aY) (j:Nat) (l:List Nat):List Nt:=(l.filter fun e=>decide (¬hnd ws e=hnd ws j)).map fun e=>bU ws e j
def pI (K:PySem.W.Frag):Sp:=fun vs H Q _=>∃(nd b t:Addr) (ws:List aY) (j:Nat) (l:List Nat),vs=[.ref nd,.ref b,.ref t]/\lB H nd (nm ws)/\H b=some (.lst (lA l))/\H t=some (.tup [.int (hnd ws j),.int (cnt (ws.take j) (hnd ws j))])/\(∀e∈l,e<ws.length)/\l.length<=300 /\
 ∀(r:Addr) (H':Hp),H r=none->fH H' r (aR ws j l)->Same H H'->Q (.ref r) H'
theorem Kc {α β:Type} (l:List α) (f:α->Option β):(List.range l.length).filterMap (fun i=>(l[i]?).bind f)=l.filterMap f:=by
 induction l with
 | nil=>rfl
 | cons x l ih=>
   rw [List.length_cons,List.range_succ_eq_map,List.filterMap_cons,List.filterMap_map,List.filterMap_cons];have e:List.filterMap ((fun i=>((x::l)[i]?).bind f)∘Nat.succ) (List.range l.length)=l.filterMap f:=by rw [←ih];rfl
   rw [e];rfl
theorem Ca (ws:List aY) (j:Nat) (l:List Nat):(l.filterMap fun e=>if hnd ws e=hnd ws j then none else some (nD (bU ws e j)))=(aR ws j l).map nD:=by
 unfold aR
 induction l with
 | nil=>rfl
 | cons e l ih=>
   rw [List.filterMap_cons,List.filter_cons]
   by_cases h:hnd ws e=hnd ws j
   ·rw [if_pos h]
    simp only [h,not_true_eq_false,decide_false,Bool.false_eq_true,if_false];exact ih
   ·rw [if_neg h]
    simp only [h,not_false_eq_true,decide_true,if_true,List.map_cons];rw [ih]
theorem BP {f:Addr} {fd:FuncData} (F:jU K "notes_to" "notes_to" dJ f fd):cY P w K mg base jM 1 f fd ["named","bare","name"] (pI K):=by
 refine F.ok yx (fun vs H Q E h=> ?_) (fun cdv A outer s H vs Q E hr h=> ?_)
 ·obtain ⟨nd,b,t,ws,j,l,rfl,_⟩:=h
  rfl
 ·obtain ⟨nd,b,t,ws,j,l,rfl,N,hb,ht,el,ll,k⟩:=h
  refine ⟨_,(aG (bw (fO rfl (N:=["earlier","name","named"]) (own:=["earlier"]) (caps:=[2,0]) (aQ.of (by kernel_rfl)) (cI (K:=K) rfl (pv 1)) (fun _ _ _ _=>(aP (i:=0) (show List.Nodup (["earlier","name","named"]:List Str) by decide +kernel) rfl (Or.inl rfl))) (fun _ _ _ _=>(mU (cF jQ (aJ (aL (K:=K) rfl) (aJ (aK (K:=K) rfl) (pv 2) (pv 0) (fun _ _=>rfl)) au (fun _ _=>rfl)) (aJ (aL (K:=K) rfl) (pv 1) au (fun _ _=>rfl)) (bL _)))) (fun _ _ _ _=>(bx (Jx (K:=K) rfl) (aJ (aK (K:=K) rfl) (pv 2) (pv 0) (fun _ _=>rfl)) (pv 1)))))), ?_⟩;have il:(lA l).length=l.length:=by rw [lA,List.length_map]
  refine ⟨_,rfl,b,rfl,⟨_,aW.of hb⟩,fun D hD=> ?_⟩;refine vM (K:=K) (xs:=lA l) (fun i=>(l[i]?).bind fun e=>if hnd ws e=hnd ws j then none else some (nD (bU ws e j))) (fun i d h=> ?_) hD (aW.of hb) (by (clear hD ht hb;omega)) (fun i x H2 G F hi s2 kG kF=> ?_) (fun H2 vs s2 e2 d2=> ?_)
  ·cases e:l[i]? with
   | none=>rw [e] at h;cases h
   | some z=>
     rw [e] at h;simp only [Option.bind_some] at h;split at h
     ·cases h
     ·cases h;rfl
  ·unfold lA at hi
   rw [List.getElem?_map] at hi;cases e:l[i]? with
   | none=>rw [e] at hi;cases hi
   | some z=>
     rw [e] at hi;cases hi;have zl:=el z (List.mem_of_getElem? e);obtain ⟨x,ex⟩:∃x,ws[z]? = some x:=⟨ws[z],by simp [zl]⟩;have hx:=bN ex;obtain ⟨ns,tz,hn,en,htz⟩:=wH (N.same s2) (nT ex);rw [←hx] at htz;refine ⟨_,rfl,_,rfl,_,_,_,_,rfl,rfl,aW.of hn,cP en,_,_,_,_,rfl,rfl,cu.of htz,rfl,_,rfl,_,_,_,_,rfl,rfl,cu.of (s2 _ _ ht),rfl,rfl,_,rfl, ?_⟩
     by_cases eh:hnd ws z=hnd ws j
     ·rw [show (!decide (V.int (hnd ws z)=V.int (hnd ws j)))=false by simp [eh]]
      refine fK ?_;exact kG _ (Same.refl _) (by rw [e];simp [eh])
     ·rw [show (!decide (V.int (hnd ws z)=V.int (hnd ws j)))=true by simp [eh]]
      refine iJ ?_;refine ⟨_,rfl,_,rfl,_,_,_,_,rfl,rfl,aW.of hn,cP en,_,rfl,tz,t,_,_,rfl,rfl,cu.of htz,cu.of (s2 _ _ ht),by simp,by show 4<=sizeLine;decide,fun z=>absurd z (by simp),fun _ p hp=> ?_⟩;exact kF _ (nD (bU ws z j)) _ (aC hp) (by rw [e];simp [eh]) (tZ (x:=bU ws z j) (by rw [ak];rfl))
  ·rw [il,Kc,Ca] at d2
   exact k D H2 hD ⟨vs,e2,d2⟩ s2
noncomputable def cg (ws:List aY) (n:Nat):List Nt:=(List.range n).flatMap fun j=>aR ws j (bC ws j j)
theorem jm (ws:List aY) (n:Nat):cg ws (n+1)=cg ws n++aR ws n (bC ws n n):=by
 unfold cg;rw [List.range_succ,List.flatMap_append];simp
theorem lW (ws:List aY) (j:Nat) (l:List Nat):(aR ws j l).length<=l.length:=by
 unfold aR;rw [List.length_map];exact List.length_filter_le _ _
theorem mJ (ws:List aY):∀n,(cg ws n).length<=n*n
 | 0=>Nat.le_refl _
 | n+1=>by
   rw [jm,List.length_append];have h1:=mJ ws n;have h2:=Nat.le_trans (lW ws n (bC ws n n)) (nq ws n n);have:(n+1)*(n+1)=n*n+n+n+1:=by rw [Nat.add_mul,Nat.mul_add];(clear h2 h1;omega)
   omega
theorem Af {ws:List aY} {j i e:Nat} (h:e∈bC ws j i):e<j\/j=0:=by
 unfold bC at h;obtain ⟨h1,_⟩:=List.mem_filter.mp h;obtain ⟨t,_,rfl⟩:=List.mem_map.mp h1;omega
def q_ (K:PySem.W.Frag):Sp:=fun vs H Q _=>∃(a:Addr) (ws:List aY),vs=[.ref a]/\cC H a ws/\ws.length<=300/\(∀x∈ws,0<=x.1/\x.1<8) /\
 ∀(r:Addr) (ns:List Nt) (H':Hp),H r=none->fH H' r ns->ns.Perm (cg ws ws.length)->nu ns->Same H H'->Q (.ref r) H'
theorem JB {f:Addr} {fd:FuncData} (F:jU K "notes" "notes" iZ f fd) (xR:FnAt P w K mg base 1 "names" ["web"] (rm K)) (xU:FnAt P w K mg base 3 "bare_steps" ["web","named","knowns","place"] (Bl K)) (Dl:FnAt P w K mg base 1 "notes_to" ["named","bare","name"] (pI K)) (Bt:qI mg):cY P w K mg base jM 4 f fd ["web"] (q_ K):=by
 refine F.ok jq (fun vs H Q E h=> ?_) (fun cdv A outer s H vs Q E hr h=> ?_)
 ·obtain ⟨a,ws,rfl,_⟩:=h
  rfl
 ·obtain ⟨a,ws,rfl,W,wl,xY,k⟩:=h
  refine ⟨_,(aA (aV (i:=1) jq.nd rfl (Or.inl rfl) (aU xR (hr.mono (by decide)) (by rfl) (aj (pv 0) ao)))
   (aA (aV (i:=2) jq.nd rfl (Or.inl rfl) (cW ao))
   (aA (aV (i:=3) jq.nd rfl (Or.inl rfl) (cW ao))
   (aA (jt PassesOwn.never rfl (yL (K:=K) rfl (by rfl) Bt.qD (aj (pv 1) ao)) (iC (K:=K) (n:=2) rfl rfl (bB (aP (i:=4) jq.nd rfl (Or.inl rfl)) (bB (aP (i:=5) jq.nd rfl (Or.inl rfl)) iB)))
   (aA (aV (i:=6) jq.nd rfl (Or.inl rfl) (aU xU (hr.mono (by decide)) (by rfl) (aj (pv 0) (aj (pv 1) (aj (pv 2) (aj (pv 4) ao))))))
   (aA (dz (Ju (K:=K) rfl PySem.F.plainAttrs_list PySem.F.slot_list_extend PySem.F.type_list_extend Gp (pv 3) (aj (aU Dl (hr.mono (by decide)) (by rfl) (aj (pv 1) (aj (aJ (aL (K:=K) rfl) (pv 6) au (fun _ _=>rfl)) (aj (pv 5) ao)))) ao)))
   (aG (dz (dU (K:=K) rfl (pv 2) (aj (aJ (aL (K:=K) rfl) (pv 6) au (fun _ _=>rfl)) ao)))))))
   (aG (bw (aO (mG (K:=K) rfl) (by rfl) Bt.uF qb (aj (pv 3) ao)))))))), ?_⟩
  refine ⟨_,rfl,a,ws,rfl,W,by omega,fun nd H1 Cw N s1=> ?_⟩;refine ⟨(by show 0<=sizeLine;decide),fun kn hkn=> ?_⟩;have s2:=aC (o:=HO.lst []) hkn;refine ⟨(by show 0<=sizeLine;decide),fun tl htl=> ?_⟩;have s3:=aC (o:=HO.lst []) htl;have O2:=(s1.trans s2).trans s3;have zJ:H kn=none:=s1.free hkn;have zH:H tl=none:=(s1.trans s2).free htl;have M5:kn≠tl:=aB ak htl;obtain ⟨vs,hv,dv⟩:=id N;have vl:vs.length=ws.length:=by rw [dv.length,List.length_map,jh]
  have MP:nd≠kn:=aB hv hkn;have MN:nd≠tl:=aB (s2 _ _ hv) htl;refine ⟨_,rfl,nd,vs,rfl,aW.of (s3 _ _ (s2 _ _ hv)), ?_⟩
  refine zO (K:=K) (a:=nd) (xs:=vs) (fun j σ H3=>∃(x1 x2 x3:Option V),σ=[some (.ref a),some (.ref nd),some (.ref kn),some (.ref tl),x1,x2,x3]/\Same H H3/\H3 nd=some (.lst vs)/\lB H3 nd (nm ws)/\qH H3 kn ws j/\fH H3 tl (cg ws j))
   ⟨none,none,none,rfl,O2,s3 _ _ (s2 _ _ hv),(N.same s2).same s3,⟨[],s3 _ _ ak,rfl,fun j r hj=>by simp at hj⟩,⟨[],ak,by simp [cg,aD]⟩⟩ (fun i σ H3 _ ⟨_,_,_,_,_,e,_⟩=>aW.of e) ?_ ?_
  ·rintro j v σ H3 q hj ⟨x1,x2,x3,rfl,sm,Lf,N3,Kn,T⟩ hq
   have jl:j<ws.length:=by have:=(List.getElem?_eq_some_iff.mp hj).1;(clear hq Lf hj MN MP hv M5 zH zJ htl hkn Cw wl;omega)
   obtain ⟨y,ey⟩:∃y,ws[j]? = some y:=⟨ws[j],by simp [jl]⟩;have hy:=bN ey;obtain ⟨vs',t,hv',et,ht⟩:=wH N3 (nT ey);have ev:vs'=vs:=by rw [Lf] at hv';injection hv' with z;injection z with z;exact z.symm
   subst ev;rw [hj] at et;cases et;rw [←hy] at ht;have sq:=aC (o:=HO.tup [V.int j,V.ref t]) hq;refine ⟨q,_,rfl,cu.of ak,rfl,_,_,rfl,_,_,rfl,rfl, ?_⟩;refine ⟨_,rfl,_,rfl,_,rfl,_,rfl,a,nd,kn,ws,j,rfl,W.same (sm.trans sq),N3.same sq,Kn.same sq,jl,wl,xY,fun p b d g H4 hp hb kd ko hb0 hd0 hp0 s4=> ?_⟩;have Qj:=sq.trans s4;obtain ⟨ts,hts,Pn⟩:=id (T.same Qj)
   have el:∀e∈bC ws j j,e<ws.length:=fun e he=>by
    rcases Af he with h|h
    ·omega
    ·subst h;simp [bC] at he
   have bl:=nq ws j j;refine ⟨_,rfl,.inl ⟨rfl,_,aW.of hts⟩,_,rfl,_,rfl,_,_,_,_,rfl,rfl,cu.of hp,rfl,_,rfl,nd,b,t,ws,j,_,rfl,N3.same Qj,hb,Qj _ _ ht,el,by (clear hts hp0 hd0 hb0 hb hp hj Lf vl hv ht hv' hy ey hq MN MP M5 zH zJ htl hkn Cw;omega),fun r H5 hr0 NT s5=> ?_⟩;obtain ⟨Qm,hrs,drs⟩:=NT;have Wb:=mJ ws j;have l1:ts.length=(cg ws j).length:=by rw [Pn.length,List.length_map]
   have l2:Qm.length=(aR ws j (bC ws j j)).length:=by rw [drs.length,List.length_map]
   have l3:=lW ws j (bC ws j j);have jj:j*j<=300*300:=Nat.mul_le_mul (by (clear l3 l2 l1 Wb hrs hr0 bl hts hp0 hd0 hb0 hb hp hj Lf vl hv ht hv' hy ey hq MN MP M5 zH zJ htl hkn Cw;omega)) (by (clear l3 l2 l1 Wb hrs hr0 bl hts hp0 hd0 hb0 hb hp hj Lf vl hv ht hv' hy ey hq MN MP M5 zH zJ htl hkn Cw;omega));refine ⟨tl,r,_,_,rfl,rfl,s5 _ _ hts,hrs,by rw [sizeLine_eq];(clear hrs hr0 hts hp0 hd0 hb0 hb hp hj Lf vl hv ht hv' hy ey hq MN MP M5 zH zJ htl hkn Cw;omega), ?_⟩;have k6:Kp tl H5 (upd H5 tl (.lst (ts++Qm))):=Kp.set;have GJ:=s5 _ _ hts;have t6:=k6.tups GJ;obtain ⟨rs,hk,rl,rq⟩:=id (((Kn.same Qj).same s5).kp k6 GJ M5);have Lg:(upd H5 tl (.lst (ts++Qm))) p=some (.tup [.ref b,.ref d]):=t6 _ _ (s5 _ _ hp);refine ⟨_,rfl,.inl ⟨rfl,_,aW.of hk⟩,_,rfl,_,_,_,_,rfl,rfl,cu.of Lg,rfl,kn,_,_,rfl,rfl,hk,by rw [List.length_map,sizeLine_eq];(clear Lg hk GJ jj l3 l2 l1 Wb hrs hr0 bl hts hp0 hd0 hb0 hb hp hj Lf vl hv ht hv' hy ey hq MN MP M5 zH zJ htl hkn Cw;omega), ?_⟩;have k7:Kp kn (upd H5 tl (.lst (ts++Qm))) (upd (upd H5 tl (.lst (ts++Qm))) kn (.lst (rs.map V.ref++[V.ref d]))):=Kp.set;have t7:=k7.tups hk
   have kd6:iW (upd H5 tl (.lst (ts++Qm))) d g:=by
    obtain ⟨_,h,_⟩:=kd.ex;exact (kd.same s5).kp k6 (k_ (s5 _ _ h) GJ (by intro z;cases z))
   refine ⟨_,_,_,rfl,fun x u e=>k7 _ _ (k6 _ _ (s5 _ _ (Qj _ _ (sm _ _ e))) (aB e zH)) (aB e zJ), ?_, ?_, ?_, ?_⟩
   ·exact k7 _ _ (k6 _ _ (s5 _ _ (Qj _ _ Lf)) MN) MP
   ·exact (((N3.same Qj).same s5).kp GJ k6 MN).kp hk k7 MP
   ·refine ⟨rs++[d],by rw [ak,List.map_append];rfl,by simp [rl],fun m r' hm=> ?_⟩
    by_cases hml:m<rs.length
    ·rw [List.getElem?_append_left hml] at hm
     obtain ⟨g',kd',ko'⟩:=rq m r' hm;obtain ⟨_,h,_⟩:=kd'.ex;exact ⟨g',kd'.kp k7 (k_ h hk (by intro z;cases z)),ko'⟩
    ·have hm2:=(List.getElem?_eq_some_iff.mp hm).1
     rw [List.length_append,List.length_singleton] at hm2;have em:m=rs.length:=by (clear hm Lg rl hk GJ jj l3 l2 l1 Wb hrs hr0 bl hts hp0 hd0 hb0 hb hp hj Lf vl hv ht hv' hy ey jl hq MN MP M5 zH zJ htl hkn Cw wl;omega)
     subst em;rw [List.getElem?_append_right (Nat.le_refl _)] at hm;simp at hm;subst hm;rw [rl];obtain ⟨_,h,_⟩:=kd6.ex;exact ⟨g,kd6.kp k7 (k_ h hk (by intro z;cases z)),ko⟩
   ·refine ⟨ts++Qm,k7 _ _ ak M5.symm, ?_⟩
    rw [jm,List.map_append];refine aD.append (aD.keep (fun a xs h=>t7 _ _ (t6 _ _ (s5.tups _ _ h))) _ (aX _ dW _) Pn) (aD.keep (fun a xs h=>t7 _ _ (t6 _ _ h)) _ (aX _ dW _) drs)
  ·rintro σ H3 ⟨x1,x2,x3,rfl,sm,Lf,N3,Kn,T⟩
   rw [vl] at T;exact ⟨_,rfl,rZ T fun l ns H4 hl NN pp ss s4=>k l ns H4 (sm.free hl) NN pp ss (sm.trans s4)⟩
def o_ (ws:List aY) (hn:Nat) (row:List Int) (R:Nat->Prop) (B:Nat):Prop:=row.length=hn/\(∀m x,ws[m]? = some x->(cnt (ws.take m) x.1<gI row x.1↔R m)) /\ ∀h:Nat,0<=gI row (h:Int)/\gI row (h:Int)<=cnt (ws.take B) (h:Int)
theorem o_.mono {ws:List aY} {hn:Nat} {row:List Int} {R:Nat->Prop} {B B':Nat} (h:o_ ws hn row R B) (l:B<=B'):o_ ws hn row R B':=⟨h.1,h.2.1,fun x=>⟨(h.2.2 x).1,by
 have:=gM ws (x:Int) B (B' - B);rw [show B+(B' - B)=B' by omega] at this;exact Int.le_trans (h.2.2 x).2 this⟩⟩
def cG (H:Hp) (t:Addr) (ex:List Addr) (n:Nat) (C:Hp->Nat->Addr->Prop):Prop:=∃rs:List Addr,H t=some (.lst (rs.map V.ref))/\rs.length=n /\ ∀j r,rs[j]? = some r->(∀e∈ex,r≠e)/\C H j r
def RowC (ws:List aY) (hn:Nat):Hp->Nat->Addr->Prop:=fun H j r=>∃a:List Int,H r=some (.lst (a.map V.int))/\o_ ws hn a (fun m=>m=j\/kY ws j m) (j+1)
def Yq (ws:List aY):Hp->Nat->Addr->Prop:=fun H j r=>∃ns:List Nt,fH H r ns/\ns.Perm (aR ws j (bC ws j j))/\nu ns
def Keeps (C:Hp->Nat->Addr->Prop):Prop:=∀(H H':Hp) (j:Nat) (r:Addr),C H j r->(∃o,H r=some o)/\((∀a xs,H a=some (HO.tup xs)->H' a=some (HO.tup xs))->(∀o,H r=some o->H' r=some o)->C H' j r)
theorem ji (ws:List aY) (hn:Nat):Keeps (RowC ws hn):=fun H H' j r ⟨a,h,q⟩=>⟨⟨_,h⟩,fun _ k=>⟨a,k _ h,q⟩⟩
theorem lX (ws:List aY):Keeps (Yq ws):=fun H H' j r ⟨ns,⟨vs,h,d⟩,q⟩=>⟨⟨_,h⟩,fun t k=>⟨ns,⟨vs,k _ h,aD.keep t _ (aX _ dW ns) d⟩,q⟩⟩
theorem cG.same {H H':Hp} {t:Addr} {ex:List Addr} {n:Nat} {C:Hp->Nat->Addr->Prop} (kc:Keeps C) (h:cG H t ex n C) (k:Same H H'):cG H' t ex n C:=by
 obtain ⟨rs,e,l,q⟩:=h;exact ⟨rs,k _ _ e,l,fun j r hj=>⟨(q j r hj).1,((kc H H' j r (q j r hj).2).2 k.tups fun o ho=>k _ _ ho)⟩⟩
theorem cG.kp {H H':Hp} {t x:Addr} {ys:List V} {ex:List Addr} {n:Nat} {C:Hp->Nat->Addr->Prop} (kc:Keeps C) (h:cG H t ex n C) (k:Kp x H H') (hx:H x=some (.lst ys)) (ne:t≠x) (m:x∈ex):cG H' t ex n C:=by
 obtain ⟨rs,e,l,q⟩:=h;exact ⟨rs,k _ _ e ne,l,fun j r hj=>⟨(q j r hj).1,((kc H H' j r (q j r hj).2).2 (k.tups hx) fun o ho=>k _ _ ho ((q j r hj).1 x m))⟩⟩
theorem cG.move {H2 H':Hp} {t:Addr} {ex:List Addr} {n:Nat} {C:Hp->Nat->Addr->Prop} (kc:Keeps C) (h:cG H2 t ex n C) (W:List Addr) (k:∀b o,H2 b=some o->b∉W->H' b=some o) (tw:t∉W) (hw:∀x∈W,x∈ex\/H2 x=none) (tp:∀a xs,H2 a=some (HO.tup xs)->H' a=some (HO.tup xs)):cG H' t ex n C:=by
 obtain ⟨rs,e,l,q⟩:=h;refine ⟨rs,k _ _ e tw,l,fun j r hj=>⟨(q j r hj).1, ?_⟩⟩;have c:=(q j r hj).2;refine (kc H2 H' j r c).2 tp fun o ho=>k _ _ ho fun m=> ?_;rcases hw r m with z|z
 ·exact (q j r hj).1 r z rfl
 ·rw [ho] at z;cases z
theorem cG.push {H:Hp} {t r:Addr} {ex:List Addr} {n:Nat} {C:Hp->Nat->Addr->Prop} (kc:Keeps C) (h:cG H t ex n C) (te:t∈ex) (re:∀e∈ex,r≠e) (c:C H n r):∃rs:List Addr,H t=some (.lst (rs.map V.ref))/\rs.length=n/\cG (upd H t (.lst (rs.map V.ref++[V.ref r]))) t ex (n+1) C:=by
 obtain ⟨rs,e,l,q⟩:=h;have k:Kp t H (upd H t (.lst (rs.map V.ref++[V.ref r]))):=Kp.set;have mv:∀j r',(∀e∈ex,r'≠e)->C H j r'->C (upd H t (.lst (rs.map V.ref++[V.ref r]))) j r':=fun j r' x c=>(kc _ _ j r' c).2 (k.tups e) fun o ho=>k _ _ ho (x t te);refine ⟨rs,e,l,rs++[r],by rw [ak,List.map_append];rfl,by simp [l],fun j r' hj=> ?_⟩
 by_cases hl:j<rs.length
 ·rw [List.getElem?_append_left hl] at hj
  exact ⟨(q j r' hj).1,mv _ _ (q j r' hj).1 (q j r' hj).2⟩
 ·have h2:=(List.getElem?_eq_some_iff.mp hj).1
  rw [List.length_append,List.length_singleton] at h2;have em:j=rs.length:=by (clear hj l e;omega)
  subst em;rw [List.getElem?_append_right (Nat.le_refl _)] at hj;simp at hj;subst hj;rw [l];exact ⟨re,mv _ _ re c⟩
def Ec (hn:Nat) (a b:List Int):List Int:=(List.range hn).map fun h:Nat=>mx (gI a (h:Int)) (gI b (h:Int))
theorem CG {hn:Nat} {a b:List Int} {h:Int} (h0:0<=h) (h1:h<hn):gI (Ec hn a b) h=mx (gI a h) (gI b h):=by
 obtain ⟨m,rfl⟩:=Int.eq_ofNat_of_zero_le h0;have hm:m<hn:=by (clear h0;omega)
 refine eU ?_;unfold Ec;rw [List.getElem?_map,List.getElem?_range hm];rfl
theorem Ja {ws:List aY} {hn B:Nat} {a b:List Int} {R S:Nat->Prop} (ok:∀x∈ws,0<=x.1/\x.1<(hn:Int)) (p:o_ ws hn a R B) (q:o_ ws hn b S B):o_ ws hn (Ec hn a b) (fun m=>R m\/S m) B:=by
 refine ⟨by unfold Ec;simp,fun m x ex=> ?_,fun h=> ?_⟩
 ·obtain ⟨x0,x1⟩:=ok x (List.mem_of_getElem? ex)
  rw [CG x0 x1,Ed,p.2.1 m x ex,q.2.1 m x ex]
 ·by_cases hl:h<hn
  ·rw [CG (by omega) (by omega)]
   have p':=p.2.2 h;have q':=q.2.2 h;unfold mx;split<;>exact ⟨by omega,by omega⟩
  ·have e:gI (Ec hn a b) (h:Int)=0:=by
    unfold gI Ec;rw [Int.toNat_natCast,List.getElem?_eq_none (by simp;omega)];rfl
   rw [e];exact ⟨Int.le_refl _,dG _ _⟩
theorem o_.iff {ws:List aY} {hn B:Nat} {a:List Int} {R S:Nat->Prop} (h:o_ ws hn a R B) (e:∀m,R m↔S m):o_ ws hn a S B:=⟨h.1,fun m x ex=>(h.2.1 m x ex).trans (e m),h.2.2⟩
theorem Jb {ws:List aY} {hn j:Nat} {a:List Int} {y:aY} (ok:∀x∈ws,0<=x.1/\x.1<(hn:Int)) (p:o_ ws hn a (kY ws j) j) (ey:ws[j]? = some y):o_ ws hn (a.set y.1.toNat (cnt (ws.take j) y.1+1)) (fun m=>m=j\/kY ws j m) (j+1):=by
 obtain ⟨y0,y1⟩:=ok y (List.mem_of_getElem? ey);have al:=p.1;refine ⟨by simp [al],fun m x ex=> ?_,fun h=> ?_⟩
 rotate_left
 ·have t:ws.take (j+1)=ws.take j++[y]:=by rw [List.take_add_one,ey];rfl
  have ph:=p.2.2 h;have c0:=dG (ws.take j) y.1;rw [nY y0 (by omega) (by omega),t,b_]
  by_cases e:(h:Int)=y.1
  ·rw [if_pos e,if_pos e,e]
   exact ⟨by omega,by omega⟩
  ·rw [if_neg e,if_neg e]
   exact ph
 obtain ⟨x0,x1⟩:=ok x (List.mem_of_getElem? ex);rw [nY y0 (by (clear x1 x0 ex y0 ey;omega)) x0]
 by_cases e:x.1=y.1
 ·rw [if_pos e,e]
  by_cases l:m<=j
  ·have:=gM ws y.1 m (j - m)
   rw [show m+(j - m)=j by (clear this e x1 x0 ex al y1 y0 ey;omega)] at this;refine ⟨fun _=> ?_,fun _=>by (clear l e x1 x0 ex al y1 y0 ey;omega)⟩
   by_cases em:m=j
   ·exact .inl em
   ·refine .inr (.one ?_)
    unfold gQ Bg;rw [ex,ey,decide_eq_true (show m<j by (clear this e x1 x0 ex al y1 y0 ey;omega))];simp [e]
  ·have:=gM ws y.1 (j+1) (m - (j+1))
   rw [show j+1+(m - (j+1))=m by (clear this e x1 x0 ex al y1 y0 ey;omega)] at this;have t:ws.take (j+1)=ws.take j++[y]:=by rw [List.take_add_one,ey];rfl
   rw [t,b_,if_pos rfl] at this;refine ⟨fun h=>by (clear t l e x1 x0 ex al y1 y0 ey;omega),fun h=> ?_⟩;rcases h with h|h
   · (clear t this e x1 x0 ex al y1 y0 ey;omega)
   ·have:=h.lt;(clear t e x1 x0 ex al y1 y0 ey;omega)
 ·rw [if_neg e,p.2.1 m x ex]
  constructor
  ·intro z;exact .inr z
  ·rintro (z|z)
   ·subst z
    rw [ex] at ey;cases ey;exact absurd rfl e
   ·exact z
theorem Ly (hn:Int):(List.replicate hn.toNat [V.int 0]).flatten=(List.replicate hn.toNat (0:Int)).map V.int:=by
 generalize hn.toNat=n
 induction n with
 | zero=>rfl
 | succ n ih=>rw [List.replicate_succ,List.flatten_cons,ih,List.replicate_succ,List.map_cons];rfl
theorem Cz (n:Nat) (h:Int):gI (List.replicate n 0) h=0:=by unfold gI;rw [List.getElem?_replicate];split<;>rfl
def xZ (ws:List aY) (n:Nat):List Int:=(List.range n).map fun i=>cnt (ws.take i) (hnd ws i)
theorem Ob {ws:List aY} {n i:Nat} (h:i<n):(xZ ws n)[i]? = some (cnt (ws.take i) (hnd ws i)):=by
 unfold xZ;rw [List.getElem?_map,List.getElem?_range h];rfl
theorem Ku (ws:List aY) (n:Nat):xZ ws (n+1)=xZ ws n++[cnt (ws.take n) (hnd ws n)]:=by
 unfold xZ;rw [List.range_succ,List.map_append];rfl
theorem qp (ws:List aY) (j:Nat) (l l':List Nat):aR ws j (l++l')=aR ws j l++aR ws j l':=by
 unfold aR;rw [List.filter_append,List.map_append]
def rW (K:PySem.W.Frag):Sp:=fun vs H Q _=>∃(a:Addr) (hn:Int) (ws:List aY),vs=[.ref a,.int hn]/\cC H a ws/\(∀x∈ws,jy hn x)/\1<=hn/\hn<=8/\ws.length<=300 /\
 ∀(p t1 t2:Addr) (H':Hp),H' p=some (.tup [.ref t1,.ref t2])->cG H' t1 [] ws.length (RowC ws hn.toNat)->cG H' t2 [] ws.length (Yq ws)->H t1=none->H t2=none->Same H H'->Q (.ref p) H'
theorem cG.any {H:Hp} {t:Addr} {ex:List Addr} {n:Nat} {C:Hp->Nat->Addr->Prop} (h:cG H t ex n C):cG H t [] n C:=by
 obtain ⟨rs,e,l,q⟩:=h;exact ⟨rs,e,l,fun j r hj=>⟨fun _ z=>absurd z (by simp),(q j r hj).2⟩⟩
def Sw (a:Addr) (hn:Int) (rw' cl br mn:Addr) (x1 x2 x3 x4 x5 x6 x7 x8 x9 x10:Option V):St:=[some (.ref a),some (.int hn),some (.ref rw'),some (.ref cl),some (.ref br),some (.ref mn),x1,x2,x3,x4,x5,x6,x7,x8,x9,x10]
structure V8 (ws:List aY) (hn:Int) (H H2:Hp) (a rw' cl br mn:Addr) (j:Nat):Prop where
 sm:Same H H2
 rows:cG H2 rw' [rw',cl,br,mn] j (RowC ws hn.toNat)
 Yg:cG H2 br [rw',cl,br,mn] j (Yq ws)
 called:H2 cl=some (.lst ((xZ ws j).map V.int))
 many:∃ms:List Int,H2 mn=some (.lst (ms.map V.int))/\ms.length=hn.toNat /\ ∀h:Int,0<=h->h<hn->gI ms h=cnt (ws.take j) h
theorem Nm {c:Bool} {A B:Prop} (a:A) (b:¬c=true->A->B):if c=true then A else B:=by
 split
 ·exact a
 ·rename_i h
  exact b h a
theorem Gg {f:Addr} {fd:FuncData} (F:jU K "_law_table" "_law_table" gF f fd) (Bt:qI mg):cY P w K mg base jM 1 f fd ["touches","hands"] (rW K):=by
 refine F.ok bW (fun vs H Q E h=> ?_) (fun cdv A outer s H vs Q E hr h=> ?_)
 ·obtain ⟨a,hn,ws,rfl,_⟩:=h
  rfl
 ·obtain ⟨a,hn,ws,rfl,W,ok,hn0,hn1,wl,k⟩:=h
  obtain ⟨vs,ha,dv⟩:=id W;have dj:vs.length=ws.length:=by rw [dv.length,List.length_map]
  have xY:∀x∈ws,0<=x.1/\x.1<((hn.toNat:Nat):Int):=fun x hx=>⟨(ok x hx).1.1,by have:=(ok x hx).1.2;(clear dj ha wl hn1 hn0;omega)⟩
  refine ⟨_,(aA (aV (i:=2) bW.nd rfl (Or.inl rfl) (cW ao))
   (aA (aV (i:=3) bW.nd rfl (Or.inl rfl) (cW ao))
   (aA (aV (i:=4) bW.nd rfl (Or.inl rfl) (cW ao))
   (aA (aV (i:=5) bW.nd rfl (Or.inl rfl) (bx wK (cW (aj au ao)) (pv 1)))
   (aA (jt PassesOwn.never rfl (cI (K:=K) rfl (pv 0)) (iC (K:=K) (n:=3) rfl rfl (bB (aP (i:=6) bW.nd rfl (Or.inl rfl)) (bB (aP (i:=7) bW.nd rfl (Or.inl rfl)) (bB (aP (i:=8) bW.nd rfl (Or.inl rfl)) iB))))
   (aA (aV (i:=9) bW.nd rfl (Or.inl rfl) (bx wK (cW (aj au ao)) (pv 1)))
   (aA (aV (i:=10) bW.nd rfl (Or.inl rfl) (cW ao))
   (aA (jt PassesOwn.never rfl (vD (by rfl) Bt.kO (aj (bx pR (aO (aZ (K:=K) rfl) (by rfl) Bt.iM eV (aj (pv 2) ao)) au) (aj (DY vY au) (aj (DY vY au) ao)))) (aP (i:=11) bW.nd rfl (Or.inl rfl))
   (aA (ju (aJ (aK (K:=K) rfl) (pv 0) (pv 11) (fun _ _=>rfl)) (iC (K:=K) (n:=3) rfl rfl (bB (aP (i:=12) bW.nd rfl (Or.inl rfl)) (bB (aP (i:=13) bW.nd rfl (Or.inl rfl)) (bB (aP (i:=14) bW.nd rfl (Or.inl rfl)) iB)))))
   (aA (aV (i:=15) bW.nd rfl (Or.inl rfl) (lR (gH jQ (pv 12) (pv 6) (bL _)) (lR (gH nF (pv 14) (pv 8) (bL _)) (kh (Jp (gH jQ (pv 7) fV (bL _)) (kh (gH jQ (pv 13) fV (bL _))))))))
   (aA (dH (PW.pt (wF (cV (pv 15)) (rC (cF O8 (aJ (aK (K:=K) rfl) (pv 3) (pv 11) (fun _ _=>rfl)) (aJ (aK (K:=K) rfl) (pv 9) (pv 12) (fun _ _=>rfl)) (bL _))))) (aG (dz (dU (K:=K) rfl (pv 10) (aj (fU (aj (pv 12) (aj (aJ (aK (K:=K) rfl) (pv 3) (pv 11) (fun _ _=>rfl)) (aj (pv 6) (aj (aJ (aK (K:=K) rfl) (pv 5) (pv 6) (fun _ _=>rfl)) ao))))) ao)))) bK)
   (aG (dH (PW.pt (ql (cV (pv 15)) (nR (cF nF (pv 12) (pv 6) (bL _))))) (aG (j9 (i:=9) rfl bW.nd rfl (Or.inl rfl) (N:=["a","b"]) (own:=["a","b"]) (caps:=[]) (aQ.of (by kernel_rfl)) (rE (K:=K) rfl (by rfl) Bt.Fd (aj (pv 9) (aj (aJ (aK (K:=K) rfl) (pv 2) (pv 11) (fun _ _=>rfl)) ao))) (fun _ _ _ _=>(iC (K:=K) (n:=2) rfl rfl (bB (aP (i:=0) (show List.Nodup (["a","b"]:List Str) by decide +kernel) rfl (Or.inl rfl)) (bB (aP (i:=1) (show List.Nodup (["a","b"]:List Str) by decide +kernel) rfl (Or.inl rfl)) iB)))) (fun _ _ _ _=>eE) (fun _ _ _ _=>(aO (nj rfl) (by rfl) Bt.Fe xu (aj (pv 0) (aj (pv 1) ao)))))) bK))))))
   (aA (dz (dU (K:=K) rfl (pv 3) (aj (aJ (aK (K:=K) rfl) (pv 5) (pv 6) (fun _ _=>rfl)) ao)))
   (aA (ju (bx cX (aJ (aK (K:=K) rfl) (pv 5) (pv 6) (fun _ _=>rfl)) au) (j_ (pv 5) (pv 6) set_list))
   (aA (ju (aJ (aK (K:=K) rfl) (pv 5) (pv 6) (fun _ _=>rfl)) (j_ (pv 9) (pv 6) set_list))
   (aA (dz (dU (K:=K) rfl (pv 2) (aj (pv 9) ao)))
   (aG (dz (dU (K:=K) rfl (pv 4) (aj (aO (mG (K:=K) rfl) (by rfl) Bt.uF qb (aj (pv 10) ao)) ao))))))))))))
   (aG (bw (fU (aj (pv 2) (aj (pv 4) ao)))))))))), ?_⟩
  refine ⟨(by show 0<=sizeLine;decide),fun rw' h1=> ?_⟩;have s1:=aC (o:=HO.lst []) h1;refine ⟨(by show 0<=sizeLine;decide),fun cl h2=> ?_⟩;have s2:=aC (o:=HO.lst []) h2;refine ⟨(by show 0<=sizeLine;decide),fun br h3=> ?_⟩;have s3:=aC (o:=HO.lst []) h3;refine ⟨(by show 1<=sizeLine;decide),fun l h4=> ?_⟩;have s4:=aC (o:=HO.lst [V.int 0]) h4;refine ⟨_,rfl,l,_,_,rfl,rfl,ak,by (clear h4 h3 h2 h1 dj ha wl hn1;omega),by (clear h4 h3 h2 h1 dj ha wl hn0;omega),by rw [sizeLine_eq];simp;(clear h4 h3 h2 h1 dj ha wl hn0;omega),fun mn h5=> ?_⟩;rw [Ly];have s5:=aC (o:=HO.lst ((List.replicate hn.toNat (0:Int)).map V.int)) h5;have n12:rw'≠cl:=aB ak h2;have n13:rw'≠br:=aB (s2 _ _ ak) h3;have n23:cl≠br:=aB ak h3;have n15:rw'≠mn:=aB (s4 _ _ (s3 _ _ (s2 _ _ ak))) h5;have n25:cl≠mn:=aB (s4 _ _ (s3 _ _ ak)) h5;have n35:br≠mn:=aB (s4 _ _ ak) h5;have Qk:=(((s1.trans s2).trans s3).trans s4).trans s5;have f1:H rw'=none:=h1;have f2:H cl=none:=s1.free h2;have f3:H br=none:=(s1.trans s2).free h3;have f5:H mn=none:=(((s1.trans s2).trans s3).trans s4).free h5
  have I0:V8 ws hn H _ a rw' cl br mn 0:=⟨Qk,⟨[],s5 _ _ (s4 _ _ (s3 _ _ (s2 _ _ ak))),rfl,fun j r hj=>by simp at hj⟩,⟨[],s5 _ _ (s4 _ _ ak),rfl,fun j r hj=>by simp at hj⟩,s5 _ _ (s4 _ _ (s3 _ _ ak)),
   ⟨List.replicate hn.toNat 0,ak,by simp,fun h _ _=>by rw [Cz];rfl⟩⟩
  generalize (upd (upd (upd (upd (upd H rw' (HO.lst [])) cl (HO.lst [])) br (HO.lst [])) l (HO.lst [V.int 0])) mn (HO.lst ((List.replicate hn.toNat (0:Int)).map V.int)))=H5 at I0 ⊢;refine ⟨_,rfl,a,rfl,⟨_,aW.of (I0.sm _ _ ha)⟩, ?_⟩
  refine mz (K:=K) (a:=a) (xs:=vs) (fun j σ H2=>∃x1 x2 x3 x4 x5 x6 x7 x8 x9 x10,σ=Sw a hn rw' cl br mn x1 x2 x3 x4 x5 x6 x7 x8 x9 x10/\V8 ws hn H H2 a rw' cl br mn j)
   ⟨none,none,none,none,none,none,none,none,none,none,rfl,I0⟩ (fun j σ H2 _ ⟨_,_,_,_,_,_,_,_,_,_,_,I⟩=>aW.of (I.sm _ _ ha)) ?_ ?_
  ·rintro j v σ H2 hj ⟨x1,x2,x3,x4,x5,x6,x7,x8,x9,x10,rfl,I⟩
   have jl:j<ws.length:=by have:=(List.getElem?_eq_some_iff.mp hj).1;(clear hj f5 f3 f2 f1 n35 n25 n15 n23 n13 n12 h5 h4 h3 h2 h1 ha wl hn1 hn0;omega)
   obtain ⟨y,ey⟩:∃y,ws[j]? = some y:=⟨ws[j],by simp [jl]⟩;obtain ⟨dd,ed,dy⟩:=dv.get hj;rw [List.getElem?_map,ey] at ed;cases ed;obtain ⟨t,rfl,ht⟩:=gb dy;obtain ⟨⟨y0,y1⟩,ykd,_⟩:=ok y (List.mem_of_getElem? ey);have lE:=bN ey;refine ⟨t,_,rfl,cu.of (I.sm _ _ ht),rfl,_,_,rfl,_,_,rfl,_,_,rfl,rfl, ?_⟩;refine ⟨(by show 1<=sizeLine;decide),fun l0 hl0=> ?_⟩;have s6:=aC (o:=HO.lst [V.int 0]) hl0;refine ⟨_,rfl,l0,_,_,rfl,rfl,ak,by (clear hl0 lE y1 y0 hj ht ey jl f5 f3 f2 f1 n35 n25 n15 n23 n13 n12 h5 h4 h3 h2 h1 dj ha wl hn1;omega),by (clear hl0 lE y1 y0 hj ht ey jl f5 f3 f2 f1 n35 n25 n15 n23 n13 n12 h5 h4 h3 h2 h1 dj ha wl hn0;omega),by rw [sizeLine_eq];simp;(clear hl0 lE y1 y0 hj ht ey jl f5 f3 f2 f1 n35 n25 n15 n23 n13 n12 h5 h4 h3 h2 h1 dj ha wl hn0;omega),fun gt hgt=> ?_⟩;rw [Ly];have s7:=aC (o:=HO.lst ((List.replicate hn.toNat (0:Int)).map V.int)) hgt;refine ⟨(by show 0<=sizeLine;decide),fun fr hfr=> ?_⟩;have s8:=aC (o:=HO.lst []) hfr;have s27:=s6.trans s7;have Zi:=s27.trans s8;have g0:H2 gt=none:=s6.free hgt;have r0:H2 fr=none:=s27.free hfr;have mX:gt≠fr:=aB ak hfr;have gj:(upd (upd (upd H2 l0 (HO.lst [V.int 0])) gt (HO.lst ((List.replicate hn.toNat (0:Int)).map V.int))) fr (HO.lst [])) gt=some (.lst ((List.replicate hn.toNat (0:Int)).map V.int)):=s8 _ _ ak;have gk:(upd (upd (upd H2 l0 (HO.lst [V.int 0])) gt (HO.lst ((List.replicate hn.toNat (0:Int)).map V.int))) fr (HO.lst [])) fr=some (.lst []):=ak;generalize (upd (upd (upd H2 l0 (HO.lst [V.int 0])) gt (HO.lst ((List.replicate hn.toNat (0:Int)).map V.int))) fr (HO.lst []))=H8 at Zi gj gk ⊢;obtain ⟨rs,hrs,rl,_⟩:=id I.rows;refine ⟨_,rfl,rw',_,rfl,.inl (aW.of (Zi _ _ hrs)),_,_,rfl,rfl,_,rfl,_,rfl,(j:Int) - 1, -1,by rw [List.length_map,rl],⟨by (clear rl hrs gk gj mX r0 g0 hfr hgt hl0 lE y1 y0 hj ht ey jl f5 f3 f2 f1 n35 n25 n15 n23 n13 n12 h5 h4 h3 h2 h1 dj ha wl hn1 hn0;omega),by (clear rl hrs gk gj mX r0 g0 hfr hgt hl0 lE y1 y0 hj ht ey f5 f3 f2 f1 n35 n25 n15 n23 n13 n12 h5 h4 h3 h2 h1 dj ha hn1 hn0;omega),by (clear rl hrs gk gj mX r0 g0 hfr hgt hl0 lE y1 y0 hj ht ey jl f5 f3 f2 f1 n35 n25 n15 n23 n13 n12 h5 h4 h3 h2 h1 dj ha wl hn1 hn0;omega),by (clear rl hrs gk gj mX r0 g0 hfr hgt hl0 lE y1 y0 hj ht ey jl f5 f3 f2 f1 n35 n25 n15 n23 n13 n12 h5 h4 h3 h2 h1 dj ha wl hn1 hn0;omega)⟩, ?_⟩;rw [show ((j:Int) - 1 - (-1)).toNat=j by (clear rl hrs gk gj mX r0 g0 hfr hgt hl0 lE y1 y0 hj ht ey jl f5 f3 f2 f1 n35 n25 n15 n23 n13 n12 h5 h4 h3 h2 h1 dj ha wl hn1 hn0;omega)]
   refine tR (hi:=(j:Int) - 1) (n:=j) (fun i σ H9=>∃(gt:Addr) (row:List Int) (x6 x7 x8 x9 x10:Option V),σ=Sw a hn rw' cl br mn (some (.int y.1)) (some (.str y.2.1)) (some (.int y.2.2)) (some (.ref gt)) (some (.ref fr)) x6 x7 x8 x9 x10/\Same H2 H9/\H2 gt=none/\gt≠fr/\H9 gt=some (.lst (row.map V.int))/\o_ ws hn.toNat row (yd ws j (j - i)) j/\fH H9 fr (aR ws j (bC ws j i)))
    ⟨gt,List.replicate hn.toNat 0,_,_,_,_,_,rfl,Zi,g0,mX,gj,⟨by simp,fun m x ex=>⟨fun z=> ?_,fun ⟨x,q1,q2,_⟩=> ?_⟩,fun h=>by rw [Cz];exact ⟨Int.le_refl _,dG _ _⟩⟩,⟨[],gk,by simp [bC,aR,aD]⟩⟩ ?_ ?_
   ·rw [Cz] at z
    have:=dG (ws.take m) x.1;omega
   ·have:=(cA q2).1
    omega
   ·rintro i σ H9 hi ⟨gt,row,x6,x7,x8,x9,x10,rfl,s9,g0,mX,pC,rh,N9⟩
    have ee:(j:Int) - 1 - (i:Int)=((j - 1 - i:Nat):Int):=by (clear pC mX g0 rl hrs gk gj r0 hfr hgt hl0 lE y1 y0 hj ht ey jl f5 f3 f2 f1 n35 n25 n15 n23 n13 n12 h5 h4 h3 h2 h1 dj ha wl hn1 hn0;omega)
    rw [ee];have bs:=uG ws j i;have bl:=nq ws j i;generalize he:j - 1 - i=e at bs;have el:e<ws.length:=by (clear bs bl ee pC mX g0 hi rl hrs gk gj r0 hfr hgt hl0 lE y1 y0 hj ht ey f5 f3 f2 f1 n35 n25 n15 n23 n13 n12 h5 h4 h3 h2 h1 dj ha wl hn1 hn0;omega)
    have ej:e<j:=by (clear el bs bl ee pC mX g0 rl hrs gk gj r0 hfr hgt hl0 lE y1 y0 hj ht ey jl f5 f3 f2 f1 n35 n25 n15 n23 n13 n12 h5 h4 h3 h2 h1 dj ha wl hn1 hn0;omega)
    have e1:j - i=e+1:=by (clear ej el bs bl ee pC mX g0 rl hrs gk gj r0 hfr hgt hl0 lE y1 y0 hj ht ey jl f5 f3 f2 f1 n35 n25 n15 n23 n13 n12 h5 h4 h3 h2 h1 dj ha wl hn1 hn0;omega)
    have e2:j - (i+1)=e:=by (clear e1 ej el bs bl ee pC mX g0 hi rl hrs gk gj r0 hfr hgt hl0 lE y1 y0 hj ht ey jl f5 f3 f2 f1 n35 n25 n15 n23 n13 n12 h5 h4 h3 h2 h1 dj ha wl hn1 hn0;omega)
    rw [e1] at rh;rw [e2];obtain ⟨x,ex⟩:∃x,ws[e]? = some x:=⟨ws[e],by simp [el]⟩;obtain ⟨⟨x0,x1'⟩,xkd,_⟩:=ok x (List.mem_of_getElem? ex);have HS:=bN ex;have sH9:=I.sm.trans s9;obtain ⟨us,tx,hus,Pk,htx⟩:=qY (W.same sH9) ex;have qQ:gQ ws e j=(decide (x.1=y.1)||mt x y):=by unfold gQ Bg;rw [ex,ey,decide_eq_true ej,Bool.true_and]
    have xX:=rh.1;refine ⟨_,rfl,_,rfl,_,_,_,_,rfl,rfl,aW.of hus,cP Pk,tx,_,rfl,cu.of htx,rfl,_,_,rfl,_,_,rfl,_,_,rfl,rfl, ?_⟩;dsimp only;refine j7 (fun σ Ia=>Ia=H9/\σ=Sw a hn rw' cl br mn (some (.int y.1)) (some (.str y.2.1)) (some (.int y.2.2)) (some (.ref gt)) (some (.ref fr)) (some (.int (e:Int))) (some (.int x.1)) (some (.str x.2.1)) (some (.int x.2.2)) (some (.bl (mt x y)))) (fun D' hD' _=> ?_) ?_
    ·have fin:∀b:Bool,b=mt x y->D'.nx (Sw a hn rw' cl br mn (some (.int y.1)) (some (.str y.2.1)) (some (.int y.2.2)) (some (.ref gt)) (some (.ref fr)) (some (.int (e:Int))) (some (.int x.1)) (some (.str x.2.1)) (some (.int x.2.2)) (some (.bl b))) H9:=fun b hb=>hD' _ _ ⟨rfl,by rw [hb]⟩
     refine ⟨_,rfl,_,rfl,rfl,_,rfl, ?_⟩
     by_cases c1:x.1=y.1
     ·rw [show (!decide (V.int x.1=V.int y.1))=false by simp [c1]]
      refine fK ?_;exact fin false (by unfold mt;rw [if_pos c1])
     rw [show (!decide (V.int x.1=V.int y.1))=true by simp [c1]];refine iJ ?_;refine ⟨_,rfl,_,rfl,rfl,_,rfl, ?_⟩
     by_cases c2:x.2.2=y.2.2
     rotate_left
     ·rw [show decide (V.int x.2.2=V.int y.2.2)=false by simp [c2]]
      refine fK ?_;exact fin false (by unfold mt;rw [if_neg c1,if_neg c2])
     rw [show decide (V.int x.2.2=V.int y.2.2)=true by simp [c2]];refine iJ ?_;refine ⟨_,rfl,rfl,_,rfl, ?_⟩
     by_cases c3:y.2.1 = "load"
     ·rw [show (!decide (V.str y.2.1=V.str "load"))=false by simp [c3]]
      refine fK ?_;refine ⟨_,rfl,rfl, ?_⟩;refine fin _ ?_;unfold mt;rw [if_neg c1,if_pos c2,c3]
      by_cases c4:x.2.1 = "load"
      ·rw [if_pos c4];simp [c4]
      ·rw [if_neg c4];simp [c4]
     ·rw [show (!decide (V.str y.2.1=V.str "load"))=true by simp [c3]]
      refine iJ ?_;refine fin true ?_;unfold mt;rw [if_neg c1,if_pos c2]
      by_cases c4:x.2.1 = "load"
      ·rw [if_pos c4];simp [c3]
      ·rw [if_neg c4]
    rintro σ Ia ⟨rfl,rfl⟩;have iV:Ia cl=some (.lst ((xZ ws j).map V.int)):=s9 _ _ I.called;have hcle:vU ((xZ ws j).map V.int) ((e:Nat):Int)=some (V.int (cnt (ws.take e) (hnd ws e))):=cP (by rw [List.getElem?_map,Ob ej];rfl);have rx:=rh.2.1 e x ex;refine j7 (fun σ Yo=>σ=Sw a hn rw' cl br mn (some (.int y.1)) (some (.str y.2.1)) (some (.int y.2.2)) (some (.ref gt)) (some (.ref fr)) (some (.int (e:Int))) (some (.int x.1)) (some (.str x.2.1)) (some (.int x.2.2)) (some (.bl (mt x y)))/\Same H2 Yo/\Yo gt=some (.lst (row.map V.int))/\fH Yo fr (aR ws j (bC ws j (i+1)))) (fun D' hD' _=> ?_) ?_
    ·have stay:¬(Bare ws j e /\ ¬hnd ws e=hnd ws j)->D'.nx (Sw a hn rw' cl br mn (some (.int y.1)) (some (.str y.2.1)) (some (.int y.2.2)) (some (.ref gt)) (some (.ref fr)) (some (.int (e:Int))) (some (.int x.1)) (some (.str x.2.1)) (some (.int x.2.2)) (some (.bl (mt x y)))) Ia:=fun nb=>hD' _ _ ⟨rfl,s9,pC,by
      rw [bs,qp]
      by_cases b1:Bare ws j e
      ·have b2:hnd ws e=hnd ws j:=Classical.byContradiction fun z=>nb ⟨b1,z⟩
       rw [if_pos b1];simp only [aR,List.filter_cons,b2,not_true_eq_false,decide_false,Bool.false_eq_true,if_false,List.filter_nil,List.map_nil,List.append_nil];exact N9
      ·rw [if_neg b1]
       simp only [aR,List.filter_nil,List.map_nil,List.append_nil];exact N9⟩
     refine ⟨_,rfl,_,rfl, ?_⟩
     by_cases mm:mt x y=true
     rotate_left
     ·have mm':mt x y=false:=by simpa using mm
      refine kj (fun z=>absurd z mm) (fun _=> ?_);refine kj (fun z=>absurd z (by decide)) (fun _=> ?_);refine stay fun z=> ?_;have st:=z.1.1;rw [qQ,mm',Bool.or_false] at st;exact z.2 (by rw [HS,lE];exact of_decide_eq_true st)
     refine kj (fun _=> ?_) (fun z=>absurd mm z);have hne:¬x.1=y.1:=fun z=>by unfold mt at mm;rw [if_pos z] at mm;cases mm
     have st:gQ ws e j=true:=by rw [qQ,mm,Bool.or_true]
     refine ⟨_,rfl,_,rfl,_,_,_,_,rfl,rfl,aW.of iV,hcle,_,rfl,_,rfl,_,_,_,_,rfl,rfl,aW.of pC,dX x0 (by (clear st hne mm rx hcle iV htx hus pC qQ Pk HS x0 ex e2 e1 ej el bs he bl ee mX g0 hi rl hrs gk gj r0 hfr hgt hl0 lE y1 y0 hj ht ey jl f5 f3 f2 f1 n35 n25 n15 n23 n13 n12 h5 h4 h3 h2 h1 dj ha wl hn1 hn0;omega)),_,_,rfl,rfl,_,rfl, ?_⟩;rw [HS]
     by_cases cv:yd ws j (e+1) e
     ·have lt:=rx.mpr cv
      rw [decide_eq_false (show ¬gI row x.1<=cnt (ws.take e) x.1 by (clear st hne mm rx hcle iV htx hus pC xX qQ Pk HS x1' x0 ex e2 e1 ej el bs he bl ee mX g0 hi rl hrs gk gj r0 hfr hgt hl0 lE y1 y0 hj ht ey jl f5 f3 f2 f1 n35 n25 n15 n23 n13 n12 h5 h4 h3 h2 h1 dj ha wl hn1 hn0;omega))];refine fK ?_;exact stay fun z=>z.1.2 cv
     ·have ge:¬cnt (ws.take e) x.1<gI row x.1:=fun z=>cv (rx.mp z)
      rw [decide_eq_true (show gI row x.1<=cnt (ws.take e) x.1 by (clear cv st hne mm rx hcle iV htx hus pC xX qQ Pk HS x1' x0 ex e2 e1 ej el bs he bl ee mX g0 hi rl hrs gk gj r0 hfr hgt hl0 lE y1 y0 hj ht ey jl f5 f3 f2 f1 n35 n25 n15 n23 n13 n12 h5 h4 h3 h2 h1 dj ha wl hn1 hn0;omega))];refine iJ ?_;obtain ⟨ms,hm,ml,mg⟩:=I.many;obtain ⟨ts,hts,Pn⟩:=id N9;have tl:ts.length<=i:=by rw [Pn.length,List.length_map];exact Nat.le_trans (lW ws j _) bl
      refine ⟨_,rfl,.inl ⟨rfl,_,aW.of hts⟩,_,rfl,_,rfl,_,rfl,_,_,_,_,rfl,rfl,aW.of iV,hcle,_,rfl,_,rfl,_,rfl,_,_,_,_,rfl,rfl,aW.of (s9 _ _ hm),dX y0 (by (clear tl hts hm ge cv st hne mm rx hcle iV htx hus pC xX qQ Pk HS x1' x0 ex e2 e1 ej el bs he bl ee mX g0 hi rl hrs gk gj r0 hfr hgt hl0 lE y0 hj ht ey jl f5 f3 f2 f1 n35 n25 n15 n23 n13 n12 h5 h4 h3 h2 h1 dj ha wl hn1 hn0;omega)),(by show 4<=sizeLine;decide),fun q hq=> ?_⟩;rw [mg y.1 y0 y1,←HS,←lE];have sq:=aC (o:=HO.tup [V.int (hnd ws e),V.int (cnt (ws.take e) (hnd ws e)),V.int (hnd ws j),V.int (cnt (ws.take j) (hnd ws j))]) hq;refine ⟨fr,ts,_,rfl,rfl,sq _ _ hts,by rw [sizeLine_eq];(clear hq hts ml hm ge cv st hne mm rx hcle iV htx hus pC xX qQ Pk HS x1' x0 ex e2 e1 ej el bs he bl ee mX g0 rl hrs gk gj r0 hfr hgt hl0 lE y1 y0 hj ht ey f5 f3 f2 f1 n35 n25 n15 n23 n13 n12 h5 h4 h3 h2 h1 dj ha hn1 hn0;omega), ?_⟩;have kf:Kp fr (upd Ia q (HO.tup [V.int (hnd ws e),V.int (cnt (ws.take e) (hnd ws e)),V.int (hnd ws j),V.int (cnt (ws.take j) (hnd ws j))])) (upd (upd Ia q (HO.tup [V.int (hnd ws e),V.int (cnt (ws.take e) (hnd ws e)),V.int (hnd ws j),V.int (cnt (ws.take j) (hnd ws j))])) fr (.lst (ts++[V.ref q]))):=Kp.set;have tf:=kf.tups (sq _ _ hts);refine hD' _ _ ⟨by rw [HS,lE],fun b u e=>kf _ _ (sq _ _ (s9 _ _ e)) (aB e r0),kf _ _ (sq _ _ pC) mX,ts++[V.ref q],ak, ?_⟩;have nb:Bare ws j e:=⟨st,cv⟩;have hne':¬hnd ws e=hnd ws j:=by rw [HS,lE];exact hne
      rw [bs,if_pos nb,qp,List.map_append];refine aD.append (aD.keep (fun a xs h=>tf _ _ (sq.tups _ _ h)) _ (aX _ dW _) Pn) ?_;simp only [aR,List.filter_cons,hne',not_false_eq_true,decide_true,if_true,List.filter_nil,List.map_cons,List.map_nil];exact tX (tZ (x:=bU ws e j) (tf _ _ ak))
    rintro σ Yo ⟨rfl,Wr,J3,N11⟩;obtain ⟨Zk,Rg,rl2,rq2⟩:=I.rows.same (ji ws hn.toNat) Wr;have er:e<Zk.length:=by (clear Rg J3 rx hcle iV htx hus pC xX qQ Pk HS x1' x0 ex e2 e1 ej el bs bl ee mX g0 rl hrs gk gj r0 hfr hgt hl0 lE y1 y0 hj ht ey jl f5 f3 f2 f1 n35 n25 n15 n23 n13 n12 h5 h4 h3 h2 h1 dj ha wl hn1 hn0;omega)
    obtain ⟨rr,err⟩:∃rr,Zk[e]? = some rr:=⟨Zk[e],by simp [er]⟩;obtain ⟨_,re,Rh,rhe⟩:=rq2 e rr err;have rel:=rhe.1;refine ⟨_,rfl,_,rfl, ?_⟩
    by_cases st:gQ ws e j=true
    rotate_left
    ·have mm:mt x y=false:=by
      cases q:mt x y with
      | false=>rfl
      | true=>rw [qQ,q,Bool.or_true] at st;exact absurd rfl st
     have hne:¬x.1=y.1:=fun z=>by rw [qQ,decide_eq_true z,Bool.true_or] at st;exact absurd rfl st
     rw [mm];refine fK ?_;refine ⟨_,rfl,_,rfl,rfl,_,rfl, ?_⟩;rw [show decide (V.int x.1=V.int y.1)=false by simp [hne]];refine fK ?_;exact ⟨gt,row,_,_,_,_,_,rfl,Wr,g0,mX,J3,rh.iff fun m=>z6 st,N11⟩
    refine Nm ?_ (fun mm core=> ?_)
    rotate_left
    ·have mm:mt x y=false:=by simpa using mm
     have heq:x.1=y.1:=by rw [qQ,mm,Bool.or_false] at st;exact of_decide_eq_true st
     refine ⟨_,rfl,_,rfl,rfl,_,rfl, ?_⟩;rw [show decide (V.int x.1=V.int y.1)=true by simp [heq]];exact iJ core
    refine ⟨_,rfl,_,rfl,_,rfl,_,_,_,_,rfl,rfl,aW.of Rg,cP (by rw [List.getElem?_map,err];rfl),gt,rr,_,_,rfl,aW.of J3,aW.of Rh,fun D hD=> ?_⟩;refine m7 (K:=K) (n:=hn.toNat) (by rw [List.length_map,xX]) (by rw [List.length_map,rel]) (fun h=>some (.int (mx (gI row (h:Int)) (gI re (h:Int))))) hD (aW.of J3) (aW.of Rh) (by (clear hD st rel Rh err er rl2 Rg J3 rx hcle iV htx hus pC xX qQ Pk HS x1' x0 ex e2 e1 ej el bs he bl ee mX g0 hi rl hrs gk gj r0 hfr hgt hl0 lE y1 y0 hj ht ey jl f5 f3 f2 f1 n35 n25 n15 n23 n13 n12 h5 h4 h3 h2 h1 dj ha wl hn0;omega)) (fun h u v H_ G F hu hv s12 kG kF=> ?_) (fun H_ s12 e12=> ?_)
    ·rw [List.getElem?_map] at hu hv
     cases eu:row[h]? with
     | none=>rw [eu] at hu;cases hu
     | some uu=>
       cases ev:re[h]? with
       | none=>rw [ev] at hv;cases hv
       | some vv=>
         rw [eu] at hu;rw [ev] at hv;cases hu;cases hv;exact ⟨_,rfl,_,rfl,_,_,rfl,kF _ H_ (Same.refl _) (by rw [eU eu,eU ev];rfl)⟩
    have acr:H_ D=some (.lst ((Ec hn.toNat row re).map V.int)):=by
     rw [e12];unfold Ec;rw [List.map_map,←List.filterMap_eq_map];rfl
    have nDf:D≠fr:=by
     obtain ⟨_,h,_⟩:=N11;exact (aB h hD).symm
    exact ⟨D,Ec hn.toNat row re,_,_,_,_,_,rfl,Wr.trans s12,Wr.free hD,nDf,acr,(Ja xY rh (rhe.mono (by omega))).iff fun m=>Et st,N11.same s12⟩
   ·rintro σ H9 ⟨gt,row,x6,x7,x8,x9,x10,rfl,s9,g0,mX,pC,rh,N9⟩
    rw [Nat.sub_self] at rh;have rh':=rh.iff fun m=>Es;have xX:=rh'.1;obtain ⟨ms,hm,ml,mg⟩:=I.many;have iV:=s9 _ _ I.called;have hm9:=s9 _ _ hm;have La:y.1<ms.length:=by (clear hm9 iV hm xX pC mX g0 rl hrs gk gj r0 hfr hgt hl0 lE y0 hj ht ey jl f5 f3 f2 f1 n35 n25 n15 n23 n13 n12 h5 h4 h3 h2 h1 dj ha wl hn1 hn0;omega)
    have Oa:(xZ ws j).length=j:=by unfold xZ;simp
    have f1':=I.rows;have Rr:=I.Yg;obtain ⟨rs0,qR,_,_⟩:=id I.rows;obtain ⟨bs0,tL,_,_⟩:=id I.Yg;refine ⟨_,rfl,.inl ⟨rfl,_,aW.of iV⟩,_,rfl,_,rfl,_,_,_,_,rfl,rfl,aW.of hm9,dX y0 (by (clear tL qR Oa La hm9 iV hm xX pC mX g0 rl hrs gk gj r0 hfr hgt hl0 lE y0 hj ht ey jl f5 f3 f2 f1 n35 n25 n15 n23 n13 n12 h5 h4 h3 h2 h1 dj ha wl hn1 hn0;omega)),cl,_,_,rfl,rfl,iV,by rw [List.length_map,sizeLine_eq];(clear tL qR La hm9 iV ml hm xX pC mX g0 rl hrs gk gj r0 hfr hgt hl0 lE y1 y0 hj ht ey f5 f3 f2 f1 n35 n25 n15 n23 n13 n12 h5 h4 h3 h2 h1 dj ha hn1 hn0;omega), ?_⟩;rw [mg y.1 y0 y1];have k1:Kp cl H9 (upd H9 cl (.lst ((xZ ws j).map V.int++[V.int (cnt (ws.take j) y.1)]))):=Kp.set;have hm1:=k1 _ _ hm9 n25.symm;refine ⟨_,rfl,_,rfl,_,_,_,_,rfl,rfl,aW.of hm1,dX y0 (by (clear hm1 tL qR Oa La hm9 iV hm xX pC mX g0 rl hrs gk gj r0 hfr hgt hl0 lE y0 hj ht ey jl f5 f3 f2 f1 n35 n25 n15 n23 n13 n12 h5 h4 h3 h2 h1 dj ha wl hn1 hn0;omega)),_,_,rfl,rfl,_,rfl,_,rfl,_,_,_,_,rfl,rfl,hm1,oN y0 (by rw [List.length_map];(clear hm1 tL qR Oa La hm9 iV hm xX pC mX g0 rl hrs gk gj r0 hfr hgt hl0 lE y0 hj ht ey jl f5 f3 f2 f1 n35 n25 n15 n23 n13 n12 h5 h4 h3 h2 h1 dj ha wl hn1 hn0;omega)), ?_⟩;rw [mg y.1 y0 y1];have k2:Kp mn (upd H9 cl (.lst ((xZ ws j).map V.int++[V.int (cnt (ws.take j) y.1)]))) (upd (upd H9 cl (.lst ((xZ ws j).map V.int++[V.int (cnt (ws.take j) y.1)]))) mn (.lst ((ms.map V.int).set y.1.toNat (V.int (cnt (ws.take j) y.1+1))))):=Kp.set;have hm2:(upd (upd H9 cl (.lst ((xZ ws j).map V.int++[V.int (cnt (ws.take j) y.1)]))) mn (.lst ((ms.map V.int).set y.1.toNat (V.int (cnt (ws.take j) y.1+1))))) mn=some (.lst ((ms.set y.1.toNat (cnt (ws.take j) y.1+1)).map V.int)):=by rw [ak,List.map_set]
    have zK:=k2 _ _ (ak (H:=H9) (a:=cl) (o:= .lst ((xZ ws j).map V.int++[V.int (cnt (ws.take j) y.1)]))) n25;have za:gt≠cl:=(aB I.called g0).symm;have yZ:gt≠mn:=(aB hm g0).symm;have BZ:gt≠rw':=(aB qR g0).symm;have Cj:gt≠br:=(aB tL g0).symm;have hg2:=k2 _ _ (k1 _ _ pC za) yZ;have Ci:fr≠cl:=(aB I.called r0).symm;have Ce:fr≠mn:=(aB hm r0).symm;have B_:fr≠rw':=(aB qR r0).symm;have N2:=(N9.kp (k1.tups iV) k1 Ci).kp (k2.tups hm1) k2 Ce;have T2:∀a xs,H2 a=some (HO.tup xs)->(upd (upd H9 cl (.lst ((xZ ws j).map V.int++[V.int (cnt (ws.take j) y.1)]))) mn (.lst ((ms.map V.int).set y.1.toNat (V.int (cnt (ws.take j) y.1+1))))) a=some (HO.tup xs):=fun a xs h=>k2.tups hm1 _ _ (k1.tups iV _ _ (s9.tups _ _ h));have S2:∀b u,H2 b=some u->b≠cl->b≠mn->(upd (upd H9 cl (.lst ((xZ ws j).map V.int++[V.int (cnt (ws.take j) y.1)]))) mn (.lst ((ms.map V.int).set y.1.toNat (V.int (cnt (ws.take j) y.1+1))))) b=some u:=fun b u e n1 n2=>k2 _ _ (k1 _ _ (s9 _ _ e) n1) n2;generalize (upd (upd H9 cl (.lst ((xZ ws j).map V.int++[V.int (cnt (ws.take j) y.1)]))) mn (.lst ((ms.map V.int).set y.1.toNat (V.int (cnt (ws.take j) y.1+1)))))=H_ at hm2 zK hg2 N2 S2 T2 ⊢;have Sg:gI (ms.set y.1.toNat (cnt (ws.take j) y.1+1)) y.1=cnt (ws.take j) y.1+1:=by rw [nY y0 (by (clear hg2 zK hm2 B_ Ce Ci Cj BZ yZ za hm1 tL qR Oa La hm9 iV hm xX pC mX g0 rl hrs gk gj r0 hfr hgt hl0 lE y0 hj ht ey jl f5 f3 f2 f1 n35 n25 n15 n23 n13 n12 h5 h4 h3 h2 h1 dj ha wl hn1 hn0;omega)) y0,if_pos rfl]
    refine ⟨_,rfl,_,rfl,_,_,_,_,rfl,rfl,aW.of hm2,dX y0 (by rw [List.length_set];(clear Sg hg2 zK hm2 B_ Ce Ci Cj BZ yZ za hm1 tL qR Oa La hm9 iV hm xX pC mX g0 rl hrs gk gj r0 hfr hgt hl0 lE y0 hj ht ey jl f5 f3 f2 f1 n35 n25 n15 n23 n13 n12 h5 h4 h3 h2 h1 dj ha wl hn1 hn0;omega)),_,rfl,_,rfl,_,_,_,_,rfl,rfl,hg2,oN y0 (by rw [List.length_map];(clear Sg hg2 zK hm2 B_ Ce Ci Cj BZ yZ za hm1 tL qR Oa La hm9 iV ml hm pC mX g0 rl hrs gk gj r0 hfr hgt hl0 lE y0 hj ht ey jl f5 f3 f2 f1 n35 n25 n15 n23 n13 n12 h5 h4 h3 h2 h1 dj ha wl hn1 hn0;omega)), ?_⟩;rw [Sg];have k3:Kp gt H_ (upd H_ gt (.lst ((row.map V.int).set y.1.toNat (V.int (cnt (ws.take j) y.1+1))))):=Kp.set;have Xp:(upd H_ gt (.lst ((row.map V.int).set y.1.toNat (V.int (cnt (ws.take j) y.1+1))))) gt=some (.lst ((row.set y.1.toNat (cnt (ws.take j) y.1+1)).map V.int)):=by rw [ak,List.map_set]
    have Tp:RowC ws hn.toNat (upd H_ gt (.lst ((row.map V.int).set y.1.toNat (V.int (cnt (ws.take j) y.1+1))))) j gt:=⟨_,Xp,Jb xY rh' ey⟩
    have S3:∀b u,H2 b=some u->b∉[cl,mn,gt]->(upd H_ gt (.lst ((row.map V.int).set y.1.toNat (V.int (cnt (ws.take j) y.1+1))))) b=some u:=fun b u e m=>by
     have m1:b≠cl:=fun z=>m (by simp [z]);have m2:b≠mn:=fun z=>m (by simp [z]);have m3:b≠gt:=fun z=>m (by simp [z]);exact k3 _ _ (S2 b u e m1 m2) m3
    have T3:∀a xs,H2 a=some (HO.tup xs)->(upd H_ gt (.lst ((row.map V.int).set y.1.toNat (V.int (cnt (ws.take j) y.1+1))))) a=some (HO.tup xs):=fun a xs h=>k3.tups hg2 _ _ (T2 _ _ h)
    have hW:∀x∈[cl,mn,gt],x∈[rw',cl,br,mn]\/H2 x=none:=fun x hx=>by
     simp only [List.mem_cons,List.not_mem_nil,or_false] at hx;rcases hx with rfl|rfl|rfl
     ·exact .inl (by simp)
     ·exact .inl (by simp)
     ·exact .inr g0
    have R3:=I.rows.move (ji _ _) [cl,mn,gt] S3 (by simp [n12,n15,BZ.symm]) hW T3;have B3:=I.Yg.move (lX _) [cl,mn,gt] S3 (by simp [n23.symm,n35,Cj.symm]) hW T3;have N3:=N2.kp (k3.tups hg2) k3 mX.symm;have J6:=k3 _ _ zK za.symm;have Uw:=k3 _ _ hm2 yZ.symm
    have S3':Same H (upd H_ gt (.lst ((row.map V.int).set y.1.toNat (V.int (cnt (ws.take j) y.1+1))))):=fun b u e=>S3 _ _ (I.sm _ _ e) (by
     simp only [List.mem_cons,List.not_mem_nil,or_false];rintro (z|z|z)
     ·exact aB e f2 z
     ·exact aB e f5 z
     ·exact aB e (I.sm.free g0) z)
    generalize (upd H_ gt (.lst ((row.map V.int).set y.1.toNat (V.int (cnt (ws.take j) y.1+1)))))=Yn at R3 B3 N3 J6 Uw S3' Tp ⊢
    obtain ⟨Zj,Cv,rl3,R4⟩:=R3.push (ji _ _) (by simp) (fun x hx=>by
     simp only [List.mem_cons,List.not_mem_nil,or_false] at hx;rcases hx with rfl|rfl|rfl|rfl<;>assumption) Tp
    refine ⟨_,rfl,.inl ⟨rfl,_,aW.of Cv⟩,_,rfl,rw',_,_,rfl,rfl,Cv,by rw [List.length_map,sizeLine_eq];(clear Cv Uw J6 Xp Sg hg2 zK hm2 B_ Ce Ci Cj BZ yZ za hm1 tL qR Oa La hm9 iV ml hm xX pC mX g0 rl hrs gk gj r0 hfr hgt hl0 lE y1 y0 hj ht ey f5 f3 f2 f1 n35 n25 n15 n23 n13 n12 h5 h4 h3 h2 h1 dj ha hn1 hn0;omega), ?_⟩;have k4:Kp rw' Yn (upd Yn rw' (.lst (Zj.map V.ref++[V.ref gt]))):=Kp.set;have B4:=B3.kp (lX _) k4 Cv n13.symm (by simp);have N4:=N3.kp (k4.tups Cv) k4 B_;have J5:=k4 _ _ J6 n12.symm;have Uv:=k4 _ _ Uw n15.symm;have S4:Same H (upd Yn rw' (.lst (Zj.map V.ref++[V.ref gt]))):=fun b u e=>k4 _ _ (S3' _ _ e) (aB e f1);generalize (upd Yn rw' (.lst (Zj.map V.ref++[V.ref gt])))=H14 at R4 B4 N4 J5 Uv S4 ⊢;obtain ⟨bs4,Nv,bl4,_⟩:=id B4;obtain ⟨rs4,Rf,rl4,_⟩:=id R4;refine ⟨_,rfl,.inl ⟨rfl,_,aW.of Nv⟩,_,rfl, ?_⟩;dsimp only [PJ];refine rZ (K:=K) N4 fun sl ns H15 hsl NN pp ss Qk=> ?_
    have re:∀e∈[rw',cl,br,mn],sl≠e:=fun x hx=>by
     simp only [List.mem_cons,List.not_mem_nil,or_false] at hx;rcases hx with rfl|rfl|rfl|rfl
     ·exact (aB Rf hsl).symm
     ·exact (aB J5 hsl).symm
     ·exact (aB Nv hsl).symm
     ·exact (aB Uv hsl).symm
    obtain ⟨bs5,Nu,bl5,B6⟩:=(B4.same (lX _) Qk).push (lX _) (by simp) re (show Yq ws H15 j sl from ⟨ns,NN,pp,ss⟩);refine ⟨br,_,_,rfl,rfl,Nu,by rw [List.length_map,sizeLine_eq];(clear Nu hsl rl4 Rf bl4 Nv Uv J5 rl3 Cv Uw J6 Xp Sg hg2 zK hm2 B_ Ce Ci Cj BZ yZ za hm1 tL qR Oa La hm9 iV ml hm xX pC mX g0 rl hrs gk gj r0 hfr hgt hl0 lE y1 y0 hj ht ey f5 f3 f2 f1 n35 n25 n15 n23 n13 n12 h5 h4 h3 h2 h1 dj ha hn1 hn0;omega), ?_⟩;have k6:Kp br H15 (upd H15 br (.lst (bs5.map V.ref++[V.ref sl]))):=Kp.set;refine ⟨_,_,_,_,_,_,_,_,_,_,rfl,⟨fun b u e=>k6 _ _ (Qk _ _ (S4 _ _ e)) (aB e f3),(R4.same (ji _ _) Qk).kp (ji _ _) k6 Nu n13 (by simp),B6, ?_,⟨ms.set y.1.toNat (cnt (ws.take j) y.1+1),k6 _ _ (Qk _ _ Uv) n35.symm,by simp [ml],fun h h0 h1=> ?_⟩⟩⟩
    ·rw [k6 _ _ (Qk _ _ J5) n23,Ku,List.map_append,lE]
     rfl
    ·have tk:ws.take (j+1)=ws.take j++[y]:=by rw [List.take_add_one,ey];rfl
     rw [nY y0 (by (clear tk h1 h0 bl5 Nu hsl rl4 Rf bl4 Nv Uv J5 rl3 Cv Uw J6 Xp Sg hg2 zK hm2 B_ Ce Ci Cj BZ yZ za hm1 tL qR Oa La hm9 iV hm xX pC mX g0 rl hrs gk gj r0 hfr hgt hl0 lE y0 hj ht ey jl f5 f3 f2 f1 n35 n25 n15 n23 n13 n12 h5 h4 h3 h2 dj ha wl hn1 hn0;omega)) h0,tk,b_]
     by_cases e:h=y.1
     ·subst e;rw [if_pos rfl,if_pos rfl]
     ·rw [if_neg e,if_neg e];exact mg h h0 h1
  ·rintro σ H2 ⟨x1,x2,x3,x4,x5,x6,x7,x8,x9,x10,rfl,I⟩
   rw [dj] at I;refine ⟨_,rfl,_,rfl,(by show 2<=sizeLine;decide),fun p hp=> ?_⟩;have sp:=aC (o:=HO.tup [V.ref rw',V.ref br]) hp;exact k p rw' br _ ak (I.rows.same (ji _ _) sp).any (I.Yg.same (lX _) sp).any f1 f3 (I.sm.trans sp)
def Cr (i:Int) (n:Nat):Prop:=0<=i/\i<(n:Int)
instance (i:Int) (n:Nat):Decidable (Cr i n):=inferInstanceAs (Decidable (_/\_))
def IW (K:PySem.W.Frag):Sp:=fun vs H Q _=>∃i:Int,vs=[.int i]/\Q (.bl true) H
theorem yR {f:Addr} {fd:FuncData} (F:jU K "is_whole" "is_whole" dM f fd) (Bt:qI mg):cY P w K mg base jM 1 f fd ["value"] (IW K):=by
 refine F.ok yD (fun vs H Q E h=> ?_) (fun cdv A outer s H vs Q E hr h=> ?_)
 ·obtain ⟨i,rfl,_⟩:=h
  rfl
 ·obtain ⟨i,rfl,k⟩:=h
  refine ⟨_,(aG (bw (lR (aO (d9 (K:=K) (cv:= .ty "int") (c:= .type "int") rfl rfl) (by rfl) Bt.bV bJ (aj (pv 0) (aj (fP (v:= .ty "int") (by rfl) Bt.Pq Kw rfl) ao))) (kh (Jq (aO (d9 (K:=K) (cv:= .ty "bool") (c:= .type "bool") rfl rfl) (by rfl) Bt.bV bJ (aj (pv 0) (aj (fP (v:= .ty "bool") (by rfl) Bt.KJ E_ rfl) ao)))))))), ?_⟩;refine ⟨_,rfl,_,_,true,rfl,.int i,qw K,true,rfl, ?_⟩;refine iJ ?_;exact ⟨_,rfl,_,_,false,rfl,.int i,oO K,false,rfl,k⟩
def oE (K:PySem.W.Frag):Sp:=fun vs H Q _=>∃(i:Int) (n:Nat),vs=[.int i,.int n]/\Q (.bl (decide (Cr i n))) H
theorem yS {f:Addr} {fd:FuncData} (F:jU K "is_below" "is_below" dO f fd) (jz:FnAt P w K mg base 1 "is_whole" ["value"] (IW K)):cY P w K mg base jM 2 f fd ["value","count"] (oE K):=by
 refine F.ok yF (fun vs H Q E h=> ?_) (fun cdv A outer s H vs Q E hr h=> ?_)
 ·obtain ⟨i,n,rfl,_⟩:=h
  rfl
 ·obtain ⟨i,n,rfl,k⟩:=h
  refine ⟨_,(aG (bw (lR (aU jz (hr.mono (by decide)) (by rfl) (aj (pv 0) ao)) (kh (Jt yO sV au (pv 0) (pv 1)))))), ?_⟩;refine ⟨_,rfl,i,rfl,true,rfl, ?_⟩;refine iJ ?_;refine ⟨_,rfl,_,_,rfl,rfl,_,rfl, ?_⟩;refine kj (fun h0=> ?_) (fun h0=> ?_)
  ·refine ⟨_,rfl,_,_,rfl,rfl, ?_⟩
   have e:decide (Cr i n)=decide (i<(n:Int)):=by
    have h0:=of_decide_eq_true h0;rw [Bool.eq_iff_iff,decide_eq_true_iff,decide_eq_true_iff];exact ⟨fun z=>z.2,fun z=>⟨h0,z⟩⟩
   show Q (.bl (decide (i<(n:Int)))) H;rw [←e];exact k
  ·have e:decide (Cr i n)=false:=decide_eq_false fun z=>h0 (decide_eq_true z.1)
   rw [←e];exact k
def RecAt (H:Hp) (t c a:Addr) (cs:List Int) (ns:List Nt):Prop:=H t=some (.tup [.ref c,.ref a])/\H c=some (.lst (cs.map V.int))/\fH H a ns
theorem RecAt.same {H H':Hp} {t c a:Addr} {cs:List Int} {ns:List Nt} (h:RecAt H t c a cs ns) (k:Same H H'):RecAt H' t c a cs ns:=⟨k _ _ h.1,k _ _ h.2.1,h.2.2.same k⟩
def uH (cs:List Int) (ns:List Nt):Prop:=K7 cs/\ns.length<=100000 /\ ∀x∈ns,KY cs x
theorem Kl (a b c d:V):jA [a,b,c,d] none (some 2)=[a,b]:=uc _ 2
theorem Kh (a b c d:V):jA [a,b,c,d] (some 2) none=[c,d]:=uf _ 2
theorem Bx {α:Type} (xs:List α) (h:xs.length=4):¬(HT.gR xs.length 0 none=0/\HT.gR xs.length xs.length (some 2)=xs.length):=by
 rw [h];decide
theorem Bw {α:Type} (xs:List α) (h:xs.length=4):¬(HT.gR xs.length 0 (some 2)=0/\HT.gR xs.length xs.length none=xs.length):=by
 rw [h];decide
def rT (K:PySem.W.Frag):Sp:=fun vs H Q _=>∃(t:Addr) (x:Nt),vs=[.ref t]/\H t=some (.tup (nV x)) /\ ∀H',Same H H'->Q (.bl (!decide (x.1=x.2.2.1))) H'
theorem BX {f:Addr} {fd:FuncData} (F:jU K "is_note" "is_note" eZ f fd) (jz:FnAt P w K mg base 1 "is_whole" ["value"] (IW K)) (Bt:qI mg):cY P w K mg base jM 2 f fd ["value"] (rT K):=by
 refine F.ok Bq (fun vs H Q E h=> ?_) (fun cdv A outer s H vs Q E hr h=> ?_)
 ·obtain ⟨t,x,rfl,_⟩:=h
  rfl
 ·obtain ⟨t,x,rfl,ht,k⟩:=h
  have gK:=hr.units
  refine ⟨_,(aA (dH (PW.pt (ql (eO (cV (aO (d9 (K:=K) (cv:= .ty "tuple") (c:= .type "tuple") rfl rfl) (by rfl) Bt.bV bJ (aj (pv 0) (aj (fP (v:= .ty "tuple") (by rfl) Bt.rH oZ rfl) ao))))) (nR (cF jQ (aO (aZ (K:=K) rfl) (by rfl) Bt.iM eV (aj (pv 0) ao)) au (bL _))))) (aG (bw oK)) bK)
   (aG (bw (lR (aO (d7 (K:=K) rfl rfl) (by rfl) Bt.Ae uz (aj (fO rfl (N:=["number"]) (own:=["number"]) (caps:=[]) (aQ.of (by kernel_rfl)) (Mi (K:=K) rfl (pv 0)) (fun _ _ _ _=>(aP (i:=0) (show List.Nodup (["number"]:List Str) by decide +kernel) rfl (Or.inl rfl))) (fun _ _ _ _=>eE) (fun _ _ _ _=>(aU jz (hr.mono (by decide)) (by rfl) (aj (pv 0) ao)))) ao)) (kh (gH jQ (aJ (aL (K:=K) rfl) (pv 0) au (fun _ _=>rfl)) (aJ (aL (K:=K) rfl) (pv 0) au (fun _ _=>rfl)) (bL _))))))), ?_⟩
  refine ⟨_,rfl,_,_,true,rfl,.tup ht,iT K,true,rfl, ?_⟩;refine fK ?_;refine ⟨_,rfl,t,_,rfl,.inr (cu.of ht),rfl,_,rfl, ?_⟩;refine nJ (by rfl) ?_;refine ⟨_,rfl,t,rfl,⟨_,cu.of ht⟩,fun D hD=> ?_⟩;refine G7 (K:=K) (fun i=>some (.bl true)) hD ht (by show 4<=100000;decide) (fun i v H2 G F hi s2 kG kF=> ?_) (fun H2 s2 e2=> ?_)
  ·obtain ⟨z,rfl⟩:∃z,v=V.int z:=by
    have hm:=List.mem_of_getElem? hi;simp only [nV,List.mem_cons,List.not_mem_nil,or_false] at hm;rcases hm with rfl|rfl|rfl|rfl<;>exact ⟨_,rfl⟩
   exact ⟨_,rfl,z,rfl,kF _ H2 (Same.refl _) rfl⟩
  ·refine ⟨D,[true,true,true,true],rfl,aW.of e2,true,rfl, ?_⟩
   refine iJ ?_;refine ⟨_,rfl,_,_,_,_,rfl,rfl,cu.of (s2 _ _ ht),rfl,_,rfl,_,_,_,_,rfl,rfl,cu.of (s2 _ _ ht),rfl,rfl, ?_⟩
   have e:(!decide (V.int x.1=V.int x.2.2.1))=(!decide (x.1=x.2.2.1)):=by
    by_cases q:x.1=x.2.2.1
    ·simp [q]
    ·simp [q]
   show Q (.bl (!decide (V.int x.1=V.int x.2.2.1))) H2;rw [e];exact k H2 s2
def pL (K:PySem.W.Frag):Sp:=fun vs H Q _=>∃(c t:Addr) (cs:List Int) (x:Nt),vs=[.ref c,.ref t]/\H c=some (.lst (cs.map V.int))/\H t=some (.tup (nV x))/\KY cs x/\K7 cs /\ ∀H',Same H H'->Q (.bl true) H'
theorem uU {f:Addr} {fd:FuncData} (F:jU K "is_between" "is_between" cJ f fd) (eX:FnAt P w K mg base 2 "is_below" ["value","count"] (oE K)) (HB:FnAt P w K mg base 2 "is_note" ["value"] (rT K)) (Bt:qI mg):cY P w K mg base jM 3 f fd ["counts","note"] (pL K):=by
 refine F.ok uQ (fun vs H Q E h=> ?_) (fun cdv A outer s H vs Q E hr h=> ?_)
 ·obtain ⟨c,t,cs,x,rfl,_⟩:=h
  rfl
 ·obtain ⟨c,t,cs,x,rfl,hc,ht,ok,Ye,k⟩:=h
  have gK:=hr.units;obtain ⟨⟨h0,h1⟩,⟨k0,k1⟩,⟨o0,o1⟩,⟨m0,m1⟩,hne⟩:=id ok
  refine ⟨_,(aA (dH (PW.pt (ql (eO (cV (aU HB (hr.mono (by decide)) (by rfl) (aj (pv 1) ao)))) (ql (eO (cV (aU eX (hr.mono (by decide)) (by rfl) (aj (aJ (aL (K:=K) rfl) (pv 1) au (fun _ _=>rfl)) (aj (aO (aZ (K:=K) rfl) (by rfl) Bt.iM eV (aj (pv 0) ao)) ao))))) (nR (eO (cV (aU eX (hr.mono (by decide)) (by rfl) (aj (aJ (aL (K:=K) rfl) (pv 1) au (fun _ _=>rfl)) (aj (aO (aZ (K:=K) rfl) (by rfl) Bt.iM eV (aj (pv 0) ao)) ao))))))))) (aG (bw oK)) bK)
   (aG (bw (lR (aU eX (hr.mono (by decide)) (by rfl) (aj (aJ (aL (K:=K) rfl) (pv 1) au (fun _ _=>rfl)) (aj (aJ (aK (K:=K) rfl) (pv 0) (aJ (aL (K:=K) rfl) (pv 1) au (fun _ _=>rfl)) (fun _ _=>rfl)) ao))) (kh (aU eX (hr.mono (by decide)) (by rfl) (aj (aJ (aL (K:=K) rfl) (pv 1) au (fun _ _=>rfl)) (aj (aJ (aK (K:=K) rfl) (pv 0) (aJ (aL (K:=K) rfl) (pv 1) au (fun _ _=>rfl)) (fun _ _=>rfl)) ao)))))))), ?_⟩
  refine ⟨_,rfl,t,x,rfl,ht,fun H1 s1=>⟨_,rfl, ?_⟩⟩;rw [show (!decide (x.1=x.2.2.1))=true by simp [hne]];refine fK ?_;have hc1:=s1 _ _ hc;have ht1:=s1 _ _ ht;refine ⟨_,rfl,_,_,_,_,rfl,rfl,cu.of ht1,rfl,_,rfl,c,_,rfl,.inl (aW.of hc1),_,_,rfl,_,rfl, ?_⟩;rw [show decide (Cr x.1 (cs.map V.int).length)=true by rw [List.length_map];simp [Cr,h0,h1]];refine fK ?_;refine ⟨_,rfl,_,_,_,_,rfl,rfl,cu.of ht1,rfl,_,rfl,c,_,rfl,.inl (aW.of hc1),_,_,rfl,_,rfl, ?_⟩;rw [show decide (Cr x.2.2.1 (cs.map V.int).length)=true by rw [List.length_map];simp [Cr,o0,o1]];refine fK ?_;have g1:=(Ye.gI x.1).1;have g2:=(Ye.gI x.2.2.1).1;have e1:gI cs x.1=((gI cs x.1).toNat:Int):=by omega
  have e2:gI cs x.2.2.1=((gI cs x.2.2.1).toNat:Int):=by omega
  refine ⟨_,rfl,_,_,_,_,rfl,rfl,cu.of ht1,rfl,_,rfl,_,rfl,_,_,_,_,rfl,rfl,cu.of ht1,rfl,_,_,_,_,rfl,rfl,aW.of hc1,dX h0 h1,x.2.1,(gI cs x.1).toNat,by rw [←e1];rfl,_,rfl, ?_⟩;rw [decide_eq_true (show Cr x.2.1 (gI cs x.1).toNat from ⟨k0,by omega⟩)];refine iJ ?_;refine ⟨_,rfl,_,_,_,_,rfl,rfl,cu.of ht1,rfl,_,rfl,_,rfl,_,_,_,_,rfl,rfl,cu.of ht1,rfl,_,_,_,_,rfl,rfl,aW.of hc1,dX o0 o1,x.2.2.2,(gI cs x.2.2.1).toNat,by rw [←e2];rfl, ?_⟩;rw [decide_eq_true (show Cr x.2.2.2 (gI cs x.2.2.1).toNat from ⟨m0,by omega⟩)];exact k H1 s1
def oh (K:PySem.W.Frag):Sp:=fun vs H Q _=>∃(t c a:Addr) (cs:List Int) (ns:List Nt),vs=[.ref t]/\RecAt H t c a cs ns/\uH cs ns /\ ∀H',Same H H'->Q .non H'
theorem zP (n:Nat) (v:V):(List.range n).filterMap (fun _=>some v)=List.replicate n v:=by
 induction n with
 | zero=>rfl
 | succ n ih=>rw [fQ,ih,List.replicate_succ'];rfl
theorem sW {f:Addr} {fd:FuncData} (F:jU K "check_notes" "check_notes" cj f fd) (xT:FnAt P w K mg base 3 "is_between" ["counts","note"] (pL K)) (Bt:qI mg):cY P w K mg base jM 4 f fd ["record"] (oh K):=by
 refine F.ok sE (fun vs H Q E h=> ?_) (fun cdv A outer s H vs Q E hr h=> ?_)
 ·obtain ⟨t,c,a,cs,ns,rfl,_⟩:=h
  rfl
 ·obtain ⟨t,c,a,cs,ns,rfl,⟨ht,hc,hN⟩,ok,k⟩:=h
  have gK:=hr.units;obtain ⟨vs,ha,dv⟩:=id hN;have vl:vs.length=ns.length:=by rw [dv.length,List.length_map]
  have nl:=ok.2.1;refine ⟨_,(aG (dH (eO (cV (aO (d7 (K:=K) rfl rfl) (by rfl) Bt.Ae uz (aj (fO rfl (N:=["note","record"]) (own:=["note"]) (caps:=[0]) (aQ.of (by kernel_rfl)) (cI (K:=K) rfl (aJ (aL (K:=K) rfl) (pv 0) au (fun _ _=>rfl))) (fun _ _ _ _=>(aP (i:=0) (show List.Nodup (["note","record"]:List Str) by decide +kernel) rfl (Or.inl rfl))) (fun _ _ _ _=>eE) (fun _ _ _ _=>(aU xT (hr.mono (by decide)) (by rfl) (aj (aJ (aL (K:=K) rfl) (pv 1) au (fun _ _=>rfl)) (aj (pv 0) ao))))) ao)))) (aG jO) bK)), ?_⟩;refine ⟨_,rfl,_,_,_,_,rfl,rfl,cu.of ht,rfl,a,rfl,⟨_,aW.of ha⟩,fun D hD=> ?_⟩;refine jw (K:=K) (fun i=>some (.bl true)) hD (aW.of ha) (by omega) (fun i v H2 G F hi s2 kG kF=> ?_) (fun H2 s2 e2=> ?_)
  ·obtain ⟨x,q,ex,rfl,hx⟩:=jB dv hi
   exact ⟨_,rfl,_,_,_,_,rfl,rfl,cu.of (s2 _ _ ht),rfl,_,rfl,c,q,cs,x,rfl,s2 _ _ hc,s2 _ _ hx,ok.2.2 x (List.mem_of_getElem? ex),ok.1,fun H3 s3=>kF _ H3 s3 rfl⟩
  ·rw [zP] at e2
   refine ⟨D,List.replicate vs.length true,rfl,aW.of (by rw [e2,List.map_replicate]),_,rfl, ?_⟩;rw [show (List.replicate vs.length true).all id=true by simp];refine fK ?_;exact k H2 s2
def fY (cs ds:List Int):Prop:=ds.length=cs.length /\ ∀i:Int,0<=i->i<cs.length->0<=gI ds i/\gI ds i<=gI cs i
def ou (K:PySem.W.Frag):Sp:=fun vs H Q _=>∃(t c a d:Addr) (cs ds:List Int) (ns:List Nt),vs=[.ref t,.ref d]/\RecAt H t c a cs ns/\K7 cs/\H d=some (.lst (ds.map V.int))/\fY cs ds /\ ∀H',Same H H'->Q .non H'
theorem uV {f:Addr} {fd:FuncData} (F:jU K "check_done" "check_done" cN f fd) (eX:FnAt P w K mg base 2 "is_below" ["value","count"] (oE K)) (Bt:qI mg):cY P w K mg base jM 3 f fd ["record","done"] (ou K):=by
 refine F.ok uR (fun vs H Q E h=> ?_) (fun cdv A outer s H vs Q E hr h=> ?_)
 ·obtain ⟨t,c,a,d,cs,ds,ns,rfl,_⟩:=h
  rfl
 ·obtain ⟨t,c,a,d,cs,ds,ns,rfl,⟨ht,hc,hN⟩,ok,hd,zR,k⟩:=h
  have gK:=hr.units
  refine ⟨_,(aA (dH (PW.pt (ql (eO (cV (aO (d9 (K:=K) (cv:= .ty "list") (c:= .type "list") rfl rfl) (by rfl) Bt.bV bJ (aj (pv 1) (aj (fP (v:= .ty "list") (by rfl) Bt.mH jF rfl) ao))))) (nR (cF jQ (aO (aZ (K:=K) rfl) (by rfl) Bt.iM eV (aj (pv 1) ao)) (aO (aZ (K:=K) rfl) (by rfl) Bt.iM eV (aj (aJ (aL (K:=K) rfl) (pv 0) au (fun _ _=>rfl)) ao)) (bL _))))) (aG jO) bK)
   (aG (dH (eO (cV (aO (d7 (K:=K) rfl rfl) (by rfl) Bt.Ae uz (aj (fO rfl (N:=["number","count"]) (own:=["number","count"]) (caps:=[]) (aQ.of (by kernel_rfl)) (rE (K:=K) rfl (by rfl) Bt.Fd (aj (pv 1) (aj (aJ (aL (K:=K) rfl) (pv 0) au (fun _ _=>rfl)) ao))) (fun _ _ _ _=>(iC (K:=K) (n:=2) rfl rfl (bB (aP (i:=0) (show List.Nodup (["number","count"]:List Str) by decide +kernel) rfl (Or.inl rfl)) (bB (aP (i:=1) (show List.Nodup (["number","count"]:List Str) by decide +kernel) rfl (Or.inl rfl)) iB)))) (fun _ _ _ _=>eE) (fun _ _ _ _=>(aU eX (hr.mono (by decide)) (by rfl) (aj (pv 0) (aj (bx cX (pv 1) au) ao))))) ao)))) (aG jO) bK))), ?_⟩
  have c8:=ok.1;refine ⟨_,rfl,_,_,true,rfl,.lst hd,jJ K,true,rfl, ?_⟩;refine fK ?_;refine ⟨_,rfl,d,_,rfl,.inl (aW.of hd),_,rfl,_,_,_,_,rfl,rfl,cu.of ht,rfl,c,_,rfl,.inl (aW.of hc),rfl,_,rfl, ?_⟩;refine nJ (by rw [List.length_map,List.length_map,zR.1]) ?_;refine ⟨_,rfl,_,rfl,_,_,_,_,rfl,rfl,cu.of ht,rfl,d,c,_,_,rfl,aW.of hd,aW.of hc,fun D hD=> ?_⟩;refine m7 (K:=K) (n:=cs.length) (by rw [List.length_map,zR.1]) (by rw [List.length_map]) (fun i=>some (.bl true)) hD (aW.of hd) (aW.of hc) (by omega) (fun i x y H2 G F hi hj s2 kG kF=> ?_) (fun H2 s2 e2=> ?_)
  ·rw [List.getElem?_map] at hi hj
   cases ei:ds[i]? with
   | none=>rw [ei] at hi;cases hi
   | some u=>
     cases ej:cs[i]? with
     | none=>rw [ej] at hj;cases hj
     | some v=>
       rw [ei] at hi;rw [ej] at hj;cases hi;cases hj;have il:i<cs.length:=(List.getElem?_eq_some_iff.mp ej).1;have q:=zR.2 (i:Int) (by omega) (by omega);rw [eU ei,eU ej] at q;refine ⟨_,rfl,_,rfl,_,_,rfl,rfl,u,(v+1).toNat,by rw [show (((v+1).toNat:Nat):Int)=v+1 by omega];rfl, ?_⟩;rw [decide_eq_true (show Cr u (v+1).toNat from ⟨q.1,by omega⟩)];exact kF _ H2 (Same.refl _) rfl
  ·rw [zP] at e2
   refine ⟨D,List.replicate cs.length true,rfl,aW.of (by rw [e2,List.map_replicate]),_,rfl, ?_⟩;rw [show (List.replicate cs.length true).all id=true by simp];refine fK ?_;exact k H2 s2
def Dy (K:PySem.W.Frag):Sp:=fun vs H Q _=>∃(d t:Addr) (ds:List Int) (h k:Int),vs=[.ref d,.ref t]/\H d=some (.lst (ds.map V.int))/\H t=some (.tup [.int h,.int k])/\0<=h/\h<ds.length/\Q (.bl (decide (k<gI ds h))) H
theorem QC {f:Addr} {fd:FuncData} (F:jU K "has" "has" oJ f fd):cY P w K mg base jM 1 f fd ["done","touch"] (Dy K):=by
 refine F.ok Qh (fun vs H Q E h=> ?_) (fun cdv A outer s H vs Q E hr h=> ?_)
 ·obtain ⟨d,t,ds,h,k,rfl,_⟩:=h
  rfl
 ·obtain ⟨d,t,ds,h,k,rfl,hd,ht,h0,h1,q⟩:=h
  refine ⟨_,(aG (bw (gH sV (aJ (aL (K:=K) rfl) (pv 1) au (fun _ _=>rfl)) (aJ (aK (K:=K) rfl) (pv 0) (aJ (aL (K:=K) rfl) (pv 1) au (fun _ _=>rfl)) (fun _ _=>rfl)) (bL _)))), ?_⟩;exact ⟨_,rfl,_,_,_,_,rfl,rfl,cu.of ht,rfl,_,rfl,_,rfl,_,_,_,_,rfl,rfl,cu.of ht,rfl,_,_,_,_,rfl,rfl,aW.of hd,dX h0 h1,_,_,rfl,rfl,q⟩
def oR (ds:List Int) (x:Nt):Bool:=decide (x.2.2.2<gI ds x.2.2.1) && !decide (x.2.1<gI ds x.1)
def brk (ds:List Int) (ns:List Nt):List Nt:=ns.filter (oR ds)
theorem wZ {H:Hp} (p:Nt->Bool):∀{vs:List V} {ns:List Nt},aD H vs (ns.map nD)->aD H ((List.range vs.length).filterMap fun i=>(ns[i]?).bind fun x=>if p x then vs[i]? else none) ((ns.filter p).map nD)
 | [],[],_=>by simp [aD]
 | [],_::_,h=>by simp only [List.map_cons,aD] at h
 | _::_,[],h=>by simp only [List.map_nil,aD] at h
 | v::vs,n::ns,h=>by
   simp only [List.map_cons,aD] at h;have ih:=wZ p h.2
   have e:(List.range (v::vs).length).filterMap (fun i=>((n::ns)[i]?).bind fun x=>if p x then (v::vs)[i]? else none)=(if p n then [v] else [])++(List.range vs.length).filterMap fun i=>(ns[i]?).bind fun x=>if p x then vs[i]? else none:=by
    rw [List.length_cons,List.range_succ_eq_map,List.filterMap_cons,List.filterMap_map];cases q:p n
    ·simp [q];rfl
    ·simp [q];rfl
   rw [e,List.filter_cons];cases q:p n
   ·simpa using ih
   ·simp only [if_true,List.cons_append,List.nil_append,List.map_cons,aD]
    exact ⟨h.1,ih⟩
def oA (K:PySem.W.Frag):Sp:=fun vs H Q _=>∃(t c a d:Addr) (cs ds:List Int) (ns:List Nt),vs=[.ref t,.ref d]/\RecAt H t c a cs ns/\uH cs ns/\H d=some (.lst (ds.map V.int))/\ds.length=cs.length /\ ∀(p:Addr) (H':Hp),H p=none->fH H' p (brk ds ns)->Same H H'->Q (.ref p) H'
theorem Gh {f:Addr} {fd:FuncData} (F:jU K "broken_notes" "broken_notes" bT f fd) (Aq:FnAt P w K mg base 1 "has" ["done","touch"] (Dy K)) (Bt:qI mg):cY P w K mg base jM 2 f fd ["record","done"] (oA K):=by
 refine F.ok qL (fun vs H Q E h=> ?_) (fun cdv A outer s H vs Q E hr h=> ?_)
 ·obtain ⟨t,c,a,d,cs,ds,ns,rfl,_⟩:=h
  rfl
 ·obtain ⟨t,c,a,d,cs,ds,ns,rfl,⟨ht,hc,hN⟩,ok,hd,dl,k⟩:=h
  have gK:=hr.units;obtain ⟨vs,ha,dv⟩:=id hN;have vl:vs.length=ns.length:=by rw [dv.length,List.length_map]
  have nl:=ok.2.1;refine ⟨_,(aG (bw (fO rfl (N:=["note","done"]) (own:=["note"]) (caps:=[1]) (aQ.of (by kernel_rfl)) (cI (K:=K) rfl (aJ (aL (K:=K) rfl) (pv 0) au (fun _ _=>rfl))) (fun _ _ _ _=>(aP (i:=0) (show List.Nodup (["note","done"]:List Str) by decide +kernel) rfl (Or.inl rfl))) (fun _ _ _ _=>(mU (PW.pt (wF (cV (aU Aq (hr.mono (by decide)) (by rfl) (aj (pv 1) (aj (fM (mQ (K:=K) rfl) (pv 0) (iy au) iz) ao)))) (rC (eO (cV (aU Aq (hr.mono (by decide)) (by rfl) (aj (pv 1) (aj (fM (mQ (K:=K) rfl) (pv 0) iz (iy au)) ao)))))))))) (fun _ _ _ _=>(pv 0))))), ?_⟩;refine ⟨_,rfl,_,_,_,_,rfl,rfl,cu.of ht,rfl,a,rfl,⟨_,aW.of ha⟩,fun D hD=> ?_⟩;refine jw (K:=K) (fun i=>(ns[i]?).bind fun x=>if oR ds x then vs[i]? else none) hD (aW.of ha) (by omega) (fun i v H2 G F hi s2 kG kF=> ?_) (fun H2 s2 e2=> ?_)
  ·obtain ⟨x,q,ex,rfl,hx⟩:=jB dv hi
   obtain ⟨⟨h0,h1⟩,⟨k0,k1⟩,⟨o0,o1⟩,⟨m0,m1⟩,hne⟩:=ok.2.2 x (List.mem_of_getElem? ex);have hx2:=s2 _ _ hx;have hd2:=s2 _ _ hd;simp only [ex,Option.bind_some,hi] at kG kF;refine ⟨_,rfl,_,rfl,_,rfl,_,_,rfl,cu.of hx2,Bw _ rfl,fun p1 hp1=> ?_⟩;have c2:jA (nV x) (some 2) none=[.int x.2.2.1,.int x.2.2.2]:=Kh ..;rw [c2];have Bm:=aC (o:=HO.tup [V.int x.2.2.1,V.int x.2.2.2]) hp1;refine ⟨d,p1,ds,_,_,rfl,Bm _ _ hd2,ak,o0,by omega,_,rfl, ?_⟩;refine kj (fun w=> ?_) (fun w=> ?_)
   ·refine ⟨_,rfl,_,rfl,_,rfl,_,_,rfl,cu.of (Bm _ _ hx2),Bx _ rfl,fun p2 hp2=> ?_⟩
    have c1:jA (nV x) none (some 2)=[.int x.1,.int x.2.1]:=Kl ..;rw [c1];have OJ:=aC (o:=HO.tup [V.int x.1,V.int x.2.1]) hp2;refine ⟨d,p2,ds,_,_,rfl,OJ _ _ (Bm _ _ hd2),ak,h0,by omega,_,rfl, ?_⟩;have s12:=Bm.trans OJ
    by_cases w2:x.2.1<gI ds x.1
    ·rw [decide_eq_true w2]
     refine fK ?_;exact kG _ s12 (by simp [oR,w2])
    ·rw [decide_eq_false w2]
     refine iJ ?_;exact ⟨_,rfl,kF _ _ s12 (by simp [oR,w2,of_decide_eq_true w])⟩
   ·have w':¬x.2.2.2<gI ds x.2.2.1:=fun z=>w (decide_eq_true z)
    exact kG _ Bm (by simp [oR,w'])
  ·refine k D H2 hD ⟨_,e2, ?_⟩ s2
   exact wZ (oR ds) (aD.keep s2.tups _ (aX _ dW ns) dv)
def wu (K:PySem.W.Frag):Sp:=fun vs H Q _=>∃(t c a d:Addr) (cs ds:List Int) (ns:List Nt),vs=[.ref t,.ref d]/\RecAt H t c a cs ns/\uH cs ns/\H d=some (.lst (ds.map V.int))/\fY cs ds /\ ∀H',Same H H'->Q (.bl (decide (brk ds ns=[]))) H'
theorem Gf {f:Addr} {fd:FuncData} (F:jU K "is_cut" "is_cut" gB f fd) (jL:FnAt P w K mg base 4 "check_notes" ["record"] (oh K)) (kZ:FnAt P w K mg base 3 "check_done" ["record","done"] (ou K)) (gP:FnAt P w K mg base 2 "broken_notes" ["record","done"] (oA K)) (Bt:qI mg):cY P w K mg base jM 5 f fd ["record","cut"] (wu K):=by
 refine F.ok FP (fun vs H Q E h=> ?_) (fun cdv A outer s H vs Q E hr h=> ?_)
 ·obtain ⟨t,c,a,d,cs,ds,ns,rfl,_⟩:=h
  rfl
 ·obtain ⟨t,c,a,d,cs,ds,ns,rfl,R,ok,hd,zR,k⟩:=h
  have gK:=hr.units
  refine ⟨_,(aA (dz (aU jL (hr.mono (by decide)) (by rfl) (aj (pv 0) ao)))
   (aA (dz (aU kZ (hr.mono (by decide)) (by rfl) (aj (pv 0) (aj (pv 1) ao))))
   (aG (bw (Mp (K:=K) rfl (aU gP (hr.mono (by decide)) (by rfl) (aj (pv 0) (aj (pv 1) ao)))))))), ?_⟩
  refine ⟨_,rfl,t,c,a,cs,ns,rfl,R,ok,fun H1 s1=> ?_⟩;refine ⟨_,rfl,_,rfl,t,c,a,d,cs,ds,ns,rfl,R.same s1,ok.1,s1 _ _ hd,zR,fun H2 s2=> ?_⟩;have s12:=s1.trans s2;refine ⟨_,rfl,_,rfl,t,c,a,d,cs,ds,ns,rfl,R.same s12,ok,s12 _ _ hd,zR.1,fun p H3 hp N s3=> ?_⟩;obtain ⟨vs,ha,dv⟩:=id N;have vl:vs.length=(brk ds ns).length:=by rw [dv.length,List.length_map]
  refine ⟨!vs.isEmpty,.inl ⟨vs,aW.of ha,rfl⟩, ?_⟩
  have e:(!!vs.isEmpty)=decide (brk ds ns=[]):=by
   rw [Bool.not_not];cases vs with
   | nil=>
     have:brk ds ns=[]:=List.length_eq_zero_iff.mp vl.symm;simp [this]
   | cons v vs=>
     have:brk ds ns≠[]:=fun z=>by rw [z] at vl;cases vl
     simp [this]
  rw [e];exact k H3 (s12.trans s3)
theorem sum_set:∀{ls:List Int} {i:Nat} {x:Int},ls[i]? = some x -> ∀y,(ls.set i y).sum=ls.sum - x+y
 | [],i,x,h,y=>by cases h
 | z::ls,0,x,h,y=>by
   cases h;simp only [List.set_cons_zero,List.sum_cons];omega
 | z::ls,i+1,x,h,y=>by
   simp only [List.set_cons_succ,List.sum_cons];rw [sum_set (ls:=ls) (i:=i) (x:=x) (by simpa using h) y];omega
def closed (ns:List Nt) (ds:List Int):Prop:=∀x∈ns,x.2.2.2<gI ds x.2.2.1->x.2.1<gI ds x.1
theorem xH {ns:List Nt} {ds:List Int}:brk ds ns=[]↔closed ns ds:=by
 unfold brk closed;rw [List.filter_eq_nil_iff];constructor
 ·intro h x hx hm
  have:=h x hx;simp only [oR,Bool.and_eq_true,decide_eq_true_eq,Bool.not_eq_true',decide_eq_false_iff_not,not_and,Decidable.not_not] at this;exact this hm
 ·intro h x hx
  simp only [oR,Bool.and_eq_true,decide_eq_true_eq,Bool.not_eq_true',decide_eq_false_iff_not,not_and,Decidable.not_not];exact h x hx
def vG (n:Nat) (ds es:List Int):Prop:=∀i:Int,0<=i->i<n->gI ds i<=gI es i
theorem vG.refl (n:Nat) (ds:List Int):vG n ds ds:=fun _ _ _=>Int.le_refl _
theorem vG.eq {n:Nat} {ds es:List Int} (h1:ds.length=n) (h2:es.length=n) (a:vG n ds es) (b:vG n es ds):ds=es:=by
 refine List.ext_getElem (by omega) fun i hi hi'=> ?_;have q1:=a (i:Int) (by omega) (by omega);have q2:=b (i:Int) (by omega) (by omega);rw [eU (cs:=ds) (i:=i) (c:=ds[i]) (by simp [hi]),eU (cs:=es) (i:=i) (c:=es[i]) (by simp [hi'])] at q1 q2;omega
theorem pF:∀{xs ys:List Int},xs.length=ys.length->(∀i:Nat,i<xs.length->gI xs (i:Int)<=gI ys (i:Int))->xs.sum<=ys.sum
 | [],[],_,_=>by simp
 | [],_::_,h,_=>by simp at h
 | _::_,[],h,_=>by simp at h
 | x::xs,y::ys,h,q=>by
   have q0:=q 0 (by simp)
   have ih:=pF (xs:=xs) (ys:=ys) (by simpa using h) fun i hi=>by
    have:=q (i+1) (by simp;omega);simpa [gI] using this
   simp [gI] at q0;rw [List.sum_cons,List.sum_cons];omega
theorem fY.sum {cs es:List Int} (h:fY cs es):0<=es.sum/\es.sum<=cs.sum:=by
 constructor
 ·have:(List.replicate es.length (0:Int)).sum<=es.sum:=pF (by simp) fun i hi=>by
   have hi':i<es.length:=by simpa using hi
   have:=(h.2 (i:Int) (by omega) (by rw [←h.1];omega)).1;simpa [gI,hi'] using this
  have z:(List.replicate es.length (0:Int)).sum=0:=by
   clear this h
   induction es.length with
   | zero=>rfl
   | succ n ih=>rw [List.replicate_succ,List.sum_cons,ih];rfl
  omega
 ·exact pF h.1 fun i hi=>(h.2 (i:Int) (by omega) (by rw [←h.1];omega)).2
theorem fY.set {cs ds:List Int} {h v:Int} (d:fY cs ds) (h0:0<=h) (h1:h<cs.length) (v0:0<=v) (v1:v<=gI cs h):fY cs (ds.set h.toNat v):=by
 refine ⟨by rw [List.length_set];exact d.1,fun i i0 i1=> ?_⟩;rw [nY h0 (by rw [d.1];exact h1) i0]
 by_cases e:i=h
 ·subst e;rw [if_pos rfl];exact ⟨v0,v1⟩
 ·rw [if_neg e];exact d.2 i i0 i1
theorem Rn {ds:List Int} {h v:Int} (h0:0<=h) (h1:h<ds.length):(ds.set h.toNat v).sum=ds.sum - gI ds h+v:=by
 have:h.toNat<ds.length:=by omega
 exact sum_set (by simp [gI,this]) v
def pq (cs:List Int) (ns:List Nt) (ds L:List Int):Prop:=fY cs L/\vG cs.length ds L/\closed ns L /\ ∀M:List Int,M.length=cs.length->vG cs.length ds M->closed ns M->vG cs.length L M
theorem pq.eq {cs:List Int} {ns:List Nt} {ds L L':List Int} (a:pq cs ns ds L) (b:pq cs ns ds L'):L=L':=
 vG.eq a.1.1 b.1.1 (a.2.2.2 L' b.1.1 b.2.1 b.2.2.1) (b.2.2.2 L a.1.1 a.2.1 a.2.2.1)
theorem M_ {ds:List Int} {ns:List Nt} {x:Nt} (h:x∈brk ds ns):x∈ns/\x.2.2.2<gI ds x.2.2.1/\gI ds x.1<=x.2.1:=by
 obtain ⟨a,b⟩:=List.mem_filter.mp h;simp only [oR,Bool.and_eq_true,decide_eq_true_eq,Bool.not_eq_true',decide_eq_false_iff_not] at b;exact ⟨a,b.1,by omega⟩
def wg (K:PySem.W.Frag):Sp:=fun vs H Q _=>∃(t c a d:Addr) (cs ds:List Int) (ns:List Nt),vs=[.ref t,.ref d]/\RecAt H t c a cs ns/\uH cs ns/\H d=some (.lst (ds.map V.int))/\fY cs ds /\ ∀(p:Addr) (L:List Int) (H':Hp),H p=none->H' p=some (.lst (L.map V.int))->pq cs ns ds L->Same H H'->Q (.ref p) H'
theorem JD {f:Addr} {fd:FuncData} (F:jU K "least_cut" "least_cut" dh f fd) (jL:FnAt P w K mg base 4 "check_notes" ["record"] (oh K)) (kZ:FnAt P w K mg base 3 "check_done" ["record","done"] (ou K)) (gP:FnAt P w K mg base 2 "broken_notes" ["record","done"] (oA K)) (Bt:qI mg):cY P w K mg base jM 5 f fd ["record","some"] (wg K):=by
 refine F.ok gA (fun vs H Q E h=> ?_) (fun cdv A outer s H vs Q E hr h=> ?_)
 ·obtain ⟨t,c,a,d,cs,ds,ns,rfl,_⟩:=h
  rfl
 ·obtain ⟨t,c,a,d,cs,ds,ns,rfl,R,ok,hd,zR,k⟩:=h
  have gK:=hr.units
  refine ⟨_,(aA (dz (aU jL (hr.mono (by decide)) (by rfl) (aj (pv 0) ao)))
   (aA (dz (aU kZ (hr.mono (by decide)) (by rfl) (aj (pv 0) (aj (pv 1) ao))))
   (aA (aV (i:=2) gA.nd rfl (Or.inl rfl) (mV (iG (K:=K) rfl) (by rfl) Bt.mH jF (aj (pv 1) ao)))
   (aA (aV (i:=3) gA.nd rfl (Or.inl rfl) (aU gP (hr.mono (by decide)) (by rfl) (aj (pv 0) (aj (pv 2) ao))))
   (aA (Ji PassesOwn.never (FZ (K:=K) rfl (pv 3)) (aA (jt PassesOwn.never rfl (cI (K:=K) rfl (pv 3)) (aP (i:=4) gA.nd rfl (Or.inl rfl))
   (aG (ju (aO (nj rfl) (by rfl) Bt.Fe xu (aj (aJ (aK (K:=K) rfl) (pv 2) (aJ (aL (K:=K) rfl) (pv 4) au (fun _ _=>rfl)) (fun _ _=>rfl)) (aj (bx cX (aJ (aL (K:=K) rfl) (pv 4) au (fun _ _=>rfl)) au) ao))) (j_ (pv 2) (aJ (aL (K:=K) rfl) (pv 4) au (fun _ _=>rfl)) set_list))))
   (aG (aV (i:=3) gA.nd rfl (Or.inl rfl) (aU gP (hr.mono (by decide)) (by rfl) (aj (pv 0) (aj (pv 2) ao)))))))
   (aG (bw (pv 2)))))))), ?_⟩
  refine ⟨_,rfl,t,c,a,cs,ns,rfl,R,ok,fun H1 s1=> ?_⟩;refine ⟨_,rfl,_,rfl,t,c,a,d,cs,ds,ns,rfl,R.same s1,ok.1,s1 _ _ hd,zR,fun H2 s2=> ?_⟩;have s12:=s1.trans s2;refine ⟨_,rfl,d,_,rfl,.inl (aW.of (s12 _ _ hd)),fun p hp=> ?_⟩;have s3:=aC (o:=HO.lst (ds.map V.int)) hp;have O2:=s12.trans s3;have hp0:H p=none:=s12.free hp;refine ⟨_,rfl,_,rfl,t,c,a,p,cs,ds,ns,rfl,R.same O2,ok,ak,zR.1,fun q H4 hq N4 s4=> ?_⟩;have Tj:=O2.trans s4;have nl:=ok.2.1
  refine ⟨fun m σ H5=>∃(es:List Int) (q:Addr) (x:Option V),σ=[some (.ref t),some (.ref d),some (.ref p),some (.ref q),x]/\H5 p=some (.lst (es.map V.int))/\p≠q/\fH H5 q (brk es ns)/\fY cs es/\vG cs.length ds es/\(∀M:List Int,M.length=cs.length->vG cs.length ds M->closed ns M->vG cs.length es M)/\Same H H5/\m=(cs.sum - es.sum).toNat,
   ⟨_,ds,q,none,rfl,s4 _ _ ak,aB ak hq,N4,zR,vG.refl _ _,fun M _ h _=>h,Tj,rfl⟩, ?_⟩
  rintro m σ H5 ⟨es,q,x,rfl,hp5,npq,N5,eok,ge,up,s5,rfl⟩;obtain ⟨vs,GP,dv⟩:=id N5;have vl:vs.length=(brk es ns).length:=by rw [dv.length,List.length_map]
  refine ⟨_,rfl, !vs.isEmpty,.inl ⟨vs,aW.of GP,rfl⟩, ?_⟩
  by_cases e0:brk es ns=[]
  ·have:vs=[]:=List.length_eq_zero_iff.mp (by rw [vl,e0];rfl)
   subst this;refine fK ?_;exact ⟨_,rfl,k p es H5 hp0 hp5 ⟨eok,ge,xH.mp e0,up⟩ s5⟩
  have hv:(!vs.isEmpty)=true:=by
   cases vs with
   | nil=>exact absurd (List.length_eq_zero_iff.mp vl.symm) e0
   | cons _ _=>rfl
  rw [hv];refine iJ ?_;refine ⟨fun σ' H'=>∃m',m'<(cs.sum - es.sum).toNat /\ ∃(es':List Int) (q:Addr) (x:Option V),σ'=[some (.ref t),some (.ref d),some (.ref p),some (.ref q),x]/\H' p=some (.lst (es'.map V.int))/\p≠q/\fH H' q (brk es' ns)/\fY cs es'/\vG cs.length ds es'/\(∀M:List Int,M.length=cs.length->vG cs.length ds M->closed ns M->vG cs.length es' M)/\Same H H'/\m'=(cs.sum - es'.sum).toNat,fun _ _ h=>h, ?_⟩;refine ⟨_,rfl,q,rfl,⟨_,aW.of GP⟩, ?_⟩
  refine mz (K:=K) (a:=q) (xs:=vs) (fun j σ H6=>∃(fs:List Int) (x:Option V),σ=[some (.ref t),some (.ref d),some (.ref p),some (.ref q),x]/\H6 p=some (.lst (fs.map V.int))/\Kp p H5 H6/\fY cs fs/\vG cs.length es fs/\(∀M:List Int,M.length=cs.length->vG cs.length ds M->closed ns M->vG cs.length fs M)/\es.sum<=fs.sum/\(j=0->fs=es)/\(0<j->es.sum<fs.sum))
   ⟨es,x,rfl,hp5,Kp.refl _ _,eok,vG.refl _ _,up,Int.le_refl _,fun _=>rfl,fun z=>absurd z (Nat.lt_irrefl _)⟩ (fun j σ H6 _ ⟨_,_,_,_,kp,_⟩=>aW.of (kp _ _ GP npq.symm)) ?_ ?_
  ·rintro j v σ H6 hj ⟨fs,x,rfl,Lg,WX,J_,Xq,Ys,sle,sz,spos⟩
   obtain ⟨y,u,ey,rfl,hy⟩:=jB dv hj;obtain ⟨ym,y2,y3⟩:=M_ (List.mem_of_getElem? ey);obtain ⟨⟨h0,h1⟩,⟨k0,k1⟩,⟨o0,o1⟩,⟨m0,m1⟩,hne⟩:=ok.2.2 y ym;have hy6:=WX.tups hp5 _ _ hy;refine ⟨_,rfl,_,rfl,_,_,_,_,rfl,rfl,cu.of hy6,rfl,_,_,_,_,rfl,rfl,aW.of Lg,dX h0 (by rw [J_.1];exact h1),_,rfl,_,_,_,_,rfl,rfl,cu.of hy6,rfl,_,_,rfl,rfl,_,_,rfl,_,rfl,_,rfl,_,_,_,_,rfl,rfl,cu.of hy6,rfl,_,_,_,_,rfl,rfl,Lg,oN h0 (by rw [List.length_map,J_.1];exact h1), ?_⟩;have qf:=J_.2 y.1 h0 h1;have gq:=Xq y.1 h0 h1;generalize hw:(if y.2.1+1>gI fs y.1 then y.2.1+1 else gI fs y.1)=w;have w1:gI fs y.1<=w:=by rw [←hw];split<;>omega
   have w2:w<=gI cs y.1:=by rw [←hw];split<;>omega
   have w3:y.2.1+1<=w:=by rw [←hw];split<;>omega
   have w4:w=gI fs y.1\/w=y.2.1+1:=by rw [←hw];split<;>omega
   have sm:=Rn (ds:=fs) (h:=y.1) (v:=w) h0 (by rw [J_.1];exact h1);refine ⟨fs.set y.1.toNat w,_,rfl, ?_,WX.trans Kp.set,J_.set h0 h1 (by omega) w2,fun i i0 i1=> ?_,fun M ml ge' cl=> ?_,by omega,fun z=>absurd z (by omega),fun _=> ?_⟩
   ·show (upd H6 p (.lst ((fs.map V.int).set y.1.toNat (V.int w)))) p=_
    rw [ak,List.map_set]
   ·rw [nY h0 (by rw [J_.1];exact h1) i0]
    have:=Xq i i0 i1
    by_cases e:i=y.1
    ·subst e;rw [if_pos rfl];omega
    ·rw [if_neg e];exact this
   ·intro i i0 i1
    rw [nY h0 (by rw [J_.1];exact h1) i0];have q0:=Ys M ml ge' cl i i0 i1
    by_cases e:i=y.1
    ·subst e
     rw [if_pos rfl];have qe:=up M ml ge' cl y.2.2.1 o0 o1;have:=cl y ym (by omega);omega
    ·rw [if_neg e];exact q0
   ·by_cases j0:j=0
    ·have:=sz j0
     subst this;omega
    ·have:=spos (by omega)
     omega
  ·rintro σ H6 ⟨fs,x,rfl,Lg,WX,J_,Xq,Ys,sle,sz,spos⟩
   have Yr:0<vs.length:=by
    cases vs with
    | nil=>cases hv
    | cons _ _=>simp
   have slt:=spos Yr;have s6:Same H H6:=fun b o e=>WX _ _ (s5 _ _ e) (aB e hp0);refine ⟨_,rfl,_,rfl,t,c,a,p,cs,fs,ns,rfl,R.same s6,ok,Lg,J_.1,fun q' H7 hq' N7 s7=> ?_⟩;have b:=J_.sum;have be:=eok.sum;exact ⟨_,by omega,fs,q',_,rfl,s7 _ _ Lg,aB Lg hq',N7,J_,fun i i0 i1=>Int.le_trans (ge i i0 i1) (Xq i i0 i1),Ys,s6.trans s7,rfl⟩
def bh (ws:List aY) (n:Nat):List Int:=(List.range n).map fun h:Nat=>cnt ws (h:Int)
theorem G_ (ws:List aY) (h:Int):cnt ws h=(((ws.map fun x=>x.1).count h:Nat):Int):=by
 unfold cnt;congr 1
 induction ws with
 | nil=>rfl
 | cons x ws ih=>
   rw [List.filter_cons,List.map_cons,List.count_cons,←ih]
   by_cases e:x.1=h
   ·subst e;simp
   ·simp [e]
def Fi (many:Int) (ws:List aY):Prop:=(0<=many/\many<=8) /\ ∀x∈ws,x.1<many
def v9 (K:PySem.W.Frag):Sp:=fun vs H Q _=>∃(many:Int) (a:Addr) (ws:List aY),vs=[.int many,.ref a]/\cC H a ws/\ws.length<=300/\(∀x∈ws,0<=x.1/\x.1<8)/\Fi many ws /\
 ∀(t c n:Addr) (ns:List Nt) (H':Hp),H t=none->H c=none->H n=none->c≠n->H' t=some (.tup [.ref c,.ref n])->H' c=some (.lst ((bh ws many.toNat).map V.int))->fH H' n ns->ns.Perm (cg ws ws.length)->nu ns->Same H H'->Q (.ref t) H'
theorem Ka {α β:Type} (l:List α) (f:α->β):(List.range l.length).filterMap (fun i=>(l[i]?).map f)=l.map f:=by
 have e:(fun i:Nat=>(l[i]?).map f)=fun i:Nat=>(l[i]?).bind fun x=>some (f x):=funext fun i=>by cases l[i]? <;> rfl
 rw [e,Kc,←List.filterMap_eq_map];rfl
theorem Rp (n:Nat) (f:Nat->Int):(List.range n).filterMap (fun i=>some (V.int (f i)))=((List.range n).map f).map V.int:=by
 rw [List.map_map,←List.filterMap_eq_map];rfl
theorem Jz {f:Addr} {fd:FuncData} (F:jU K "record_of" "record_of" cZ f fd) (jz:FnAt P w K mg base 1 "is_whole" ["value"] (IW K)) (eX:FnAt P w K mg base 2 "is_below" ["value","count"] (oE K)) (xQ:FnAt P w K mg base 4 "notes" ["web"] (q_ K)) (jf:Gv mg "MOST_HANDS" (.int 8)) (Bt:qI mg):cY P w K mg base jM 5 f fd ["hands","web"] (v9 K):=by
 refine F.ok oG (fun vs H Q E h=> ?_) (fun cdv A outer s H vs Q E hr h=> ?_)
 ·obtain ⟨many,a,ws,rfl,_⟩:=h
  rfl
 ·obtain ⟨many,a,ws,rfl,W,wl,xY,⟨⟨m0,m8⟩,al⟩,k1⟩:=h
  refine ⟨_,(aA (dH (PW.pt (ql (eO (cV (aU jz (hr.mono (by decide)) (by rfl) (aj (pv 0) ao)))) (nR (eO (yJ yO yO au (pv 0) (Mq (by rfl) jf.choose_spec.1 jf.choose_spec.2)))))) (aG jO) bK)
   (aA (aV (i:=2) oG.nd rfl (Or.inr rfl) (fO rfl (N:=["touch"]) (own:=["touch"]) (caps:=[]) (aQ.of (by kernel_rfl)) (cI (K:=K) rfl (pv 1)) (fun _ _ _ _=>(aP (i:=0) (show List.Nodup (["touch"]:List Str) by decide +kernel) rfl (Or.inl rfl))) (fun _ _ _ _=>eE) (fun _ _ _ _=>(aJ (aL (K:=K) rfl) (pv 0) au (fun _ _=>rfl)))))
   (aA (dH (eO (cV (aO (d7 (K:=K) rfl rfl) (by rfl) Bt.Ae uz (aj (fO rfl (N:=["doer","hands"]) (own:=["doer"]) (caps:=[0]) (aQ.of (by kernel_rfl)) (cI (K:=K) rfl (pv 2)) (fun _ _ _ _=>(aP (i:=0) (show List.Nodup (["doer","hands"]:List Str) by decide +kernel) rfl (Or.inl rfl))) (fun _ _ _ _=>eE) (fun _ _ _ _=>(aU eX (hr.mono (by decide)) (by rfl) (aj (pv 0) (aj (pv 1) ao))))) ao)))) (aG jO) bK)
   (aG (bw (fU (aj (fO rfl (N:=["hand","doers"]) (own:=["hand"]) (caps:=[2]) (aQ.of (by kernel_rfl)) (jP (by rfl) Bt.kO (aj (pv 0) ao)) (fun _ _ _ _=>(aP (i:=0) (show List.Nodup (["hand","doers"]:List Str) by decide +kernel) rfl (Or.inl rfl))) (fun _ _ _ _=>eE) (fun _ _ _ _=>(Ju (K:=K) rfl PySem.F.plainAttrs_list PySem.F.slot_list_count PySem.F.type_list_count (Gq (K:=K) rfl) (pv 1) (aj (pv 0) ao)))) (aj (aU xQ (hr.mono (by decide)) (by rfl) (aj (pv 1) ao)) ao)))))))), ?_⟩
  obtain ⟨vs,ha,dv⟩:=id W;have vl:vs.length=ws.length:=by rw [dv.length,List.length_map]
  refine ⟨_,rfl,many,rfl,_,rfl, ?_⟩;refine fK ?_;refine ⟨_,rfl,_,_,rfl,rfl,_,rfl, ?_⟩;refine kj (fun _=> ?_) (fun z=>absurd (decide_eq_true m0) z);refine ⟨_,_,rfl,rfl,_,rfl, ?_⟩;rw [decide_eq_true m8];refine fK ?_;refine ⟨_,rfl,a,rfl,⟨_,aW.of ha⟩,fun D hD=> ?_⟩;refine jw (K:=K) (fun i=>(ws[i]?).map fun x=>V.int x.1) hD (aW.of ha) (by omega) (fun i v H2 G F hi s2 kG kF=> ?_) (fun H2 s2 e2=> ?_)
  ·obtain ⟨dd,ed,dy⟩:=dv.get hi
   rw [List.getElem?_map] at ed;cases ex:ws[i]? with
   | none=>rw [ex] at ed;cases ed
   | some x=>
     rw [ex] at ed;cases ed;obtain ⟨t,rfl,ht⟩:=gb dy;exact ⟨_,rfl,_,_,_,_,rfl,rfl,cu.of (s2 _ _ ht),rfl,kF _ H2 (Same.refl _) (by rw [ex];rfl)⟩
  have e2':H2 D=some (.lst ((ws.map fun x=>x.1).map V.int)):=by
   rw [e2,vl,Ka,List.map_map];rfl
  have hD0:=hD;refine ⟨_,rfl,D,rfl,⟨_,aW.of e2'⟩,fun B hB=> ?_⟩;refine jw (K:=K) (fun i=>(ws[i]?).map fun x=>V.bl (decide (Cr x.1 many.toNat))) hB (aW.of e2') (by rw [List.length_map,List.length_map];omega) (fun i v H3 G F hi s3 kG kF=> ?_) (fun H3 s3 e3=> ?_)
  ·rw [List.getElem?_map,List.getElem?_map] at hi
   cases ex:ws[i]? with
   | none=>rw [ex] at hi;cases hi
   | some x=>
     rw [ex] at hi;cases hi;refine ⟨_,rfl,_,rfl,x.1,many.toNat,by rw [show ((many.toNat:Nat):Int)=many by omega];rfl, ?_⟩;exact kF _ H3 (Same.refl _) (by rw [ex];rfl)
  have e3':H3 B=some (.lst ((ws.map fun x=>decide (Cr x.1 many.toNat)).map V.bl)):=by
   rw [e3,List.length_map,List.length_map,Ka,List.map_map];rfl
  have Ti:=s2.trans s3;refine ⟨B,_,rfl,aW.of e3',_,rfl, ?_⟩
  have ea:(ws.map fun x=>decide (Cr x.1 many.toNat)).all id=true:=by
   rw [List.all_map,List.all_eq_true];intro x hx;exact decide_eq_true (p:=Cr x.1 many.toNat) ⟨(xY x hx).1,by have:=al x hx;omega⟩
  rw [ea];refine fK ?_;have Sd:=s3 _ _ e2';refine ⟨_,rfl,many,rfl,by omega,by omega,fun c hc=> ?_⟩;refine m9 (fun (i:Nat)=>some (V.int (((ws.map fun x=>x.1).count (0+(i:Int)):Nat):Int))) hc (by omega) (fun j H4 G F hj s4 kG kF=> ?_) (fun H4 s4 e4=> ?_)
  ·exact ⟨_,rfl,.inl ⟨rfl,_,aW.of (s4 _ _ Sd)⟩,_,rfl,D,_,_,rfl,rfl,aW.of (s4 _ _ Sd),kF _ H4 (Same.refl _) rfl⟩
  have e4':H4 c=some (.lst ((bh ws many.toNat).map V.int)):=by
   rw [e4,Rp];unfold bh;congr 3;refine List.map_congr_left fun i _=> ?_;rw [G_,Int.zero_add]
  have Wo:=Ti.trans s4;refine ⟨_,rfl,a,ws,rfl,W.same Wo,wl,xY,fun n ns H5 hn NN pp ss s5=> ?_⟩;refine ⟨(by show 2<=sizeLine;decide),fun t ht=> ?_⟩;have s6:=aC (o:=HO.tup [V.ref c,V.ref n]) ht;exact k1 t c n ns _ ((Wo.trans s5).free ht) (Ti.free hc) (Wo.free hn) (aB e4' hn) ak (s6 _ _ (s5 _ _ e4')) (NN.same s6) pp ss ((Wo.trans s5).trans s6)
def cf (ds:List Int) (x:Nt):Nt:=(x.1,x.2.1 - gI ds x.1,x.2.2.1,x.2.2.2 - gI ds x.2.2.1)
def Bk (K:PySem.W.Frag):Sp:=fun vs H Q _=>∃(d t:Addr) (ds:List Int) (x:Nt),vs=[.ref d,.ref t]/\H d=some (.lst (ds.map V.int))/\H t=some (.tup (nV x))/\(0<=x.1/\x.1<ds.length)/\(0<=x.2.2.1/\x.2.2.1<ds.length) /\ ∀p,H p=none->Q (.ref p) (upd H p (.tup (nV (cf ds x))))
theorem Mv {f:Addr} {fd:FuncData} (F:jU K "counted_from" "counted_from" bR f fd):cY P w K mg base jM 1 f fd ["cut","note"] (Bk K):=by
 refine F.ok qK (fun vs H Q E h=> ?_) (fun cdv A outer s H vs Q E hr h=> ?_)
 ·obtain ⟨d,t,ds,x,rfl,_⟩:=h
  rfl
 ·obtain ⟨d,t,ds,x,rfl,hd,ht,⟨h0,h1⟩,⟨o0,o1⟩,k⟩:=h
  refine ⟨_,(aG (bw (fU (aj (aJ (aL (K:=K) rfl) (pv 1) au (fun _ _=>rfl)) (aj (bx pR (aJ (aL (K:=K) rfl) (pv 1) au (fun _ _=>rfl)) (aJ (aK (K:=K) rfl) (pv 0) (aJ (aL (K:=K) rfl) (pv 1) au (fun _ _=>rfl)) (fun _ _=>rfl))) (aj (aJ (aL (K:=K) rfl) (pv 1) au (fun _ _=>rfl)) (aj (bx pR (aJ (aL (K:=K) rfl) (pv 1) au (fun _ _=>rfl)) (aJ (aK (K:=K) rfl) (pv 0) (aJ (aL (K:=K) rfl) (pv 1) au (fun _ _=>rfl)) (fun _ _=>rfl))) ao))))))), ?_⟩;refine ⟨_,rfl,_,_,_,_,rfl,rfl,cu.of ht,rfl, ?_⟩;refine ⟨_,rfl,_,_,_,_,rfl,rfl,cu.of ht,rfl,_,rfl,_,rfl,_,_,_,_,rfl,rfl,cu.of ht,rfl,_,_,_,_,rfl,rfl,aW.of hd,dX h0 h1,_,_,rfl,rfl, ?_⟩;refine ⟨_,rfl,_,_,_,_,rfl,rfl,cu.of ht,rfl, ?_⟩;refine ⟨_,rfl,_,_,_,_,rfl,rfl,cu.of ht,rfl,_,rfl,_,rfl,_,_,_,_,rfl,rfl,cu.of ht,rfl,_,_,_,_,rfl,rfl,aW.of hd,dX o0 o1,_,_,rfl,rfl, ?_⟩;exact ⟨(by show 4<=sizeLine;decide),fun p hp=>k p hp⟩
def isIn (ds:List Int) (x:Nt):Bool:=decide (x.2.2.2<gI ds x.2.2.1)
def lq (ds:List Int) (x:Nt):Bool:= !decide (x.2.1<gI ds x.1)
def Ub (cs ds:List Int):List Int:=(List.range cs.length).map fun i:Nat=>gI cs i - gI ds i
def CutAt (H:Hp) (u t1 t2 l i f o:Addr) (cs ds:List Int) (ns:List Nt):Prop:=H u=some (.tup [.ref t1,.ref t2])/\RecAt H t1 l i ds (ns.filter (isIn ds))/\RecAt H t2 f o (Ub cs ds) ((ns.filter (lq ds)).map (cf ds))
def wA (K:PySem.W.Frag):Sp:=fun vs H Q _=>∃(t c a d:Addr) (cs ds:List Int) (ns:List Nt),vs=[.ref t,.ref d]/\RecAt H t c a cs ns/\uH cs ns/\H d=some (.lst (ds.map V.int))/\fY cs ds/\brk ds ns=[] /\ ∀(u t1 t2 l i f o:Addr) (H':Hp),Same H H'->CutAt H' u t1 t2 l i f o cs ds ns->Q (.ref u) H'
theorem zY {H:Hp} (p:Nt->Bool) (g:Nt->Nt):∀{ns:List Nt},(List.range ns.length).filterMap (fun i=>(ns[i]?).bind fun x=>if p x then some (nD (g x)) else none)=((ns.filter p).map g).map nD
 | []=>rfl
 | n::ns=>by
   have ih:=zY (H:=H) p g (ns:=ns);rw [List.length_cons,List.range_succ_eq_map,List.filterMap_cons,List.filterMap_map,List.filter_cons];cases q:p n
   ·simp [q];rw [List.map_map] at ih;exact ih
   ·simp [q];rw [List.map_map] at ih;exact ih
theorem Mx {f:Addr} {fd:FuncData} (F:jU K "cut_record" "cut_record" cL f fd) (K1:FnAt P w K mg base 5 "is_cut" ["record","cut"] (wu K)) (Aq:FnAt P w K mg base 1 "has" ["done","touch"] (Dy K)) (uL:FnAt P w K mg base 1 "counted_from" ["cut","note"] (Bk K)) (Bt:qI mg):cY P w K mg base jM 6 f fd ["record","cut"] (wA K):=by
 refine F.ok iu (fun vs H Q E h=> ?_) (fun cdv A outer s H vs Q E hr h=> ?_)
 ·obtain ⟨t,c,a,d,cs,ds,ns,rfl,_⟩:=h
  rfl
 ·obtain ⟨t,c,a,d,cs,ds,ns,rfl,R,ok,hd,zR,eb,k3⟩:=h
  have gK:=hr.units;have Ye:=ok.1;have nl:=ok.2.1
  refine ⟨_,(aA (dH (eO (cV (aU K1 (hr.mono (by decide)) (by rfl) (aj (pv 0) (aj (pv 1) ao))))) (aG jO) bK)
   (aA (j9 (i:=2) rfl iu.nd rfl (Or.inl rfl) (N:=["note","cut"]) (own:=["note"]) (caps:=[1]) (aQ.of (by kernel_rfl)) (cI (K:=K) rfl (aJ (aL (K:=K) rfl) (pv 0) au (fun _ _=>rfl))) (fun _ _ _ _=>(aP (i:=0) (show List.Nodup (["note","cut"]:List Str) by decide +kernel) rfl (Or.inl rfl))) (fun _ _ _ _=>(mU (cV (aU Aq (hr.mono (by decide)) (by rfl) (aj (pv 1) (aj (fM (mQ (K:=K) rfl) (pv 0) (iy au) iz) ao)))))) (fun _ _ _ _=>(pv 0)))
   (aA (j9 (i:=3) rfl iu.nd rfl (Or.inl rfl) (N:=["note","cut"]) (own:=["note"]) (caps:=[1]) (aQ.of (by kernel_rfl)) (cI (K:=K) rfl (aJ (aL (K:=K) rfl) (pv 0) au (fun _ _=>rfl))) (fun _ _ _ _=>(aP (i:=0) (show List.Nodup (["note","cut"]:List Str) by decide +kernel) rfl (Or.inl rfl))) (fun _ _ _ _=>(mU (eO (cV (aU Aq (hr.mono (by decide)) (by rfl) (aj (pv 1) (aj (fM (mQ (K:=K) rfl) (pv 0) iz (iy au)) ao))))))) (fun _ _ _ _=>(aU uL (hr.mono (by decide)) (by rfl) (aj (pv 1) (aj (pv 0) ao)))))
   (aA (j9 (i:=4) rfl iu.nd rfl (Or.inl rfl) (N:=["count","done"]) (own:=["count","done"]) (caps:=[]) (aQ.of (by kernel_rfl)) (rE (K:=K) rfl (by rfl) Bt.Fd (aj (aJ (aL (K:=K) rfl) (pv 0) au (fun _ _=>rfl)) (aj (pv 1) ao))) (fun _ _ _ _=>(iC (K:=K) (n:=2) rfl rfl (bB (aP (i:=0) (show List.Nodup (["count","done"]:List Str) by decide +kernel) rfl (Or.inl rfl)) (bB (aP (i:=1) (show List.Nodup (["count","done"]:List Str) by decide +kernel) rfl (Or.inl rfl)) iB)))) (fun _ _ _ _=>eE) (fun _ _ _ _=>(bx pR (pv 0) (pv 1))))
   (aG (bw (fU (aj (fU (aj (mV (iG (K:=K) rfl) (by rfl) Bt.mH jF (aj (pv 1) ao)) (aj (pv 2) ao))) (aj (fU (aj (pv 4) (aj (pv 3) ao))) ao))))))))), ?_⟩
  refine ⟨_,rfl,_,rfl,t,c,a,d,cs,ds,ns,rfl,R,ok,hd,zR,fun H1 s1=>⟨_,rfl, ?_⟩⟩;rw [decide_eq_true eb];refine fK ?_;have R1:=R.same s1;obtain ⟨ht1,hc1,vs,ha1,Yd⟩:=id R1;have hd1:=s1 _ _ hd;have vl:vs.length=ns.length:=by rw [Yd.length,List.length_map]
  have c8:=Ye.1;refine ⟨_,rfl,_,_,_,_,rfl,rfl,cu.of ht1,rfl,a,rfl,⟨_,aW.of ha1⟩,fun I hI=> ?_⟩;refine jw (K:=K) (fun i=>(ns[i]?).bind fun x=>if isIn ds x then vs[i]? else none) hI (aW.of ha1) (by omega) (fun i v H2 G F hi s2 kG kF=> ?_) (fun H2 s2 e2=> ?_)
  ·obtain ⟨x,q,ex,rfl,hx⟩:=jB Yd hi
   obtain ⟨⟨h0,h1⟩,⟨k0,k1⟩,⟨o0,o1⟩,⟨m0,m1⟩,hne⟩:=ok.2.2 x (List.mem_of_getElem? ex);have hx2:=s2 _ _ hx;simp only [ex,Option.bind_some,hi] at kG kF;refine ⟨_,rfl,_,rfl,_,rfl,_,_,rfl,cu.of hx2,Bw _ rfl,fun p1 hp1=> ?_⟩;have c2:jA (nV x) (some 2) none=[.int x.2.2.1,.int x.2.2.2]:=Kh ..;rw [c2];have Bm:=aC (o:=HO.tup [V.int x.2.2.1,V.int x.2.2.2]) hp1;refine ⟨d,p1,ds,_,_,rfl,Bm _ _ (s2 _ _ hd1),ak,o0,by rw [zR.1];exact o1,_,rfl, ?_⟩;refine kj (fun w=> ?_) (fun w=> ?_)
   ·exact ⟨_,rfl,kF _ _ Bm (by simp [isIn,of_decide_eq_true w])⟩
   ·have w':¬x.2.2.2<gI ds x.2.2.1:=fun z=>w (decide_eq_true z)
    exact kG _ Bm (by simp [isIn,w'])
  have d2:=wZ (isIn ds) (aD.keep s2.tups _ (aX _ dW ns) Yd);have dv2:=aD.keep s2.tups _ (aX _ dW ns) Yd;have GK:=s2 _ _ ht1;have ha2:=s2 _ _ ha1;have hd2:=s2 _ _ hd1;refine ⟨_,rfl,_,_,_,_,rfl,rfl,cu.of GK,rfl,a,rfl,⟨_,aW.of ha2⟩,fun O hO=> ?_⟩;refine vM (K:=K) (fun i=>(ns[i]?).bind fun x=>if lq ds x then some (nD (cf ds x)) else none) (fun i dd e=> ?_) hO (aW.of ha2) (by omega) (fun i v H3 G F hi s3 kG kF=> ?_) (fun H3 ws s3 e3 d3=> ?_)
  ·cases ex:ns[i]? with
   | none=>rw [ex] at e;cases e
   | some x=>
     rw [ex,Option.bind_some] at e;split at e
     ·cases e;rfl
     ·cases e
  ·obtain ⟨x,q,ex,rfl,hx⟩:=jB dv2 hi
   obtain ⟨⟨h0,h1⟩,⟨k0,k1⟩,⟨o0,o1⟩,⟨m0,m1⟩,hne⟩:=ok.2.2 x (List.mem_of_getElem? ex);have hx3:=s3 _ _ hx;simp only [ex,Option.bind_some] at kG kF;refine ⟨_,rfl,_,rfl,_,rfl,_,_,rfl,cu.of hx3,Bx _ rfl,fun p1 hp1=> ?_⟩;have c2:jA (nV x) none (some 2)=[.int x.1,.int x.2.1]:=Kl ..;rw [c2];have Bm:=aC (o:=HO.tup [V.int x.1,V.int x.2.1]) hp1;refine ⟨d,p1,ds,_,_,rfl,Bm _ _ (s3 _ _ hd2),ak,h0,by rw [zR.1];exact h1,_,rfl, ?_⟩
   by_cases w:x.2.1<gI ds x.1
   ·rw [decide_eq_true w]
    refine fK ?_;exact kG _ Bm (by simp [lq,w])
   ·rw [decide_eq_false w]
    refine iJ ?_;refine ⟨_,rfl,_,rfl,d,q,ds,x,rfl,Bm _ _ (s3 _ _ hd2),Bm _ _ hx3,⟨h0,by rw [zR.1];exact h1⟩,⟨o0,by rw [zR.1];exact o1⟩,fun p hp=> ?_⟩;exact kF _ (nD (cf ds x)) _ (Bm.trans (aC hp)) (by simp [lq,w]) (tZ ak)
  rw [vl,zY (H:=H3)] at d3;have Ti:=s2.trans s3;have hc3:=Ti _ _ hc1;have Nr:=Ti _ _ hd1;refine ⟨_,rfl,_,_,_,_,rfl,rfl,cu.of (s3 _ _ GK),rfl,_,rfl,c,d,_,_,rfl,aW.of hc3,aW.of Nr,fun L hL=> ?_⟩;refine m7 (K:=K) (n:=cs.length) (by rw [List.length_map]) (by rw [List.length_map,zR.1]) (fun i=>some (.int (gI cs (i:Int) - gI ds (i:Int)))) hL (aW.of hc3) (aW.of Nr) (by omega) (fun i x y H4 G F hi hj s4 kG kF=> ?_) (fun H4 s4 e4=> ?_)
  ·rw [List.getElem?_map] at hi hj
   cases ei:cs[i]? with
   | none=>rw [ei] at hi;cases hi
   | some u=>
     cases ej:ds[i]? with
     | none=>rw [ej] at hj;cases hj
     | some v=>
       rw [ei] at hi;rw [ej] at hj;cases hi;cases hj;exact ⟨_,rfl,_,rfl,_,_,rfl,rfl,kF _ H4 (Same.refl _) (by rw [eU ei,eU ej])⟩
  rw [List.filterMap_eq_map' (f:=fun i:Nat=>V.int (gI cs (i:Int) - gI ds (i:Int)))] at e4;have e4':H4 L=some (.lst ((Ub cs ds).map V.int)):=by rw [e4,Ub,List.map_map];rfl
  have Lh:=s4 _ _ Nr;refine ⟨_,rfl,d,_,rfl,.inl (aW.of Lh),fun l hl=> ?_⟩;have s5:=aC (o:=HO.lst (ds.map V.int)) hl;refine ⟨_,rfl,(by show 2<=sizeLine;decide),fun t1 ab7=> ?_⟩;have s6:=aC (o:=HO.tup [V.ref l,V.ref I]) ab7;refine ⟨_,rfl,_,rfl,(by show 2<=sizeLine;decide),fun t2 ab6=> ?_⟩;have s7:=aC (o:=HO.tup [V.ref L,V.ref O]) ab6;refine ⟨(by show 2<=sizeLine;decide),fun u hu=> ?_⟩;have s8:=aC (o:=HO.tup [V.ref t1,V.ref t2]) hu;have s58:=((s5.trans s6).trans s7).trans s8;have Zg:=s4.trans s58;have Zh:=s3.trans Zg;have hI4:=(s3.trans s4) _ _ e2;have hO4:=s4 _ _ e3;refine k3 u t1 t2 l I L O _ ((s1.trans s2).trans Zh) ⟨ak,⟨s8 _ _ (s7 _ _ ak),((s6.trans s7).trans s8) _ _ ak,⟨_,Zh _ _ e2,aD.keep Zh.tups _ (aX _ dW _) d2⟩⟩,⟨s8 _ _ ak,s58 _ _ e4',⟨_,Zg _ _ e3,aD.keep Zg.tups _ (aX _ dW _) d3⟩⟩⟩
theorem jo {ws:List aY} {x:aY} {i j:Nat} (hj:j<ws.length):gQ (ws++[x]) i j=gQ ws i j:=by
 unfold gQ Bg
 by_cases l:i<j
 ·rw [List.getElem?_append_left (by omega),List.getElem?_append_left hj]
 ·rw [decide_eq_false l,Bool.false_and,Bool.false_and]
theorem vB {ws:List aY} {x:aY} {i j:Nat} (hj:j<ws.length):kY (ws++[x]) j i↔kY ws j i:=by
 constructor
 ·intro r
  induction r with
  | one h=>exact .one (by rwa [jo hj] at h)
  | more h r ih=>
    have:=ih.lt;exact .more (by rwa [jo (by (clear h hj;omega))] at h) ih
 ·intro r
  induction r with
  | one h=>exact .one (by rwa [jo hj])
  | more h r ih=>
    have:=r.lt;exact .more (by rwa [jo (by (clear h hj;omega))]) ih
theorem Di {ws:List aY} {x:aY} {j i:Nat} (hj:j<ws.length):bC (ws++[x]) j i=bC ws j i:=by
 unfold bC;refine List.filter_congr fun e _=> ?_
 have:Bare (ws++[x]) j e↔Bare ws j e:=by
  unfold Bare yd;rw [jo hj];constructor
  ·rintro ⟨a,b⟩
   refine ⟨a,fun ⟨y,y1,y2,y3⟩=>b ⟨y,y1,by rw [jo hj];exact y2,y3.imp id (vB (by have:=cA y2;(clear y3 y2 y1 b a hj;omega))).mpr⟩⟩
  ·rintro ⟨a,b⟩
   refine ⟨a,fun ⟨y,y1,y2,y3⟩=> ?_⟩;rw [jo hj] at y2;exact b ⟨y,y1,y2,y3.imp id (vB (by have:=cA y2;(clear y3 y2 y1 b a hj;omega))).mp⟩
 by_cases q:Bare ws j e
 ·rw [decide_eq_true q,decide_eq_true (this.mpr q)]
 ·rw [decide_eq_false q,decide_eq_false (fun z=>q (this.mp z))]
theorem mj {ws:List aY} {x:aY} {i:Nat} (hi:i<ws.length):hnd (ws++[x]) i=hnd ws i:=by
 unfold hnd;rw [List.getElem?_append_left hi]
theorem yV {ws:List aY} {x:aY} {i j:Nat} (hi:i<ws.length) (hj:j<ws.length):bU (ws++[x]) i j=bU ws i j:=by
 unfold bU;rw [mj hi,mj hj,List.take_append_of_le_length (by (clear hj;omega)),List.take_append_of_le_length (by (clear hi;omega))]
theorem wM {ws:List aY} {x:aY} {j:Nat} (hj:j<ws.length) {l:List Nat} (hl:∀e∈l,e<ws.length):aR (ws++[x]) j l=aR ws j l:=by
 unfold aR;rw [List.filter_congr (q:=fun e=>decide (¬hnd ws e=hnd ws j)) fun e he=>by rw [mj (hl e he),mj hj]];exact List.map_congr_left fun e he=>yV (hl e (List.mem_filter.mp he).1) hj
theorem Ag {ws:List aY} {j i e:Nat} (hj:j<ws.length) (h:e∈bC ws j i):e<ws.length:=by
 rcases Af h with q|q
 ·omega
 ·subst q
  unfold bC at h;have:=(List.mem_filter.mp h).1;obtain ⟨t,_,rfl⟩:=List.mem_map.mp this;omega
theorem vV {ws:List aY} {x:aY}:∀n,n<=ws.length->cg (ws++[x]) n=cg ws n
 | 0,_=>rfl
 | n+1,h=>by
   rw [jm,jm,vV n (by omega),Di (by omega),wM (by omega) fun e he=>Ag (by omega) he]
theorem wN (ws:List aY) (j:Nat) (l l':List Nat):aR ws j (l++l')=aR ws j l++aR ws j l':=by
 unfold aR;rw [List.filter_append,List.map_append]
theorem Aj:∀(suf pre:List aY) {n:Nat},n<=pre.length->cg (pre++suf) n=cg pre n
 | [],pre,n,_=>by rw [List.append_nil]
 | x::s,pre,n,h=>by
   rw [show pre++x::s=(pre++[x])++s by simp,Aj s (pre++[x]) (by rw [List.length_append];omega),vV n h]
theorem wY {p q:List aY} {i:Nat}:(p++q)[p.length+i]? = q[i]? :=by
 rw [List.getElem?_append_right (by omega),Nat.add_sub_cancel_left]
theorem j6 {p q:List aY} {i j:Nat}:gQ (p++q) (p.length+i) (p.length+j)=gQ q i j:=by
 unfold gQ Bg;rw [wY,wY];congr 1;rw [Bool.eq_iff_iff,decide_eq_true_iff,decide_eq_true_iff];omega
theorem DK {p q:List aY} {i j:Nat}:kY (p++q) (p.length+j) (p.length+i)↔kY q j i:=by
 constructor
 ·intro r
  generalize ej:p.length+j=J at r;generalize ei:p.length+i=I at r
  induction r generalizing i with
  | one h=>
    subst ei;subst ej;exact .one (by rwa [j6] at h)
  | @more a k h r ih=>
    subst ei;subst ej;have lt:=(cA h).1;obtain ⟨m,rfl⟩:∃m,k=p.length+m:=⟨k - p.length,by omega⟩;exact .more (by rwa [j6] at h) (ih rfl)
 ·intro r
  induction r with
  | one h=>exact .one (by rwa [j6])
  | more h r ih=>exact .more (by rwa [j6]) ih
theorem ni (p q:List aY) (h:Int):cnt (p++q) h=cnt p h+cnt q h:=by
 unfold cnt;rw [List.filter_append,List.length_append];omega
theorem n_ {p q:List aY} {i:Nat}:(p++q).take (p.length+i)=p++q.take i:=by
 rw [List.take_append,List.take_of_length_le (by omega),Nat.add_sub_cancel_left]
theorem wW {p q:List aY} {i:Nat}:hnd (p++q) (p.length+i)=hnd q i:=by
 unfold hnd;rw [wY]
def vq (p:List aY) (x:Nt):Nt:=(x.1,x.2.1+cnt p x.1,x.2.2.1,x.2.2.2+cnt p x.2.2.1)
theorem Cd {p q:List aY} {i j:Nat}:bU (p++q) (p.length+i) (p.length+j)=vq p (bU q i j):=by
 unfold bU vq;rw [wW,wW,n_,n_,ni,ni];simp only [Prod.mk.injEq,true_and];exact ⟨Int.add_comm _ _,Int.add_comm _ _⟩
theorem N_ {p q:List aY} {j i e:Nat}:yd (p++q) (p.length+j) (p.length+i) (p.length+e)↔yd q j i e:=by
 unfold yd;constructor
 ·rintro ⟨y,y1,y2,y3⟩
  obtain ⟨m,rfl⟩:∃m,y=p.length+m:=⟨y - p.length,by omega⟩;refine ⟨m,by omega,by rwa [j6] at y2, ?_⟩;rcases y3 with y3|y3
  ·exact .inl (by omega)
  ·exact .inr (DK.mp y3)
 ·rintro ⟨m,y1,y2,y3⟩
  refine ⟨p.length+m,by omega,by rwa [j6], ?_⟩;rcases y3 with y3|y3
  ·exact .inl (by omega)
  ·exact .inr (DK.mpr y3)
theorem Ad {p q:List aY} {j e:Nat}:Bare (p++q) (p.length+j) (p.length+e)↔Bare q j e:=by
 unfold Bare;rw [j6,show p.length+e+1=p.length+(e+1) by omega,N_]
noncomputable def BK (p q:List aY) (j:Nat):List Nat:=((List.range p.length).map fun t=>p.length - 1 - t).filter fun e=>decide (Bare (p++q) (p.length+j) e)
theorem Hu {p q:List aY} {j:Nat}:bC (p++q) (p.length+j) (p.length+j)=(bC q j j).map (fun e=>p.length+e)++BK p q j:=by
 unfold bC BK
 have er:(List.range (p.length+j)).map (fun t=>p.length+j - 1 - t)=((List.range j).map fun t=>p.length+(j - 1 - t))++(List.range p.length).map fun t=>p.length - 1 - t:=by
  rw [Nat.add_comm p.length j,List.range_add,List.map_append,List.map_map];congr 1
  ·refine List.map_congr_left fun t ht=> ?_
   have:=List.mem_range.mp ht;omega
  ·refine List.map_congr_left fun t ht=> ?_
   show j+p.length - 1 - (j+t)=_;omega
 rw [er,List.filter_append];congr 1;rw [List.filter_map,List.filter_map,List.map_map]
 have:((fun e=>decide (Bare (p++q) (p.length+j) e))∘fun t=>p.length+(j - 1 - t))=((fun e=>decide (Bare q j e))∘fun t=>j - 1 - t):=by
  funext t;simp only [Function.comp]
  by_cases b:Bare q j (j - 1 - t)
  ·rw [decide_eq_true b,decide_eq_true (Ad.mpr b)]
  ·rw [decide_eq_false b,decide_eq_false fun z=>b (Ad.mp z)]
 rw [this];rfl
noncomputable def fX (p q:List aY) (n:Nat):List Nt:=(List.range n).flatMap fun j=>aR (p++q) (p.length+j) (BK p q j)
theorem uW {p q:List aY} {j:Nat} (l:List Nat):aR (p++q) (p.length+j) (l.map fun e=>p.length+e)=(aR q j l).map (vq p):=by
 unfold aR;rw [List.filter_map,List.map_map,List.map_map]
 have:((fun e=>decide (¬hnd (p++q) e=hnd (p++q) (p.length+j)))∘fun e=>p.length+e)=fun e=>decide (¬hnd q e=hnd q j):=by
  funext e;simp only [Function.comp,wW]
 rw [this];exact List.map_congr_left fun e _=>Cd
theorem o8 (p q:List aY):∀n,(cg (p++q) (p.length+n)).Perm (cg p p.length++((cg q n).map (vq p)++fX p q n))
 | 0=>by
   rw [Nat.add_zero,Aj q p (Nat.le_refl _)];show List.Perm _ (cg p p.length++([]++[]));simp
 | n+1=>by
   have ih:=o8 p q n;rw [show p.length+(n+1)=(p.length+n)+1 by omega,jm,jm,Hu,wN,uW,List.map_append]
   have ec:fX p q (n+1)=fX p q n++aR (p++q) (p.length+n) (BK p q n):=by
    unfold fX;rw [List.range_succ,List.flatMap_append];simp
   rw [ec];refine (ih.append_right _).trans ?_;simp only [List.append_assoc];refine List.Perm.append_left _ (List.Perm.append_left _ ?_);rw [←List.append_assoc,←List.append_assoc];exact List.Perm.append_right _ List.perm_append_comm
theorem G9 {ws:List aY} {m n:Nat} (h:m<=n) (g:Int):cnt (ws.take m) g<=cnt (ws.take n) g:=by
 have e:ws.take n=ws.take m++(ws.take n).drop m:=by
  have:=List.take_append_drop m (ws.take n);rw [List.take_take,Nat.min_eq_left h] at this;exact this.symm
 unfold cnt;rw [e,List.filter_append,List.length_append];omega
theorem Eb {ws:List aY} {i:Nat} {x:vh} (h:(nm ws)[i]? = some x):∃y,ws[i]? = some y/\x=(y.1,cnt (ws.take i) y.1):=by
 have il:i<ws.length:=by have:=(List.getElem?_eq_some_iff.mp h).1;rw [jh] at this;exact this
 have e:ws[i]? = some ws[i]:=by simp [il]
 rw [nT e] at h;exact ⟨ws[i],e,(Option.some.inj h).symm⟩
theorem O_ {ws:List aY} {i j:Nat} {x:vh} (hi:(nm ws)[i]? = some x) (hj:(nm ws)[j]? = some x):¬i<j:=fun lt=>by
 obtain ⟨y,ey,e1⟩:=Eb hi;obtain ⟨z,ez,e2⟩:=Eb hj;rw [e1] at e2;injection e2 with h1 h2
 have tk:ws.take (i+1)=ws.take i++[y]:=by rw [List.take_add_one,ey];rfl
 have m:=G9 (ws:=ws) (m:=i+1) (n:=j) lt y.1;rw [tk,b_,if_pos rfl] at m;rw [←h1] at h2;omega
theorem QH {ws:List aY} {i j:Nat} {x:vh} (hi:(nm ws)[i]? = some x) (hj:(nm ws)[j]? = some x):i=j:=by
 have:=O_ hi hj;have:=O_ hj hi;omega
def kx (x:vh):List Key:=[Sum.inl x.1,Sum.inl x.2]
theorem JW {x y:vh} (h:kx x=kx y):x=y:=by
 unfold kx at h;injection h with h1 h2
 injection h2 with h2 _
 have a:x.1=y.1:=Sum.inl.inj h1;have b:x.2=y.2:=Sum.inl.inj h2;exact Prod.ext a b
def VR (kvs:List (List Key×V)) (ps:List vh):Prop:=(∀(m:Nat) (x:vh),ps[m]? = some x->gW kvs (kx x)=some (.int m)) /\ ∀x:vh,x∉ps->gW kvs (kx x)=none
def rR (K:PySem.W.Frag):Sp:=fun vs H Q _=>∃(a:Addr) (ws:List aY),vs=[.ref a]/\cC H a ws/\ws.length<=300 /\ ∀(d:Addr) (kvs:List (List Key×V)) (H':Hp),H d=none->H' d=some (.dT kvs)->VR kvs (nm ws)->Same H H'->Q (.ref d) H'
theorem Ge {f:Addr} {fd:FuncData} (F:jU K "places_of" "places_of" dg f fd) (xR:FnAt P w K mg base 1 "names" ["web"] (rm K)) (Bt:qI mg):cY P w K mg base jM 2 f fd ["web"] (rR K):=by
 refine F.ok iY (fun vs H Q E h=> ?_) (fun cdv A outer s H vs Q E hr h=> ?_)
 ·obtain ⟨a,ws,rfl,_⟩:=h
  rfl
 ·obtain ⟨a,ws,rfl,W,wl,k⟩:=h
  have hu:=tK hr
  refine ⟨_,(aA (aV (i:=1) iY.nd rfl (Or.inl rfl) Jr)
   (aA (jt PassesOwn.never rfl (yL (K:=K) rfl (by rfl) Bt.qD (aj (aU xR (hr.mono (by decide)) (by rfl) (aj (pv 0) ao)) ao)) (iC (K:=K) (n:=2) rfl rfl (bB (aP (i:=2) iY.nd rfl (Or.inl rfl)) (bB (aP (i:=3) iY.nd rfl (Or.inl rfl)) iB)))
   (aG (wG hu (pv 1) (pv 3) (pv 2) rfl)))
   (aG (bw (pv 1))))), ?_⟩
  intro d hd;have s1:=aC (o:=HO.dT []) hd;refine ⟨_,rfl,a,ws,rfl,W.same s1,by omega,fun p H2 hp PA s2=> ?_⟩;obtain ⟨vs,hp2,dv⟩:=id PA;have vl:vs.length=ws.length:=by rw [dv.length,List.length_map,jh]
  refine ⟨p,vs,rfl,aW.of hp2, ?_⟩;have M6:d≠p:=aB ak hp
  refine zO (K:=K) (a:=p) (xs:=vs) (fun i σ H3=>∃(kvs:List (List Key×V)) (x1 x2:Option V),σ=[some (.ref a),some (.ref d),x1,x2]/\H3 d=some (.dT kvs)/\kvs.length<=i/\VR kvs ((nm ws).take i)/\Kp d H2 H3)
   ⟨[],none,none,rfl,s2 _ _ ak,Nat.le_refl _,⟨fun m x e=>by simp at e,fun x _=>rfl⟩,Kp.refl _ _⟩ (fun i σ H3 _ ⟨_,_,_,_,_,_,_,kp⟩=>aW.of (kp _ _ hp2 M6.symm)) ?_ ?_
  ·rintro i v σ H3 q hi ⟨kvs,x1,x2,rfl,Nr,kl,pl,kp⟩ hq
   obtain ⟨x,t,ex,rfl,ht⟩:=L_ dv hi;have il:=(List.getElem?_eq_some_iff.mp hi).1;have sq:=aC (o:=HO.tup [V.int i,V.ref t]) hq;have Uq:H3 t=some (.tup [.int x.1,.int x.2]):=kp _ _ ht (k_ ht (s2 _ _ ak) (by intro z;cases z));refine ⟨q,_,rfl,cu.of ak,rfl,_,_,rfl,_,_,rfl,rfl, ?_⟩;refine ⟨_,rfl,_,rfl,_,rfl,d,_,rfl,xV.t (k:=kx x) (sq _ _ Nr) (sq _ _ Uq) (by rw [sizeLine_eq];omega), ?_⟩;have tk:(nm ws).take (i+1)=(nm ws).take i++[x]:=by rw [List.take_add_one,ex];rfl
   have tl:((nm ws).take i).length=i:=by rw [List.length_take,jh];omega
   refine ⟨putK kvs (kx x) (V.int i),_,_,rfl,ak, ?_,⟨fun m y e=> ?_,fun y hy=> ?_⟩,fun b o e nb=> ?_⟩
   ·exact Nat.le_trans (iH ..) (by omega)
   ·rw [rN]
    rw [tk] at e
    by_cases hm:m<i
    ·rw [List.getElem?_append_left (by omega)] at e
     have ne:¬kx y=kx x:=fun z=>by
      have z:=JW z;subst z;have e':(nm ws)[m]? = some y:=by rw [List.getElem?_take_of_lt hm] at e;exact e
      have:=QH e' ex;omega
     rw [if_neg ne];exact pl.1 m y e
    ·rw [List.getElem?_append_right (by omega),tl] at e
     have ml:m - i<1:=(List.getElem?_eq_some_iff.mp e).1;have:m=i:=by omega
     subst this;rw [Nat.sub_self] at e;cases e;rw [if_pos rfl]
   ·rw [tk] at hy
    have n1:y∉(nm ws).take i:=fun z=>hy (List.mem_append.mpr (.inl z));have n2:y≠x:=fun z=>hy (List.mem_append.mpr (.inr (by rw [z];simp)));rw [rN,if_neg (fun z=>n2 (JW z))];exact pl.2 y n1
   ·rw [bA nb]
    exact sq _ _ (kp _ _ e nb)
  ·rintro σ H3 ⟨kvs,x1,x2,rfl,Nr,kl,pl,kp⟩
   have e:(nm ws).take vs.length=nm ws:=by rw [vl,←jh ws,List.take_length]
   rw [e] at pl;exact ⟨_,rfl,k d kvs H3 hd Nr pl fun b o eb=>kp _ _ (s2 _ _ (s1 _ _ eb)) (aB eb hd)⟩
theorem qu {ws:List aY} {j:Nat} {l:List Nat} {x:Nt} (h:x∈aR ws j l):∃e∈l,x=bU ws e j:=by
 unfold aR at h;obtain ⟨e,he,rfl⟩:=List.mem_map.mp h;exact ⟨e,(List.mem_filter.mp he).1,rfl⟩
theorem tu {ws:List aY} {n:Nat} {x:Nt} (hn:n<=ws.length) (h:x∈cg ws n):∃e j,j<n/\e<j/\x=bU ws e j:=by
 unfold cg at h;obtain ⟨j,hj,hx⟩:=List.mem_flatMap.mp h;have jn:=List.mem_range.mp hj;obtain ⟨e,he,rfl⟩:=qu hx;refine ⟨e,j,jn, ?_,rfl⟩;have:=(List.mem_filter.mp (show e∈bC ws j j from he)).2;exact (cA (of_decide_eq_true this).1).1
theorem iK {ws:List aY} {i:Nat} (h:i<ws.length):cnt (ws.take i) (hnd ws i)<cnt ws (hnd ws i):=by
 obtain ⟨x,ex⟩:∃x,ws[i]? = some x:=⟨ws[i],by simp [h]⟩;have hx:=bN ex;have tk:ws.take (i+1)=ws.take i++[x]:=by rw [List.take_add_one,ex];rfl
 have m:=gM ws (hnd ws i) (i+1) (ws.length - (i+1));rw [show i+1+(ws.length - (i+1))=ws.length by omega,List.take_length,tk,b_,if_pos hx] at m;omega
theorem wI {p q:List aY} {i:Nat} (h:i<(p++q).length):i<p.length↔cnt ((p++q).take i) (hnd (p++q) i)<cnt p (hnd (p++q) i):=by
 constructor
 ·intro l
  rw [List.take_append_of_le_length (by omega),show hnd (p++q) i=hnd p i by unfold hnd;rw [List.getElem?_append_left l]];exact iK l
 ·intro c
  apply Classical.byContradiction;intro l;obtain ⟨m,rfl⟩:∃m,i=p.length+m:=⟨i - p.length,by omega⟩;rw [n_,ni] at c;have:=dG (q.take m) (hnd (p++q) (p.length+m));omega
def G5 (p:List aY) (x:Nt):Bool:=decide (x.2.1<cnt p x.1) && !decide (x.2.2.2<cnt p x.2.2.1)
theorem JR {p q:List aY} {j e:Nat} (h:e∈BK p q j):e<p.length:=by
 unfold BK at h;have:=(List.mem_filter.mp h).1;obtain ⟨t,ht,rfl⟩:=List.mem_map.mp this;have:=List.mem_range.mp ht;omega
theorem Gs {p q:List aY} {n:Nat} {x:Nt} (hn:n<=q.length) (h:x∈fX p q n):x.2.1<cnt p x.1 /\ ¬x.2.2.2<cnt p x.2.2.1:=by
 unfold fX at h;obtain ⟨j,hj,hx⟩:=List.mem_flatMap.mp h;have jn:=List.mem_range.mp hj;obtain ⟨e,he,rfl⟩:=qu hx;have el:=JR he;have l1:e<(p++q).length:=by rw [List.length_append];omega
 have l2:p.length+j<(p++q).length:=by rw [List.length_append];omega
 exact ⟨(wI l1).mp el,fun z=>by have:=(wI l2).mpr z;omega⟩
theorem filter_none {α:Type} {l:List α} {f:α->Bool} (h:∀x∈l,f x=false):l.filter f=[]:=by
 rw [List.filter_eq_nil_iff];intro x hx;rw [h x hx];exact Bool.false_ne_true
theorem Lx (p q:List aY) (n:Nat):∀x∈(cg q n).map (vq p),¬x.2.1<cnt p x.1\/n>q.length:=fun x hx=>by
 by_cases hn:n<=q.length
 ·obtain ⟨y,hy,rfl⟩:=List.mem_map.mp hx
  obtain ⟨e,j,_,_,rfl⟩:=tu hn hy;refine .inl ?_;show ¬cnt (q.take e) (hnd q e)+cnt p (hnd q e)<cnt p (hnd q e);have:=dG (q.take e) (hnd q e);omega
 ·exact .inr (by omega)
theorem CP (p q:List aY):((cg (p++q) (p++q).length).filter (G5 p)).Perm (fX p q q.length):=by
 have h:=(o8 p q q.length).filter (G5 p);rw [←List.length_append] at h;refine h.trans ?_;rw [List.filter_append,List.filter_append,filter_none,filter_none,List.filter_eq_self.mpr]
 ·exact List.Perm.refl _
 ·intro x hx
  obtain ⟨a,b⟩:=Gs (Nat.le_refl _) hx;unfold G5;rw [decide_eq_true a,decide_eq_false b];rfl
 ·intro x hx
  unfold G5;rcases Lx p q q.length x hx with a|a
  ·rw [decide_eq_false a,Bool.false_and]
  ·omega
 ·intro x hx
  obtain ⟨e,j,hj,_,rfl⟩:=tu (Nat.le_refl _) hx;unfold G5;rw [show decide ((bU p e j).2.2.2<cnt p (bU p e j).2.2.1)=true from decide_eq_true (iK hj),Bool.not_true,Bool.and_false]
theorem RD {p q:List aY} {e j:Nat} (he:e<(p++q).length) (hj:j<(p++q).length):G5 p (bU (p++q) e j)=(decide (e<p.length)&&decide (p.length<=j)):=by
 unfold G5;have a:=wI he;have b:=wI hj;rw [Bool.eq_iff_iff];simp only [Bool.and_eq_true,Bool.not_eq_true',decide_eq_true_eq,decide_eq_false_iff_not];show (cnt ((p++q).take e) (hnd (p++q) e)<cnt p (hnd (p++q) e) /\ ¬cnt ((p++q).take j) (hnd (p++q) j)<cnt p (hnd (p++q) j))↔_;rw [←a,←b];omega
theorem zX {H:Hp} (c:Nt->Bool):∀{vs:List V} {ns:List Nt},aD H vs (ns.map nD)->aD H ((List.range vs.length).filterMap fun i=>(ns[i]?).bind fun x=>if c x then vs[i]? else none) ((ns.filter c).map nD)
 | [],[],_=>by simp [aD]
 | [],_::_,h=>by simp only [List.map_cons,aD] at h
 | _::_,[],h=>by simp only [List.map_nil,aD] at h
 | v::vs,n::ns,h=>by
   simp only [List.map_cons,aD] at h;have ih:=zX c h.2
   have e:(List.range (v::vs).length).filterMap (fun i=>((n::ns)[i]?).bind fun x=>if c x then (v::vs)[i]? else none)=(if c n then [v] else [])++(List.range vs.length).filterMap fun i=>(ns[i]?).bind fun x=>if c x then vs[i]? else none:=by
    rw [List.length_cons,List.range_succ_eq_map,List.filterMap_cons,List.filterMap_map];cases q:c n
    ·simp [q];rfl
    ·simp [q];rfl
   rw [e,List.filter_cons];cases q:c n
   ·simpa using ih
   ·simp only [if_true,List.cons_append,List.nil_append,List.map_cons,aD]
    exact ⟨h.1,ih⟩
def n1 (x:Nt):vh:=(x.1,x.2.1)
def n2 (x:Nt):vh:=(x.2.2.1,x.2.2.2)
theorem lV {ns:List Nt} (c:Nt->Bool) (h:nu ns):nu (ns.filter c):=List.Pairwise.filter c h
def rY (K:PySem.W.Frag):Sp:=fun vs H Q _=>∃(a b:Addr) (p q:List aY),vs=[.ref a,.ref b]/\cC H a p/\cC H b q/\(p++q).length<=300/\(∀x∈p++q,0<=x.1/\x.1<8) /\
 ∀(r:Addr) (ns:List Nt) (H':Hp),H r=none->fH H' r ns->ns.Perm (fX p q q.length)->nu ns->Same H H'->Q (.ref r) H'
theorem Gj {f:Addr} {fd:FuncData} (F:jU K "across" "across" gC f fd) (Am:FnAt P w K mg base 2 "places_of" ["web"] (rR K)) (xQ:FnAt P w K mg base 4 "notes" ["web"] (q_ K)) (Bt:qI mg):cY P w K mg base jM 5 f fd ["one","other"] (rY K):=by
 refine F.ok pP (fun vs H Q E h=> ?_) (fun cdv A outer s H vs Q E hr h=> ?_)
 ·obtain ⟨a,b,p,q,rfl,_⟩:=h
  rfl
 ·obtain ⟨a,b,p,q,rfl,Wp,Wq,wl,xY,k⟩:=h
  have hu:=tK hr;have gK:=hr.units
  refine ⟨_,(aA (aV (i:=2) pP.nd rfl (Or.inl rfl) (bx BJ (pv 0) (pv 1)))
   (aA (aV (i:=3) pP.nd rfl (Or.inr rfl) (aU Am (hr.mono (by decide)) (by rfl) (aj (pv 2) ao)))
   (aG (bw (fO rfl (N:=["note","places","one"]) (own:=["note"]) (caps:=[3,0]) (aQ.of (by kernel_rfl)) (cI (K:=K) rfl (aU xQ (hr.mono (by decide)) (by rfl) (aj (pv 2) ao))) (fun _ _ _ _=>(aP (i:=0) (show List.Nodup (["note","places","one"]:List Str) by decide +kernel) rfl (Or.inl rfl))) (fun _ _ _ _=>(mU (yJ sV yO (wJ hu (pv 1) (fM (mQ (K:=K) rfl) (pv 0) iz (iy au)) (fun _ _=>rfl)) (aO (aZ (K:=K) rfl) (by rfl) Bt.iM eV (aj (pv 2) ao)) (wJ hu (pv 1) (fM (mQ (K:=K) rfl) (pv 0) (iy au) iz) (fun _ _=>rfl))))) (fun _ _ _ _=>(pv 0))))))), ?_⟩
  obtain ⟨av,ha,da⟩:=id Wp;obtain ⟨bv,hb,db⟩:=id Wq;have al:av.length=p.length:=by rw [da.length,List.length_map]
  have bl:bv.length=q.length:=by rw [db.length,List.length_map]
  have wl2:p.length+q.length<=300:=by rw [List.length_append] at wl;exact wl
  refine ⟨_,rfl,_,rfl,a,b,_,_,rfl,rfl,ha,hb,by rw [sizeLine_eq];omega,fun wh hwh=> ?_⟩;have s1:=aC (o:=HO.lst (av++bv)) hwh;have W:cC (upd H wh (.lst (av++bv))) wh (p++q):=⟨av++bv,ak,by rw [List.map_append];exact aD.append (aD.keep s1.tups _ (aX _ jK _) da) (aD.keep s1.tups _ (aX _ jK _) db)⟩;generalize (upd H wh (.lst (av++bv)))=H1 at s1 W ⊢;refine ⟨_,rfl,wh,p++q,rfl,W,wl,fun d kvs H2 hd0 hd pl s2=> ?_⟩;refine ⟨_,rfl,wh,p++q,rfl,W.same s2,wl,xY,fun nr ns H3 hnr NN pp ss s3=> ?_⟩;obtain ⟨vs,hvs,HW⟩:=id NN;have vl:vs.length=ns.length:=by rw [HW.length,List.length_map]
  have nl:ns.length<=90000:=by
   rw [pp.length_eq];have h1:=mJ (p++q) (p++q).length;have h2:(p++q).length*(p++q).length<=300*300:=Nat.mul_le_mul wl wl;omega
  refine ⟨nr,rfl,⟨_,aW.of hvs⟩,fun D hD=> ?_⟩;have O2:=(s1.trans s2).trans s3;refine jw (K:=K) (fun i=>(ns[i]?).bind fun x=>if G5 p x then vs[i]? else none) hD (aW.of hvs) (by omega) (fun i v H4 G F hi s4 kG kF=> ?_) (fun H4 s4 e4=> ?_)
  ·obtain ⟨x,t,ex,rfl,ht⟩:=jB HW hi
   obtain ⟨e,j,hj,lej,rfl⟩:=tu (Nat.le_refl _) (pp.mem_iff.mp (List.mem_of_getElem? ex));have jl:j<(p++q).length:=hj;have el:e<(p++q).length:=by omega
   have R_:=s4 _ _ ht;have Lh:=(s3.trans s4) _ _ hd
   have nme:(nm (p++q))[e]? = some (n1 (bU (p++q) e j)):=by
    obtain ⟨y,ey⟩:∃y,(p++q)[e]? = some y:=⟨(p++q)[e],by simp [el]⟩;rw [nT ey];show _=some (hnd (p++q) e,cnt ((p++q).take e) (hnd (p++q) e));rw [bN ey]
   have nmj:(nm (p++q))[j]? = some (n2 (bU (p++q) e j)):=by
    obtain ⟨y,ey⟩:∃y,(p++q)[j]? = some y:=⟨(p++q)[j],by simp [jl]⟩;rw [nT ey];show _=some (hnd (p++q) j,cnt ((p++q).take j) (hnd (p++q) j));rw [bN ey]
   have cx:=RD (p:=p) (q:=q) el jl;generalize hx:bU (p++q) e j=x at *;refine ⟨_,rfl,_,rfl,_,rfl,_,_,rfl,cu.of R_,Bx _ rfl,fun p3 hp3=> ?_⟩;rw [show jA (nV x) none (some 2)=[.int x.1,.int x.2.1] from Kl ..];have s5:=aC (o:=HO.tup [V.int x.1,V.int x.2.1]) hp3;have ha5:=(O2.trans (s4.trans s5)) _ _ ha;refine ⟨d,_,rfl,pl.1 e _ nme▸nZ.t (k:=kx (n1 x)) (s5 _ _ Lh) ak,_,rfl,a,av,rfl,.inl (aW.of ha5),_,_,rfl,rfl,_,rfl, ?_⟩
   have fx:((ns[i]?).bind fun x=>if G5 p x then vs[i]? else none)=if G5 p x then some (.ref t) else none:=by
    rw [ex];show (if G5 p x=true then vs[i]? else none)=_;rw [hi]
   by_cases c1:e<p.length
   ·refine kj (fun _=> ?_) (fun z=>absurd (decide_eq_true (by omega)) z)
    refine ⟨_,rfl,_,rfl,_,rfl,_,_,rfl,cu.of (s5 _ _ R_),Bw _ rfl,fun p4 hp4=> ?_⟩;rw [show jA (nV x) (some 2) none=[.int x.2.2.1,.int x.2.2.2] from Kh ..];have s6:=aC (o:=HO.tup [V.int x.2.2.1,V.int x.2.2.2]) hp4;refine ⟨d,_,rfl,pl.1 j _ nmj▸nZ.t (k:=kx (n2 x)) ((s5.trans s6) _ _ Lh) ak,_,_,rfl,rfl,_,rfl, ?_⟩
    by_cases c2:p.length<=j
    ·refine kj (fun _=> ?_) (fun z=>absurd (decide_eq_true (by omega)) z)
     refine ⟨_,rfl,kF _ _ (s5.trans s6) ?_⟩;rw [fx,cx,decide_eq_true c1,decide_eq_true c2];rfl
    ·refine kj (fun z=>absurd (of_decide_eq_true z) (by omega)) (fun _=> ?_)
     refine kG _ (s5.trans s6) ?_;rw [fx,cx,decide_eq_false c2,Bool.and_false];rfl
   ·refine kj (fun z=>absurd (of_decide_eq_true z) (by omega)) (fun _=> ?_)
    refine ⟨_,rfl, ?_⟩;refine kj (fun z=>absurd z (by decide)) (fun _=> ?_);refine kG _ s5 ?_;rw [fx,cx,decide_eq_false c1,Bool.false_and];rfl
  ·refine k D (ns.filter (G5 p)) H4 (O2.free hD) ⟨_,e4,aD.keep s4.tups _ (aX _ dW _) (zX (G5 p) HW)⟩ ((pp.filter _).trans (CP p q)) (lV _ ss) (O2.trans s4)
def Al:Nat->PyData->Prop
 | 0,_=>False
 | _+1,.int _=>True
 | n+1,.list ds=>ds.length<=100000 /\ ∀d∈ds,Al n d
 | n+1,.tuple ds=>ds.length<=100000 /\ ∀d∈ds,Al n d
 | _+1,_=>False
theorem vK (n:Nat) (v:V):(List.range n).filterMap (fun _=>some v)=List.replicate n v:=by
 induction n with
 | zero=>rfl
 | succ n ih=>rw [fQ,ih,List.replicate_succ'];rfl
def ig (n:Nat) (K:PySem.W.Frag):Sp:=fun vs H Q _=>∃(x y:V) (d:PyData),vs=[x,y]/\Dat H x d/\Dat H y d/\Al n d /\ ∀H',Same H H'->Q (.bl true) H'
theorem Gi {f:Addr} {fd:FuncData} (F:jU K "_law_alike" "_law_alike" fL f fd):cY P w K mg base jM 1 f fd ["found","due"] (ig 0 K):=by
 refine F.ok vA (fun vs H Q E h=> ?_) (fun cdv A outer s H vs Q E hr h=> ?_)
 ·obtain ⟨x,y,d,_,_,_,z,_⟩:=h
  exact z.elim
 ·obtain ⟨x,y,d,_,_,_,z,_⟩:=h
  exact z.elim
theorem jR {n:Nat} {f:Addr} {fd:FuncData} (F:jU K "_law_alike" "_law_alike" fL f fd) (jW:FnAt P w K mg base (n+1) "_law_alike" ["found","due"] (ig n K)) (Bt:qI mg):cY P w K mg base jM (n+1+1) f fd ["found","due"] (ig (n+1) K):=by
 refine F.ok vA (fun vs H Q E h=> ?_) (fun cdv A outer s H vs Q E hr h=> ?_)
 ·obtain ⟨x,y,d,rfl,_⟩:=h
  rfl
 ·obtain ⟨x,y,d,rfl,dx,dy,pl,k⟩:=h
  refine ⟨_,(aA (dH (cV (aO (CZ (K:=K) rfl) (by rfl) Bt.bV bJ (aj (pv 1) (aj (fU (aj (fP (v:= .ty "list") (by rfl) Bt.mH jF rfl) (aj (fP (v:= .ty "tuple") (by rfl) Bt.rH oZ rfl) ao))) ao)))) (aA (dH (PW.pt (ql (cF jQ (aO (d9 (K:=K) (cv:= .ty "list") (c:= .type "list") rfl rfl) (by rfl) Bt.bV bJ (aj (pv 0) (aj (fP (v:= .ty "list") (by rfl) Bt.mH jF rfl) ao))) (aO (d9 (K:=K) (cv:= .ty "list") (c:= .type "list") rfl rfl) (by rfl) Bt.bV bJ (aj (pv 1) (aj (fP (v:= .ty "list") (by rfl) Bt.mH jF rfl) ao))) (bL _)) (nR (cF jQ (aO (d9 (K:=K) (cv:= .ty "tuple") (c:= .type "tuple") rfl rfl) (by rfl) Bt.bV bJ (aj (pv 0) (aj (fP (v:= .ty "tuple") (by rfl) Bt.rH oZ rfl) ao))) (aO (d9 (K:=K) (cv:= .ty "tuple") (c:= .type "tuple") rfl rfl) (by rfl) Bt.bV bJ (aj (pv 1) (aj (fP (v:= .ty "tuple") (by rfl) Bt.rH oZ rfl) ao))) (bL _))))) (aG (bw oK)) bK)
   (aA (dH (cF jQ (aO (aZ (K:=K) rfl) (by rfl) Bt.iM eV (aj (pv 0) ao)) (aO (aZ (K:=K) rfl) (by rfl) Bt.iM eV (aj (pv 1) ao)) (bL _)) (aG (bw oK)) bK)
   (aG (bw (aO (d7 (K:=K) rfl rfl) (by rfl) Bt.Ae uz (aj (fO rfl (N:=["k","found","due"]) (own:=["k"]) (caps:=[0,1]) (aQ.of (by kernel_rfl)) (jP (by rfl) Bt.kO (aj (aO (aZ (K:=K) rfl) (by rfl) Bt.iM eV (aj (pv 1) ao)) ao)) (fun _ _ _ _=>(aP (i:=0) (show List.Nodup (["k","found","due"]:List Str) by decide +kernel) rfl (Or.inl rfl))) (fun _ _ _ _=>eE) (fun _ _ _ _=>(aU jW (hr.mono (Nat.le_refl _)) (by rfl) (aj (aJ (Ej (K:=K) rfl) (pv 1) (pv 0) (fun _ _=>rfl)) (aj (aJ (Ej (K:=K) rfl) (pv 2) (pv 0) (fun _ _=>rfl)) ao))))) ao)))))) bK)
   (aG (bw (lR (aO (d9 (K:=K) (cv:= .ty "int") (c:= .type "int") rfl rfl) (by rfl) Bt.bV bJ (aj (pv 0) (aj (fP (v:= .ty "int") (by rfl) Bt.Pq Kw rfl) ao))) (lR (Jq (aO (d9 (K:=K) (cv:= .ty "bool") (c:= .type "bool") rfl rfl) (by rfl) Bt.bV bJ (aj (pv 0) (aj (fP (v:= .ty "bool") (by rfl) Bt.KJ E_ rfl) ao)))) (kh (gH nF (pv 0) (pv 1) (bL _)))))))), ?_⟩
  match d,pl,dx,dy with
  | .int i,pl,dx,dy=>
    simp only [Dat] at dx dy;subst dx dy;refine ⟨_,rfl,(by show 2<=sizeLine;decide),fun p hp=> ?_⟩;have s1:=aC (o:=HO.tup [V.ty "list",V.ty "tuple"]) hp;refine ⟨_,_,p,["list","tuple"],false,rfl,.int i,ak,Dj K,_,rfl, ?_⟩;refine fK ?_;refine ⟨_,rfl,_,_,true,rfl,.int i,qw K,_,rfl, ?_⟩;refine iJ ?_;refine ⟨_,rfl,_,_,false,rfl,.int i,oO K,_,rfl,_,rfl, ?_⟩;refine iJ ?_;refine ⟨_,rfl,_,rfl,rfl, ?_⟩;rw [decide_eq_true rfl];exact k _ s1
  | .list ds,pl,dx,dy=>
    simp only [Dat] at dx dy;obtain ⟨a,vs,rfl,ha,da⟩:=dx;obtain ⟨b,ws,rfl,hb,db⟩:=dy;have la:vs.length=ds.length:=da.length;have lb:ws.length=ds.length:=db.length;have R6:ds.length<=100000:=pl.1;refine ⟨_,rfl,(by show 2<=sizeLine;decide),fun p hp=> ?_⟩;have s1:=aC (o:=HO.tup [V.ty "list",V.ty "tuple"]) hp;have ha1:=s1 _ _ ha;have hb1:=s1 _ _ hb;refine ⟨_,_,p,["list","tuple"],true,rfl,.lst hb1,ak,Ai K,_,rfl, ?_⟩;refine iJ ?_;refine ⟨_,rfl,_,_,true,rfl,.lst ha1,jJ K,_,rfl,_,_,true,rfl,.lst hb1,jJ K,rfl,_,rfl, ?_⟩;refine nJ rfl ?_;refine ⟨_,rfl,_,_,false,rfl,.lst ha1,lZ K,_,rfl,_,_,false,rfl,.lst hb1,lZ K,rfl,_,rfl, ?_⟩;refine nJ rfl ?_;refine ⟨_,rfl,a,_,rfl,.inl (aW.of ha1),_,rfl,b,_,rfl,.inl (aW.of hb1),rfl,_,rfl, ?_⟩;refine nJ (by rw [la,lb]) ?_;refine ⟨_,rfl,b,_,rfl,.inl (aW.of hb1),_,rfl,by (clear hb1 ha1 hp R6 lb la hb ha;omega),by (clear hb1 ha1 hp la hb ha;omega),fun D hD=> ?_⟩;rw [show ((ws.length:Int)).toNat=ds.length by omega];refine m9 (fun i=>some (.bl true)) hD (by omega) (fun i H2 G F hi s2 kG kF=> ?_) (fun H2 s2 e2=> ?_)
    ·obtain ⟨d,ed⟩:∃d,ds[i]? = some d:=⟨ds[i],by simp [hi]⟩
     obtain ⟨x,ex,dx⟩:=da.getD ed;obtain ⟨y,ey,dy⟩:=db.getD ed;have Tn:=s1.trans s2;have a1:vU vs (0+(i:Int))=some x:=by rw [Int.zero_add];exact cP ex
     have a2:vU ws (0+(i:Int))=some y:=by rw [Int.zero_add];exact cP ey
     exact ⟨_,rfl,_,rfl,.inl ⟨_,_,_,_,rfl,rfl,aW.of (s2 _ _ ha1),a1,_,rfl,_,rfl,.inl ⟨_,_,_,_,rfl,rfl,aW.of (s2 _ _ hb1),a2,x,y,d,rfl,dx.same Tn d,dy.same Tn d,pl.2 d (List.mem_of_getElem? ed),fun H3 s3=>kF _ H3 s3 rfl⟩⟩⟩
    ·rw [vK] at e2
     refine ⟨D,List.replicate ds.length true,rfl,aW.of (by rw [e2,List.map_replicate]), ?_⟩;rw [show (List.replicate ds.length true).all id=true by simp];exact k H2 (s1.trans s2)
  | .tuple ds,pl,dx,dy=>
    simp only [Dat] at dx dy;obtain ⟨a,vs,rfl,ha,da⟩:=dx;obtain ⟨b,ws,rfl,hb,db⟩:=dy;have la:vs.length=ds.length:=da.length;have lb:ws.length=ds.length:=db.length;have R6:ds.length<=100000:=pl.1;refine ⟨_,rfl,(by show 2<=sizeLine;decide),fun p hp=> ?_⟩;have s1:=aC (o:=HO.tup [V.ty "list",V.ty "tuple"]) hp;have ha1:=s1 _ _ ha;have hb1:=s1 _ _ hb;refine ⟨_,_,p,["list","tuple"],true,rfl,.tup hb1,ak,xP K,_,rfl, ?_⟩;refine iJ ?_;refine ⟨_,rfl,_,_,false,rfl,.tup ha1,lY K,_,rfl,_,_,false,rfl,.tup hb1,lY K,rfl,_,rfl, ?_⟩;refine nJ rfl ?_;refine ⟨_,rfl,_,_,true,rfl,.tup ha1,iT K,_,rfl,_,_,true,rfl,.tup hb1,iT K,rfl,_,rfl, ?_⟩;refine nJ rfl ?_;refine ⟨_,rfl,a,_,rfl,.inr (cu.of ha1),_,rfl,b,_,rfl,.inr (cu.of hb1),rfl,_,rfl, ?_⟩;refine nJ (by rw [la,lb]) ?_;refine ⟨_,rfl,b,_,rfl,.inr (cu.of hb1),_,rfl,by (clear hb1 ha1 hp R6 lb la hb ha;omega),by (clear hb1 ha1 hp la hb ha;omega),fun D hD=> ?_⟩;rw [show ((ws.length:Int)).toNat=ds.length by omega];refine m9 (fun i=>some (.bl true)) hD (by omega) (fun i H2 G F hi s2 kG kF=> ?_) (fun H2 s2 e2=> ?_)
    ·obtain ⟨d,ed⟩:∃d,ds[i]? = some d:=⟨ds[i],by simp [hi]⟩
     obtain ⟨x,ex,dx⟩:=da.getD ed;obtain ⟨y,ey,dy⟩:=db.getD ed;have Tn:=s1.trans s2;have a1:vU vs (0+(i:Int))=some x:=by rw [Int.zero_add];exact cP ex
     have a2:vU ws (0+(i:Int))=some y:=by rw [Int.zero_add];exact cP ey
     exact ⟨_,rfl,_,rfl,.inr (.inl ⟨_,_,_,_,rfl,rfl,cu.of (s2 _ _ ha1),a1,_,rfl,_,rfl,.inr (.inl ⟨_,_,_,_,rfl,rfl,cu.of (s2 _ _ hb1),a2,x,y,d,rfl,dx.same Tn d,dy.same Tn d,pl.2 d (List.mem_of_getElem? ed),fun H3 s3=>kF _ H3 s3 rfl⟩)⟩)⟩
    ·rw [vK] at e2
     refine ⟨D,List.replicate ds.length true,rfl,aW.of (by rw [e2,List.map_replicate]), ?_⟩;rw [show (List.replicate ds.length true).all id=true by simp];exact k H2 (s1.trans s2)
theorem t_ {H:Hp} {a:Addr} {ns:List Int} (h:H a=some (.lst (ns.map V.int))):Dat H (.ref a) (.list (ns.map PyData.int)):=oX h (aD.ints ns)
def rD (cs:List Int) (ns:List Nt):PyData:= .tuple [.list (cs.map PyData.int),.list (ns.map nD)]
theorem jE {H:Hp} {t c a:Addr} {cs:List Int} {ns:List Nt} (h:RecAt H t c a cs ns):Dat H (.ref t) (rD cs ns):=by
 obtain ⟨ht,hc,vs,ha,dv⟩:=h;simp only [rD,Dat];refine ⟨t,_,rfl,ht, ?_⟩;simp only [aD,and_true];exact ⟨t_ hc,oX ha dv⟩
theorem Jm {cs:List Int} {ns:List Nt} (h1:cs.length<=100000) (h2:ns.length<=100000):Al 4 (rD cs ns):=by
 refine ⟨by show 2<=100000;decide,fun d hd=> ?_⟩;simp only [List.mem_cons,List.not_mem_nil,or_false] at hd;rcases hd with rfl|rfl
 ·refine ⟨by rw [List.length_map];exact h1,fun d hd=> ?_⟩
  obtain ⟨i,_,rfl⟩:=List.mem_map.mp hd;exact True.intro
 ·refine ⟨by rw [List.length_map];exact h2,fun d hd=> ?_⟩
  obtain ⟨x,_,rfl⟩:=List.mem_map.mp hd;refine ⟨by show 4<=100000;decide,fun d hd=> ?_⟩;simp only [List.mem_cons,List.not_mem_nil,or_false] at hd;rcases hd with rfl|rfl|rfl|rfl<;>exact True.intro
theorem Al.up:∀{n:Nat} {d:PyData},Al n d->Al (n+1) d
 | _+1,.int _,_=>True.intro
 | n+1,.list ds,h=>⟨h.1,fun d hd=>Al.up (h.2 d hd)⟩
 | n+1,.tuple ds,h=>⟨h.1,fun d hd=>Al.up (h.2 d hd)⟩
 | 0,_,h=>h.elim
theorem Z6 (ns:List Nt) (h2:ns.length<=100000):Al 3 (.list (ns.map nD)):=by
 refine ⟨by rw [List.length_map];exact h2,fun d hd=> ?_⟩;obtain ⟨x,_,rfl⟩:=List.mem_map.mp hd;refine ⟨by show 4<=100000;decide,fun d hd=> ?_⟩;simp only [List.mem_cons,List.not_mem_nil,or_false] at hd;rcases hd with rfl|rfl|rfl|rfl<;>exact True.intro
theorem Iw {hn:Int} {ws:List aY} (h:∀x∈ws,jy hn x) (h8:hn<=8):∀x∈ws,VD x:=fun x hx=>⟨⟨(h x hx).1.1,by have:=(h x hx).1.2;omega⟩,(h x hx).2.1,(h x hx).2.2⟩
theorem bI (ws:List aY) (hn:Nat):(bh ws hn).length=hn:=by unfold bh;simp
theorem bZ {ws:List aY} {hn:Nat} {h:Int} (h0:0<=h) (h1:h<hn):gI (bh ws hn) h=cnt ws h:=by
 obtain ⟨m,rfl⟩:=Int.eq_ofNat_of_zero_le h0;refine eU ?_;unfold bh;rw [List.getElem?_map,List.getElem?_range (by omega)];rfl
theorem um (ws:List aY) (h:Int):cnt ws h<=ws.length:=by
 unfold cnt;have:=List.length_filter_le (fun x:aY=>decide (x.1=h)) ws;omega
theorem MK {ws:List aY} {hn:Nat} {e j:Nat} (ok:∀x∈ws,jy (hn:Int) x) (he:e<ws.length) (hj:j<ws.length) (ne:¬hnd ws e=hnd ws j):KY (bh ws hn) (bU ws e j):=by
 have r:∀i,i<ws.length->0<=hnd ws i/\hnd ws i<hn:=fun i hi=>by
  have ex:ws[i]? = some ws[i]:=List.getElem?_eq_getElem hi;rw [bN ex];exact (ok _ (List.getElem_mem hi)).1
 obtain ⟨a0,a1⟩:=r e he;obtain ⟨b0,b1⟩:=r j hj;unfold bU;refine ⟨⟨a0,by rw [bI];exact a1⟩,⟨dG _ _, ?_⟩,⟨b0,by rw [bI];exact b1⟩,⟨dG _ _, ?_⟩,ne⟩
 ·show cnt (ws.take e) (hnd ws e)<gI (bh ws hn) (hnd ws e)
  rw [bZ a0 a1];exact iK he
 ·show cnt (ws.take j) (hnd ws j)<gI (bh ws hn) (hnd ws j)
  rw [bZ b0 b1];exact iK hj
theorem o7 {ws:List aY} {hn:Nat} (ok:∀x∈ws,jy (hn:Int) x) {n:Nat} (hn':n<=ws.length):∀x∈cg ws n,KY (bh ws hn) x:=fun x hx=>by
 unfold cg at hx;obtain ⟨j,hj,hx⟩:=List.mem_flatMap.mp hx;have hj:=List.mem_range.mp hj;unfold aR at hx;obtain ⟨e,he,rfl⟩:=List.mem_map.mp hx;obtain ⟨h1,h2⟩:=List.mem_filter.mp he;exact MK ok (Ag (by omega) h1) (by omega) (of_decide_eq_true h2)
theorem Qn {ws:List aY} {hn:Nat} {ns:List Nt} (ok:∀x∈ws,jy (hn:Int) x) (h8:hn<=8) (wl:ws.length<=300) (pm:ns.Perm (cg ws ws.length)):uH (bh ws hn) ns:=by
 refine ⟨⟨by rw [bI];exact h8,fun c hc=> ?_⟩, ?_,fun x hx=>o7 ok (Nat.le_refl _) x (pm.mem_iff.mp hx)⟩
 ·unfold bh at hc
  obtain ⟨h,_,rfl⟩:=List.mem_map.mp hc;have:=um ws (h:Int);exact ⟨dG _ _,by omega⟩
 ·rw [pm.length_eq]
  have:=mJ ws ws.length;have:ws.length*ws.length<=300*300:=Nat.mul_le_mul wl wl;omega
theorem Mh {ns:List Int} (h:ns.length<=100000):Al 2 (.list (ns.map PyData.int)):=by
 refine ⟨by rw [List.length_map];exact h,fun d hd=> ?_⟩;obtain ⟨x,_,rfl⟩:=List.mem_map.mp hd;exact True.intro
def lD (a:List Int):PyData:= .list (a.map PyData.int)
def R0 (ws:List aY) (h:Int):List Nat:=(List.range ws.length).filter fun i=>decide (hnd ws i=h)
theorem Jl (ws:List aY) (x:aY) (h:Int):R0 (ws++[x]) h=R0 ws h++(if x.1=h then [ws.length] else []):=by
 unfold R0;rw [List.length_append,List.length_singleton,List.range_succ,List.filter_append];congr 1
 ·refine List.filter_congr fun i hi=> ?_
  rw [mj (List.mem_range.mp hi)]
 ·have:hnd (ws++[x]) ws.length=x.1:=by unfold hnd;simp
  rw [List.filter_cons,this]
  by_cases e:x.1=h<;>simp [e]
theorem yK (h:Int):∀(n:Nat) (ws:List aY),ws.length=n->((R0 ws h).length:Int)=cnt ws h
 | 0,ws,e=>by
   cases ws with
   | nil=>rfl
   | cons _ _=>cases e
 | n+1,ws,e=>by
   rcases List.eq_nil_or_concat ws with rfl|⟨l,x,rfl⟩
   ·cases e
   ·have ih:=yK h n l (by simpa using e)
    rw [List.concat_eq_append,Jl,List.length_append,b_]
    by_cases e:x.1=h
    ·rw [if_pos e,if_pos e.symm];simp;(clear e;omega)
    ·rw [if_neg e,if_neg (Ne.symm e)];simpa using ih
theorem Mf (ws:List aY) (h:Int):((R0 ws h).length:Int)=cnt ws h:=yK h _ ws rfl
def gn (ws:List aY) (o:List Nat):List aY:=o.map fun i=>(ws[i]?).getD (0,"",0)
theorem get_some {α:Type} {l:List α} {i:Nat} (h:i<l.length):∃x,l[i]? = some x:=⟨_,List.getElem?_eq_getElem h⟩
structure Ord (ws:List aY) (o:List Nat):Prop where
 perm:o.Perm (List.range ws.length)
 keep:∀(i j a b:Nat),o[i]? = some a->o[j]? = some b->gQ ws a b=true->i<j
 nm:∀(i a:Nat) (x:aY),o[i]? = some a->ws[a]? = some x->cnt ((gn ws o).take i) x.1=cnt (ws.take a) x.1
theorem M7 (x y:aY):mt x y=mt y x:=by
 unfold mt
 by_cases h:x.1=y.1
 ·rw [if_pos h,if_pos h.symm]
 ·rw [if_neg h,if_neg (fun z:y.1=x.1=>h z.symm)]
  by_cases c:x.2.2=y.2.2
  ·rw [if_pos c,if_pos c.symm]
   by_cases l:x.2.1 = "load" <;> by_cases m:y.2.1 = "load" <;> simp [l,m]
  ·rw [if_neg c,if_neg (fun z:y.2.2=x.2.2=>c z.symm)]
theorem IK (ws:List aY) (i j:Nat):Bg ws i j=Bg ws j i:=by
 unfold Bg;cases ws[i]? with
 | none=>cases ws[j]? <;> rfl
 | some x=>
   cases ws[j]? with
   | none=>rfl
   | some y=>
     show (decide (x.1=y.1)||mt x y)=(decide (y.1=x.1)||mt y x);rw [M7 x y];congr 1
     by_cases h:x.1=y.1
     ·rw [decide_eq_true h,decide_eq_true h.symm]
     ·rw [decide_eq_false h,decide_eq_false (fun z=>h z.symm)]
theorem wC (ws:List aY) (o:List Nat):(gn ws o).length=o.length:=by unfold gn;simp
theorem rB {ws:List aY} {o:List Nat} {i a:Nat} {x:aY} (h:o[i]? = some a) (e:ws[a]? = some x):(gn ws o)[i]? = some x:=by
 unfold gn;rw [List.getElem?_map,h];show some ((ws[a]?).getD (0,"",0))=some x;rw [e];rfl
theorem FT (ws:List aY):gn ws (List.range ws.length)=ws:=by
 refine List.ext_getElem? fun i=> ?_
 by_cases h:i<ws.length
 ·exact (rB (List.getElem?_range h) (List.getElem?_eq_getElem h)).trans (List.getElem?_eq_getElem h).symm
 ·rw [List.getElem?_eq_none (by rw [wC,List.length_range];omega),List.getElem?_eq_none (by omega)]
section
variable {ws:List aY} {o:List Nat}
theorem Ord.len (O:Ord ws o):o.length=ws.length:=by rw [O.perm.length_eq,List.length_range]
theorem Ord.lt (O:Ord ws o) {i a:Nat} (h:o[i]? = some a):a<ws.length:=List.mem_range.mp (O.perm.mem_iff.mp (List.mem_of_getElem? h))
theorem Ord.Im (O:Ord ws o):(gn ws o).length=ws.length:=by rw [wC,O.len]
theorem Ord.nodup (O:Ord ws o):o.Nodup:=O.perm.nodup_iff.mpr List.nodup_range
theorem Ord.inj (O:Ord ws o) {i j a:Nat} (hi:o[i]? = some a) (hj:o[j]? = some a):i=j:=by
 obtain ⟨li,ei⟩:=List.getElem?_eq_some_iff.mp hi;obtain ⟨lj,ej⟩:=List.getElem?_eq_some_iff.mp hj;have nd:=List.pairwise_iff_getElem.mp (List.nodup_iff_pairwise_ne.mp O.nodup);rcases Nat.lt_trichotomy i j with l|l|l
 ·exact absurd (ei.trans ej.symm) (nd i j li lj l)
 ·exact l
 ·exact absurd (ej.trans ei.symm) (nd j i lj li l)
theorem Ord.onto (O:Ord ws o) {a:Nat} (h:a<ws.length):∃i:Nat,o[i]? = some a:=List.getElem?_of_mem (O.perm.mem_iff.mpr (List.mem_range.mpr h))
theorem Ord.of (O:Ord ws o) {i:Nat} (h:i<ws.length):∃a,o[i]? = some a:=get_some (by rw [O.len];exact h)
theorem Ord.gQ (O:Ord ws o) {i j a b:Nat} (hi:o[i]? = some a) (hj:o[j]? = some b):gQ (gn ws o) i j=true↔Prf.gQ ws a b=true:=by
 obtain ⟨xa,ea⟩:=get_some (O.lt hi);obtain ⟨xb,eb⟩:=get_some (O.lt hj)
 have es:Bg (gn ws o) i j=Bg ws a b:=by
  unfold Bg;rw [rB hi ea,rB hj eb,ea,eb]
 constructor
 ·intro q
  unfold Prf.gQ at q;rw [Bool.and_eq_true,es] at q;obtain ⟨lij,st⟩:=q;have lij:=of_decide_eq_true lij;rcases Nat.lt_trichotomy a b with l|l|l
  ·unfold Prf.gQ
   rw [decide_eq_true l,st];rfl
  ·subst l
   exact absurd (O.inj hi hj) (by omega)
  ·have:Prf.gQ ws b a=true:=by
    unfold Prf.gQ;rw [decide_eq_true l,IK,st];rfl
   have:=O.keep j i b a hj hi this;omega
 ·intro q
  have l:=O.keep i j a b hi hj q;unfold Prf.gQ at q ⊢;rw [Bool.and_eq_true] at q;rw [decide_eq_true l,es,q.2];rfl
theorem Ord.Zo (O:Ord ws o) {j b:Nat} (hj:o[j]? = some b):∀{i:Nat},kY (gn ws o) j i -> ∀a,o[i]? = some a->kY ws b a:=by
 intro i r
 induction r with
 | one h=>exact fun a ha=> .one ((O.gQ ha hj).mp h)
 | more h r ih=>
   intro a ha;have:=(cA h).2;rw [O.Im] at this;obtain ⟨c,hc⟩:=O.of this;exact .more ((O.gQ ha hc).mp h) (ih c hc)
theorem Ord.Zn (O:Ord ws o) {j b:Nat} (hj:o[j]? = some b):∀{a:Nat},kY ws b a -> ∀i,o[i]? = some a->kY (gn ws o) j i:=by
 intro a r
 induction r with
 | one h=>exact fun i hi=> .one ((O.gQ hi hj).mpr h)
 | more h r ih=>
   intro i hi;obtain ⟨k,hk⟩:=O.onto (cA h).2;exact .more ((O.gQ hi hk).mpr h) (ih k hk)
theorem Ord.rch (O:Ord ws o) {i j a b:Nat} (hi:o[i]? = some a) (hj:o[j]? = some b):kY (gn ws o) j i↔kY ws b a:=⟨fun r=>O.Zo hj r a hi,fun r=>O.Zn hj r i hi⟩
theorem uE {ws:List aY} {j e:Nat}:Bare ws j e↔Prf.gQ ws e j=true /\ ¬ ∃x,Prf.gQ ws x j=true/\kY ws x e:=by
 unfold Bare yd;constructor
 ·rintro ⟨s,q⟩
  refine ⟨s,fun ⟨x,sx,r⟩=>q ⟨x,r.lt.1,sx,.inr r⟩⟩
 ·rintro ⟨s,q⟩
  refine ⟨s,fun ⟨x,l,sx,r⟩=>q ⟨x,sx, ?_⟩⟩;rcases r with r|r
  ·omega
  ·exact r
theorem Ord.bare (O:Ord ws o) {i j a b:Nat} (hi:o[i]? = some a) (hj:o[j]? = some b):Bare (gn ws o) j i↔Bare ws b a:=by
 rw [uE,uE,O.gQ hi hj];constructor
 ·rintro ⟨s,q⟩
  refine ⟨s,fun ⟨x,sx,r⟩=> ?_⟩;obtain ⟨k,hk⟩:=O.onto (Nat.lt_trans (cA sx).1 (cA sx).2);exact q ⟨k,(O.gQ hk hj).mpr sx,(O.rch hi hk).mpr r⟩
 ·rintro ⟨s,q⟩
  refine ⟨s,fun ⟨k,sk,r⟩=> ?_⟩;have:=Nat.lt_trans (cA sk).1 (cA sk).2;rw [O.Im] at this;obtain ⟨x,hx⟩:=O.of this;exact q ⟨x,(O.gQ hx hj).mp sk,(O.rch hi hx).mp r⟩
theorem g_ {ws:List aY} {j e:Nat}:e∈bC ws j j↔Bare ws j e:=by
 unfold bC;rw [List.mem_filter];constructor
 ·exact fun h=>of_decide_eq_true h.2
 ·intro h
  have l:=(cA h.1).1;exact ⟨List.mem_map.mpr ⟨j - 1 - e,List.mem_range.mpr (by omega),by omega⟩,decide_eq_true h⟩
theorem qt (ws:List aY) (j:Nat):(bC ws j j).Nodup:=by
 unfold bC;rw [List.nodup_iff_pairwise_ne];refine List.Pairwise.filter _ ?_;rw [List.pairwise_map];refine List.Pairwise.imp_of_mem ?_ List.nodup_range;intro a b ha hb ne;have ha:=List.mem_range.mp ha;have hb:=List.mem_range.mp hb;omega
theorem Ord.down (O:Ord ws o) {j b:Nat} (hj:o[j]? = some b):((bC (gn ws o) j j).map fun i=>(o[i]?).getD 0).Perm (bC ws b b):=by
 have lt:∀{e:Nat},e∈bC (gn ws o) j j -> ∃a,o[e]? = some a:=fun {e} h=>by
  have:=cA (g_.mp h).1;rw [O.Im] at this;exact O.of (by omega)
 refine (List.perm_ext_iff_of_nodup ?_ (qt _ _)).mpr fun a=> ?_
 ·rw [List.nodup_iff_pairwise_ne,List.pairwise_map]
  refine List.Pairwise.imp_of_mem ?_ (qt _ _);intro x y hx hy ne z;obtain ⟨a,ha⟩:=lt hx;obtain ⟨c,hc⟩:=lt hy;rw [ha,hc] at z;have z:a=c:=z;subst z;exact ne (O.inj ha hc)
 ·rw [g_,List.mem_map]
  constructor
  ·rintro ⟨i,hi,e⟩
   obtain ⟨c,hc⟩:=lt hi;rw [hc] at e;have e:c=a:=e;subst e;exact (O.bare hc hj).mp (g_.mp hi)
  ·intro h
   obtain ⟨i,hi⟩:=O.onto (Nat.lt_trans (cA h.1).1 (cA h.1).2);exact ⟨i,g_.mpr ((O.bare hi hj).mpr h),by rw [hi];rfl⟩
theorem Ord.hnd (O:Ord ws o) {i a:Nat} (hi:o[i]? = some a):hnd (gn ws o) i=Prf.hnd ws a:=by
 obtain ⟨xa,ea⟩:=get_some (O.lt hi);rw [bN (rB hi ea),bN ea]
theorem Ord.note (O:Ord ws o) {i j a b:Nat} (hi:o[i]? = some a) (hj:o[j]? = some b):bU (gn ws o) i j=bU ws a b:=by
 obtain ⟨xa,ea⟩:=get_some (O.lt hi);obtain ⟨xb,eb⟩:=get_some (O.lt hj);have n1:=O.nm i a _ hi ea;have n2:=O.nm j b _ hj eb;unfold bU;rw [O.hnd hi,O.hnd hj,bN ea,bN eb,n1,n2]
theorem Ord.notes (O:Ord ws o) {j b:Nat} (hj:o[j]? = some b):(aR (gn ws o) j (bC (gn ws o) j j)).Perm (aR ws b (bC ws b b)):=by
 have q:=((O.down hj).filter fun e=>decide (¬Prf.hnd ws e=Prf.hnd ws b)).map fun e=>bU ws e b;refine List.Perm.trans (List.Perm.of_eq ?_) q;unfold aR;rw [List.filter_map,List.map_map]
 have lt:∀{e:Nat},e∈bC (gn ws o) j j -> ∃a,o[e]? = some a:=fun {e} h=>by
  have:=cA (g_.mp h).1;rw [O.Im] at this;exact O.of (by omega)
 have ef:(bC (gn ws o) j j).filter (fun e=>decide (¬Prf.hnd (gn ws o) e=Prf.hnd (gn ws o) j))=(bC (gn ws o) j j).filter ((fun e=>decide (¬Prf.hnd ws e=Prf.hnd ws b))∘fun i=>(o[i]?).getD 0):=by
  refine List.filter_congr fun e he=> ?_;obtain ⟨a,ha⟩:=lt he;show decide _=decide (¬Prf.hnd ws ((o[e]?).getD 0)=Prf.hnd ws b);rw [O.hnd ha,O.hnd hj,ha];rfl
 rw [ef];refine List.map_congr_left fun e he=> ?_;obtain ⟨a,ha⟩:=lt (List.mem_filter.mp he).1;show bU _ _ _=bU ws ((o[e]?).getD 0) b;rw [ha];exact O.note ha hj
theorem DX {α β:Type} {f g:α->List β}:∀(l:List α),(∀i∈l,(f i).Perm (g i))->(l.flatMap f).Perm (l.flatMap g)
 | [],_=>List.Perm.refl _
 | a::l,h=>by
   rw [List.flatMap_cons,List.flatMap_cons];exact (h a (.head _)).append (DX l fun i hi=>h i (.tail _ hi))
theorem Ord.all (O:Ord ws o):(cg (gn ws o) (gn ws o).length).Perm (cg ws ws.length):=by
 unfold cg;rw [O.Im];have p:(o.flatMap fun b=>aR ws b (bC ws b b)).Perm ((List.range ws.length).flatMap fun b=>aR ws b (bC ws b b)):=O.perm.flatMap_right _;refine List.Perm.trans ?_ p
 have eo:o=(List.range ws.length).map fun i=>(o[i]?).getD 0:=by
  refine List.ext_getElem? fun i=> ?_
  by_cases h:i<ws.length
  ·rw [List.getElem?_map,List.getElem?_range h]
   obtain ⟨a,ha⟩:=O.of h;show o[i]? = some ((o[i]?).getD 0);rw [ha];rfl
  ·rw [List.getElem?_eq_none (by rw [O.len];omega),List.getElem?_eq_none (by simp;omega)]
 have e2:(o.flatMap fun b=>aR ws b (bC ws b b))=(List.range ws.length).flatMap fun i=>aR ws ((o[i]?).getD 0) (bC ws ((o[i]?).getD 0) ((o[i]?).getD 0)):=by
  conv=>lhs;rw [eo];rw [List.flatMap_map]
 rw [e2];refine DX _ fun i hi=> ?_;obtain ⟨a,ha⟩:=O.of (List.mem_range.mp hi);rw [ha];exact O.notes ha
theorem Ord.Sy (O:Ord ws o):(gn ws o).Perm ws:=by
 have q:(gn ws o).Perm (gn ws (List.range ws.length)):=O.perm.map _;rwa [FT] at q
theorem Kr {a b:List aY} (p:a.Perm b) (h:Int):cnt a h=cnt b h:=by
 unfold cnt;rw [(p.filter _).length_eq]
end
theorem J0 {ws:List aY} {a m:Nat} (h:m<a):hnd (ws.take a) m=hnd ws m:=by
 unfold hnd;rw [List.getElem?_take,if_pos h]
theorem CT {ws:List aY} {a:Nat} (ha:a<=ws.length) (h:Int):cnt (ws.take a) h=(((List.range a).filter fun m=>decide (hnd ws m=h)).length:Int):=by
 rw [←Mf];unfold R0;rw [List.length_take,Nat.min_eq_left ha];congr 2;refine List.filter_congr fun m hm=> ?_;rw [J0 (List.mem_range.mp hm)]
theorem Ew {ws:List aY} {h:Int}:∀{o:List Nat},(∀m∈o,m<ws.length)->cnt (gn ws o) h=((o.filter fun m=>decide (hnd ws m=h)).length:Int)
 | [],_=>rfl
 | m::o,q=>by
   obtain ⟨x,ex⟩:=get_some (q m (.head _));have ih:=Ew (h:=h) (o:=o) fun m hm=>q m (.tail _ hm)
   have e:gn ws (m::o)=x::gn ws o:=by
    show (ws[m]?).getD (0,"",0)::gn ws o=_;rw [ex];rfl
   unfold cnt at ih ⊢;rw [e,List.filter_cons,List.filter_cons,bN ex]
   by_cases c:x.1=h
   ·rw [if_pos (decide_eq_true c),if_pos (decide_eq_true c),List.length_cons,List.length_cons]
    omega
   ·rw [if_neg (by simp [c]),if_neg (by simp [c])]
    exact ih
theorem rP {ws:List aY} {i j:Nat} (l:i<j) (hj:j<ws.length) (e:hnd ws i=hnd ws j):gQ ws i j=true:=by
 obtain ⟨xi,ei⟩:=get_some (l:=ws) (i:=i) (by omega);obtain ⟨xj,ej⟩:=get_some hj;unfold gQ Bg;rw [decide_eq_true l,ei,ej];rw [bN ei,bN ej] at e;show (true&&(decide (_=_)||_))=true;rw [decide_eq_true e];rfl
theorem Qx {ws:List aY} {o:List Nat} (p:o.Perm (List.range ws.length)) (keep:∀(i j a b:Nat),o[i]? = some a->o[j]? = some b->gQ ws a b=true->i<j):Ord ws o:=by
 refine ⟨p,keep,fun i a x hi hx=> ?_⟩;have al:=(List.getElem?_eq_some_iff.mp hx).1;have nd:o.Nodup:=p.nodup_iff.mpr List.nodup_range;have lt:∀m∈o,m<ws.length:=fun m hm=>List.mem_range.mp (p.mem_iff.mp hm);have tk:(gn ws o).take i=gn ws (o.take i):=by unfold gn;rw [List.map_take]
 rw [tk,Ew fun m hm=>lt m (List.mem_of_mem_take hm),CT (Nat.le_of_lt al)];congr 1;refine List.Perm.length_eq ((List.perm_ext_iff_of_nodup ?_ ?_).mpr fun m=> ?_)
 ·exact List.Pairwise.filter _ (List.Pairwise.sublist (List.take_sublist _ _) nd)
 ·exact List.Pairwise.filter _ List.nodup_range
 ·rw [List.mem_filter,List.mem_filter,List.mem_range]
  constructor
  ·rintro ⟨hm,e⟩
   refine ⟨?_,e⟩;have e:=of_decide_eq_true e;obtain ⟨t,ht⟩:=List.getElem?_of_mem hm;rw [List.getElem?_take] at ht;split at ht
   ·rename_i ti
    rcases Nat.lt_trichotomy m a with q|q|q
    ·exact q
    ·subst q
     have nd':=List.pairwise_iff_getElem.mp (List.nodup_iff_pairwise_ne.mp nd);obtain ⟨l1,e1⟩:=List.getElem?_eq_some_iff.mp ht;obtain ⟨l2,e2⟩:=List.getElem?_eq_some_iff.mp hi;exact absurd (e1.trans e2.symm) (nd' t i l1 l2 ti)
    ·have:=keep i t a m hi ht (rP q (lt m (List.mem_of_getElem? ht)) (by rw [e,bN hx]))
     omega
   ·cases ht
  ·rintro ⟨hm,e⟩
   refine ⟨?_,e⟩;have e:=of_decide_eq_true e;obtain ⟨t,ht⟩:=List.getElem?_of_mem (p.mem_iff.mpr (List.mem_range.mpr (by omega:m<ws.length)));have ti:=keep t i m a ht hi (rP hm al (by rw [e,bN hx]));exact List.mem_of_getElem? (i:=t) (by rw [List.getElem?_take,if_pos ti];exact ht)
def m5 (ws:List aY) (L:List Int) (m:Nat):Bool:=decide (cnt (ws.take m) (hnd ws m)<gI L (hnd ws m))
def Gb (ws:List aY) (L:List Int):List Nat:=(List.range ws.length).filter (m5 ws L)
def R5 (ws:List aY) (L:List Int):List Nat:=(List.range ws.length).filter fun m=> !m5 ws L m
theorem rQ {α:Type} (p:α->Bool):∀l:List α,(l.filter p++l.filter fun x=> !p x).Perm l
 | []=>List.Perm.refl _
 | a::l=>by
   have ih:=rQ p l;rw [List.filter_cons,List.filter_cons];cases q:p a
   ·simp only [Bool.false_eq_true,if_false,Bool.not_false,if_true]
    exact List.perm_middle.trans (ih.cons a)
   ·simp only [if_true,Bool.not_true,Bool.false_eq_true,if_false,List.cons_append]
    exact ih.cons a
theorem tV {p:Nat->Bool} {n i:Nat} {a:Nat} (h:((List.range n).filter p)[i]? = some a):a<n/\p a=true:=by
 obtain ⟨h1,h2⟩:=List.mem_filter.mp (List.mem_of_getElem? h);exact ⟨List.mem_range.mp h1,h2⟩
theorem filter_lt {p:Nat->Bool} {n i j a b:Nat} (h:((List.range n).filter p)[i]? = some a) (g:((List.range n).filter p)[j]? = some b) (l:a<b):i<j:=by
 have s:((List.range n).filter p).Pairwise (· < ·):=List.Pairwise.filter _ List.pairwise_lt_range;have s:=List.pairwise_iff_getElem.mp s;obtain ⟨l1,e1⟩:=List.getElem?_eq_some_iff.mp h;obtain ⟨l2,e2⟩:=List.getElem?_eq_some_iff.mp g;rcases Nat.lt_trichotomy i j with q|q|q
 ·exact q
 ·subst q
  omega
 ·have:=s j i l2 l1 q
  omega
theorem Gd {ws:List aY} {L:List Int} (dc:∀a b,gQ ws a b=true->m5 ws L b=true->m5 ws L a=true):Ord ws (Gb ws L++R5 ws L):=by
 refine Qx (rQ _ _) fun i j a b hi hj s=> ?_;rcases Nat.lt_or_ge i (Gb ws L).length with li|li
 ·rcases Nat.lt_or_ge j (Gb ws L).length with lj|lj
  ·rw [List.getElem?_append_left li] at hi
   rw [List.getElem?_append_left lj] at hj;exact filter_lt hi hj (cA s).1
  ·omega
 ·rw [List.getElem?_append_right li] at hi
  have ha:=(tV hi).2;rcases Nat.lt_or_ge j (Gb ws L).length with lj|lj
  ·rw [List.getElem?_append_left lj] at hj
   have hb:=(tV hj).2;rw [dc a b s hb] at ha;cases ha
  ·rw [List.getElem?_append_right lj] at hj
   have:=filter_lt hi hj (cA s).1;omega
theorem DG (ws:List aY) (a b:List Nat):gn ws (a++b)=gn ws a++gn ws b:=by unfold gn;rw [List.map_append]
theorem Od {L:List Int} {x y:Nt} (h:Tim.gJ (nK y) (nK x)=false):Tim.gJ (nK (cf L y)) (nK (cf L x))=false:=by
 obtain ⟨a,b,c,d⟩:=x;obtain ⟨a',b',c',d'⟩:=y;simp only [nK,cf,Tim.gJ] at h ⊢
 by_cases e1:a'=a
 ·subst e1
  simp only [if_true] at h ⊢
  by_cases e2:b'=b
  ·subst e2
   simp only [if_true] at h ⊢
   by_cases e3:c'=c
   ·subst e3
    simp only [if_true] at h ⊢
    by_cases e4:d'=d
    ·subst e4
     simp
    ·rw [if_neg e4] at h
     rw [if_neg (by omega)];have:=of_decide_eq_false h;exact decide_eq_false (by omega)
   ·rw [if_neg e3] at h ⊢
    exact h
  ·rw [if_neg e2] at h
   rw [if_neg (by omega)];have:=of_decide_eq_false h;exact decide_eq_false (by omega)
 ·rw [if_neg e1] at h ⊢
  exact h
theorem MJ {L:List Int} {ns:List Nt} (h:nu ns):nu (ns.map (cf L)):=by
 unfold nu;rw [List.pairwise_map];exact h.imp fun q=>Od q
section
variable {p q:List aY} {hn:Nat}
theorem M9 {x:Nt} (Ww:∀y∈q,jy (hn:Int) y) (h:x∈(cg q q.length).map (vq p)):∃y,KY (bh q hn) y/\x=vq p y:=by
 obtain ⟨y,hy,rfl⟩:=List.mem_map.mp h;exact ⟨y,o7 Ww (Nat.le_refl _) y hy,rfl⟩
theorem Cm {x:Nt} (Qz:∀y∈p++q,jy (hn:Int) y) (h:x∈fX p q q.length):(0<=x.1/\x.1<hn)/\(0<=x.2.2.1/\x.2.2.1<hn)/\x.2.1<cnt p x.1/\cnt p x.2.2.1<=x.2.2.2:=by
 unfold fX at h;obtain ⟨j,hj,hx⟩:=List.mem_flatMap.mp h;have hj:=List.mem_range.mp hj;unfold aR at hx;obtain ⟨e,he,rfl⟩:=List.mem_map.mp hx;have he:=(List.mem_filter.mp he).1;unfold BK at he;obtain ⟨t,ht,te⟩:=List.mem_map.mp (List.mem_filter.mp he).1;have ht:=List.mem_range.mp ht;have el:e<p.length:=by omega
 have lw:p.length+j<(p++q).length:=by rw [List.length_append];omega
 have hr:∀i,i<(p++q).length->0<=hnd (p++q) i/\hnd (p++q) i<hn:=fun i hi=>by
  obtain ⟨y,ey⟩:=get_some hi;rw [bN ey];exact (Qz y (List.mem_of_getElem? ey)).1
 refine ⟨hr e (by omega),hr _ lw, ?_, ?_⟩
 ·show cnt ((p++q).take e) (hnd (p++q) e)<cnt p (hnd (p++q) e)
  have e1:hnd (p++q) e=hnd p e:=by
   unfold hnd;rw [List.getElem?_append_left el]
  rw [List.take_append_of_le_length (by omega),e1];exact iK el
 ·show cnt p (hnd (p++q) (p.length+j))<=cnt ((p++q).take (p.length+j)) (hnd (p++q) (p.length+j))
  rw [n_,ni];have:=dG (q.take j) (hnd (p++q) (p.length+j));omega
theorem qm {ns:List Nt} (Qz:∀y∈p++q,jy (hn:Int) y) (pm:ns.Perm (cg (p++q) (p++q).length)):(ns.filter (isIn (bh p hn))).Perm (cg p p.length)/\((ns.filter (lq (bh p hn))).map (cf (bh p hn))).Perm (cg q q.length)/\closed ns (bh p hn):=by
 have okp:∀y∈p,jy (hn:Int) y:=fun y hy=>Qz y (List.mem_append_left _ hy);have Ww:∀y∈q,jy (hn:Int) y:=fun y hy=>Qz y (List.mem_append_right _ hy)
 have pm:ns.Perm (cg p p.length++((cg q q.length).map (vq p)++fX p q q.length)):=by
  rw [List.length_append] at pm;exact pm.trans (o8 p q q.length)
 have P:∀x∈cg p p.length,(0<=x.1/\x.1<hn)/\x.2.1<gI (bh p hn) x.1/\x.2.2.2<gI (bh p hn) x.2.2.1:=fun x hx=>by
  obtain ⟨a1,a2,a3,a4,_⟩:=o7 okp (Nat.le_refl _) x hx;rw [bI] at a1;exact ⟨a1,a2.2,a4.2⟩
 have S:∀x∈(cg q q.length).map (vq p),¬x.2.1<gI (bh p hn) x.1 /\ ¬x.2.2.2<gI (bh p hn) x.2.2.1:=fun x hx=>by
  obtain ⟨y,⟨a1,a2,a3,a4,_⟩,rfl⟩:=M9 Ww hx;rw [bI] at a1 a3;show ¬y.2.1+cnt p y.1<gI (bh p hn) y.1 /\ ¬y.2.2.2+cnt p y.2.2.1<gI (bh p hn) y.2.2.1;rw [bZ a1.1 a1.2,bZ a3.1 a3.2];constructor<;>omega
 have C:∀x∈fX p q q.length,x.2.1<gI (bh p hn) x.1 /\ ¬x.2.2.2<gI (bh p hn) x.2.2.1:=fun x hx=>by
  obtain ⟨c1,c2,c3,c4⟩:=Cm Qz hx;rw [bZ c1.1 c1.2,bZ c2.1 c2.2];exact ⟨c3,by omega⟩
 refine ⟨?_, ?_,fun x hx=> ?_⟩
 ·refine (pm.filter _).trans (List.Perm.of_eq ?_)
  have o1:(cg p p.length).filter (isIn (bh p hn))=cg p p.length:=List.filter_eq_self.mpr fun x hx=>decide_eq_true (P x hx).2.2;have o2:((cg q q.length).map (vq p)).filter (isIn (bh p hn))=[]:=List.filter_eq_nil_iff.mpr fun x hx z=>(S x hx).2 (of_decide_eq_true z);have o3:(fX p q q.length).filter (isIn (bh p hn))=[]:=List.filter_eq_nil_iff.mpr fun x hx z=>(C x hx).2 (of_decide_eq_true z);rw [List.filter_append,List.filter_append,o1,o2,o3,List.append_nil,List.append_nil]
 ·refine ((pm.filter _).map _).trans (List.Perm.of_eq ?_)
  have o1:(cg p p.length).filter (lq (bh p hn))=[]:=List.filter_eq_nil_iff.mpr fun x hx z=>by
   unfold lq at z;rw [decide_eq_true (P x hx).2.1] at z;cases z
  have o2:((cg q q.length).map (vq p)).filter (lq (bh p hn))=(cg q q.length).map (vq p):=List.filter_eq_self.mpr fun x hx=>by
   unfold lq;rw [decide_eq_false (S x hx).1];rfl
  have o3:(fX p q q.length).filter (lq (bh p hn))=[]:=List.filter_eq_nil_iff.mpr fun x hx z=>by
   unfold lq at z;rw [decide_eq_true (C x hx).1] at z;cases z
  rw [List.filter_append,List.filter_append,o1,o2,o3,List.nil_append,List.append_nil,List.map_map]
  have:∀x∈cg q q.length,(cf (bh p hn)∘vq p) x=x:=fun x hx=>by
   obtain ⟨a1,a2,a3,a4,_⟩:=o7 Ww (Nat.le_refl _) x hx;rw [bI] at a1 a3;obtain ⟨u,v,u',v'⟩:=x;show (u,v+cnt p u - gI (bh p hn) u,u',v'+cnt p u' - gI (bh p hn) u')=(u,v,u',v');rw [bZ a1.1 a1.2,bZ a3.1 a3.2,Int.add_sub_cancel,Int.add_sub_cancel]
  rw [List.map_congr_left this,List.map_id']
 ·rcases List.mem_append.mp (pm.mem_iff.mp hx) with z|z
  ·exact fun _=>(P x z).2.1
  ·rcases List.mem_append.mp z with z|z
   ·exact fun w=>absurd w (S x z).2
   ·exact fun _=>(C x z).1
theorem sU:Ub (bh (p++q) hn) (bh p hn)=bh q hn:=by
 unfold Ub;rw [bI];unfold bh;refine List.map_congr_left fun i hi=> ?_;have hi:=List.mem_range.mp hi;have e1:=bZ (ws:=p++q) (hn:=hn) (h:=(i:Int)) (by omega) (by omega);have e2:=bZ (ws:=p) (hn:=hn) (h:=(i:Int)) (by omega) (by omega);unfold bh at e1 e2;rw [e1,e2,ni];omega
theorem Bv:fY (bh (p++q) hn) (bh p hn):=by
 refine ⟨by rw [bI,bI],fun i i0 i1=> ?_⟩;rw [bI] at i1;rw [bZ i0 i1,bZ i0 i1,ni];have:=dG p i;have:=dG q i;omega
end
theorem mF {ws:List aY} {h:Int}:∀(n:Nat) {c:Int},0<=c->c<cnt (ws.take n) h -> ∃m x,ws[m]? = some x/\x.1=h/\cnt (ws.take m) h=c
 | 0,c,h0,h1=>by
   rw [List.take_zero] at h1;have:cnt [] h=0:=rfl;omega
 | n+1,c,h0,h1=>by
   cases e:ws[n]? with
   | none=>
     have:ws.take (n+1)=ws.take n:=by rw [List.take_add_one,e];simp
     rw [this] at h1;exact mF n h0 h1
   | some x=>
     have t:ws.take (n+1)=ws.take n++[x]:=by rw [List.take_add_one,e];rfl
     rw [t,b_] at h1
     by_cases q:h=x.1
     ·rw [if_pos q] at h1
      by_cases l:c<cnt (ws.take n) h
      ·exact mF n h0 l
      ·exact ⟨n,x,e,q.symm,by omega⟩
     ·rw [if_neg q] at h1
      exact mF n h0 h1
theorem qz {ws:List aY} {c a:Nat} (ha:a<ws.length) (l:c<a) (e:hnd ws c=hnd ws a):cnt (ws.take c) (hnd ws c)<cnt (ws.take a) (hnd ws a):=by
 obtain ⟨x,ex⟩:=get_some (l:=ws) (i:=c) (by omega);have t:ws.take (c+1)=ws.take c++[x]:=by rw [List.take_add_one,ex];rfl
 have:=gM ws (hnd ws c) (c+1) (a - (c+1));rw [show c+1+(a - (c+1))=a by omega,t,b_,if_pos (bN ex)] at this;rw [←e];omega
theorem KR {ws:List aY} {j e:Nat} (hj:j<ws.length) (b:Bare ws j e) (ne:¬hnd ws e=hnd ws j):bU ws e j∈cg ws ws.length:=by
 unfold cg;refine List.mem_flatMap.mpr ⟨j,List.mem_range.mpr hj, ?_⟩;unfold aR;exact List.mem_map.mpr ⟨e,List.mem_filter.mpr ⟨g_.mpr b,decide_eq_true ne⟩,rfl⟩
theorem yH {ws:List aY} {I:Nat->Prop} {D x:Nat} (st:∀u v,gQ ws u v=true->v - u<D->I v->I u):∀{a:Nat},kY ws x a->x - a<D->I x->I a:=by
 intro a r
 induction r with
 | one h=>exact fun l ix=>st _ _ h l ix
 | @more i k h r ih=>
   intro l ix;have l1:=(cA h).1;have l2:=r.lt.1;exact st i k h (by omega) (ih (by omega) ix)
theorem qC {ws:List aY} {ns:List Nt} {L:List Int} (pm:ns.Perm (cg ws ws.length)) (cl:closed ns L):∀a b,gQ ws a b=true->m5 ws L b=true->m5 ws L a=true:=by
 have gen:∀d a b,b - a<=d->gQ ws a b=true->m5 ws L b=true->m5 ws L a=true:=by
  intro d
  induction d with
  | zero=>
    intro a b l s _;have:=(cA s).1;omega
  | succ d ih=>
    intro a b l s ib;obtain ⟨lab,bl⟩:=cA s
    by_cases e:hnd ws a=hnd ws b
    ·have:=qz bl lab e
     have ib:=of_decide_eq_true ib;refine decide_eq_true ?_;rw [e] at this ⊢;omega
    ·by_cases bb:Bare ws b a
     ·have:=cl _ (pm.mem_iff.mpr (KR bl bb e)) (of_decide_eq_true ib)
      exact decide_eq_true this
     ·rw [uE] at bb
      have ⟨x,sx,rx⟩:∃x,gQ ws x b=true/\kY ws x a:=Classical.byContradiction fun z=>bb ⟨s,z⟩;have l1:=(cA sx).1;have l2:=rx.lt.1;exact yH (I:=fun m=>m5 ws L m=true) (D:=d+1) (fun u v suv lu iv=>ih u v (by omega) suv iv) rx (by omega) (ih x b (by omega) sx ib)
 exact fun a b=>gen (b - a) a b (Nat.le_refl _)
theorem CV {ws:List aY} {L:List Int} (st:∀a b,gQ ws a b=true->m5 ws L b=true->m5 ws L a=true) {x a:Nat} (r:kY ws x a) (ix:m5 ws L x=true):m5 ws L a=true:=
 yH (I:=fun m=>m5 ws L m=true) (D:=x - a+1) (fun u v s _ i=>st u v s i) r (by omega) ix
def nH (ws:List aY) (S:List Int) (a:Nat):Prop:=cnt (ws.take a) (hnd ws a)+1=gI S (hnd ws a)
structure qX (ws:List aY) (hn:Nat) (S now:List Int) (n:Nat):Prop where
 len:now.length=hn
 bd:∀h:Nat,h<hn->gI S (h:Int)<=gI now (h:Int)/\gI now (h:Int)<=cnt ws (h:Int)
 iff:∀m,m<ws.length->(m5 ws now m=true↔m5 ws S m=true \/ ∃a,a<n/\nH ws S a/\(m=a\/kY ws a m))
section
variable {ws:List aY} {hn:Nat} {S now:List Int}
theorem JM (l:S.length=hn) (bd:∀h:Nat,h<hn->gI S (h:Int)<=cnt ws (h:Int)):qX ws hn S S 0:=by
 refine ⟨l,fun h hh=>⟨Int.le_refl _,bd h hh⟩,fun m _=>⟨.inl, ?_⟩⟩;rintro (q|⟨a,z,_⟩)
 ·exact q
 ·omega
theorem qX.skip {n:Nat} (N:qX ws hn S now n) (q:¬nH ws S n):qX ws hn S now (n+1):=by
 refine ⟨N.len,N.bd,fun m hm=>(N.iff m hm).trans ⟨?_, ?_⟩⟩
 ·rintro (z|⟨a,l,z⟩)
  ·exact .inl z
  ·exact .inr ⟨a,by omega,z⟩
 ·rintro (z|⟨a,l,z⟩)
  ·exact .inl z
  ·refine .inr ⟨a, ?_,z⟩
   rcases Nat.lt_or_ge a n with w|w
   ·exact w
   ·have:a=n:=by omega
    subst this;exact absurd z.1 q
theorem qX.take {n:Nat} {row:List Int} (ok:∀x∈ws,0<=x.1/\x.1<(hn:Int)) (N:qX ws hn S now n) (hn':n<ws.length) (R:o_ ws hn row (fun m=>m=n\/kY ws n m) (n+1)) (q:nH ws S n):qX ws hn S (Ec hn now row) (n+1):=by
 have gm:∀h:Int,0<=h->h<hn->gI (Ec hn now row) h=mx (gI now h) (gI row h):=fun h h0 h1=>CG h0 h1
 have tl:∀(h:Int),cnt (ws.take (n+1)) h<=cnt ws h:=fun h=>by
  have:=gM ws h (n+1) ws.length;rwa [List.take_of_length_le (by omega:ws.length<=n+1+ws.length)] at this
 refine ⟨by unfold Ec;simp,fun h hh=> ?_,fun m hm=> ?_⟩
 ·rw [gm _ (by omega) (by omega)]
  have b1:=N.bd h hh;have b2:=R.2.2 h;have b3:=tl (h:Int);unfold mx;split<;>omega
 ·obtain ⟨x,ex⟩:=get_some hm
  have xr:=ok x (List.mem_of_getElem? ex);have i1:=N.iff m hm;have i2:=R.2.1 m x ex;unfold m5 at i1 ⊢;rw [decide_eq_true_iff] at i1 ⊢;rw [bN ex] at i1 ⊢;rw [gm _ xr.1 xr.2,Ed,i1,i2];constructor
  ·rintro ((z|⟨a,l,z⟩)|z)
   ·exact .inl z
   ·exact .inr ⟨a,by omega,z⟩
   ·exact .inr ⟨n,by omega,q,z⟩
  ·rintro (z|⟨a,l,z⟩)
   ·exact .inl (.inl z)
   ·rcases Nat.lt_or_ge a n with w|w
    ·exact .inl (.inr ⟨a,w,z⟩)
    ·have:a=n:=by omega
     subst this;exact .inr z.2
theorem qX.least {ns:List Nt} (ok:∀x∈ws,0<=x.1/\x.1<(hn:Int)) (pm:ns.Perm (cg ws ws.length)) (S0:∀h:Nat,h<hn->0<=gI S (h:Int)/\gI S (h:Int)<=cnt ws (h:Int)) (N:qX ws hn S now ws.length):pq (bh ws hn) ns S now:=by
 have hb:∀m,m<ws.length -> ∃h:Nat,hnd ws m=(h:Int)/\h<hn:=fun m hm=>by
  obtain ⟨x,ex⟩:=get_some hm;have:=ok x (List.mem_of_getElem? ex);obtain ⟨h,e⟩:=Int.eq_ofNat_of_zero_le this.1;exact ⟨h,by rw [bN ex,e],by omega⟩
 have tk:ws.take ws.length=ws:=List.take_length
 have lead:∀j,j<ws.length->m5 ws S j=true -> ∃a,a<ws.length/\nH ws S a/\(j=a\/kY ws a j):=fun j hj ij=>by
  obtain ⟨h,eh,hh⟩:=hb j hj;have ij:=of_decide_eq_true ij;rw [eh] at ij;have c0:=dG (ws.take j) (h:Int);obtain ⟨a,x,ex,e1,e2⟩:=mF (ws:=ws) (h:=(h:Int)) (c:=gI S (h:Int) - 1) ws.length (by omega) (by rw [tk];have:=(S0 h hh).2;omega);have al:=(List.getElem?_eq_some_iff.mp ex).1;have ah:hnd ws a=(h:Int):=by rw [bN ex,e1]
  refine ⟨a,al,by unfold nH;rw [ah,e2];omega, ?_⟩;rcases Nat.lt_trichotomy j a with l|l|l
  ·exact .inr (.one (rP l al (eh.trans ah.symm)))
  ·exact .inl l
  ·have:=qz hj l (ah.trans eh.symm)
   rw [ah,eh,e2] at this;omega
 have step:∀a b,gQ ws a b=true->m5 ws now b=true->m5 ws now a=true:=fun a b s ib=>by
  obtain ⟨l,bl⟩:=cA s;rw [N.iff b bl] at ib;rw [N.iff a (by omega)]
  have:∃c,c<ws.length/\nH ws S c/\(b=c\/kY ws c b):=by
   rcases ib with z|z
   ·exact lead b bl z
   ·exact z
  obtain ⟨c,cl,lc,z⟩:=this;refine .inr ⟨c,cl,lc,.inr ?_⟩;rcases z with z|z
  ·subst z
   exact .one s
  ·exact .more s z
 refine ⟨⟨by rw [bI];exact N.len,fun i i0 i1=> ?_⟩,fun i i0 i1=> ?_,fun x hx=> ?_,fun M ml lM cM=> ?_⟩
 ·rw [bI] at i1
  obtain ⟨h,rfl⟩:=Int.eq_ofNat_of_zero_le i0;have:=N.bd h (by omega);have:=S0 h (by omega);rw [bZ i0 i1];omega
 ·rw [bI] at i1
  obtain ⟨h,rfl⟩:=Int.eq_ofNat_of_zero_le i0;exact (N.bd h (by omega)).1
 ·have hx:=pm.mem_iff.mp hx
  unfold cg at hx;obtain ⟨j,hj,hx⟩:=List.mem_flatMap.mp hx;have hj:=List.mem_range.mp hj;unfold aR at hx;obtain ⟨e,he,rfl⟩:=List.mem_map.mp hx;have bb:=g_.mp (List.mem_filter.mp he).1;intro z;exact of_decide_eq_true (step e j bb.1 (decide_eq_true z))
 ·have stM:=qC pm cM
  intro i i0 i1;rw [bI] at i1 lM;obtain ⟨h,rfl⟩:=Int.eq_ofNat_of_zero_le i0;have hh:h<hn:=by omega
  have lS:=lM (h:Int) i0 i1;have s0:=S0 h hh;have nb:=N.bd h hh;rcases Int.lt_or_le (gI M (h:Int)) (gI now (h:Int)) with l|l
  ·exfalso
   obtain ⟨m,x,ex,e1,e2⟩:=mF (ws:=ws) (h:=(h:Int)) (c:=gI M (h:Int)) ws.length (by omega) (by rw [tk];omega);have ml':=(List.getElem?_eq_some_iff.mp ex).1;have mh:hnd ws m=(h:Int):=by rw [bN ex,e1]
   have im:m5 ws now m=true:=decide_eq_true (by rw [mh,e2];exact l)
   have nM:¬m5 ws M m=true:=fun z=>by
    have:=of_decide_eq_true z;rw [mh,e2] at this;omega
   have inM:∀a,a<ws.length->m5 ws S a=true->m5 ws M a=true:=fun a al ia=>by
    obtain ⟨g,eg,hg⟩:=hb a al;have ia:=of_decide_eq_true ia;have:=lM (g:Int) (by omega) (by omega);rw [eg] at ia;exact decide_eq_true (by rw [eg];omega)
   rcases (N.iff m ml').mp im with z|⟨a,al,la,z⟩
   ·exact nM (inM m ml' z)
   ·have ia:m5 ws M a=true:=inM a al (decide_eq_true (by unfold nH at la;omega))
    rcases z with z|z
    ·subst z
     exact nM ia
    ·exact nM (CV stM z ia)
  ·exact l
end
theorem vN {ws:List aY} {x:aY} {hn:Nat} (h0:0<=x.1) (h1:x.1<hn):(bh ws hn).set x.1.toNat (cnt ws x.1+1)=bh (ws++[x]) hn:=by
 refine List.ext_getElem? fun i=> ?_;rw [List.getElem?_set];unfold bh
 by_cases hi:i<hn
 ·rw [List.getElem?_map,List.getElem?_map,List.getElem?_range hi]
  by_cases e:x.1.toNat=i
  ·have e':(i:Int)=x.1:=by omega
   rw [if_pos e,if_pos (by simp;omega)];show some (cnt ws x.1+1)=some (cnt (ws++[x]) (i:Int));rw [b_,if_pos e',e']
  ·rw [if_neg e]
   show some (cnt ws (i:Int))=some (cnt (ws++[x]) (i:Int));rw [b_,if_neg (by omega)]
 ·rw [List.getElem?_eq_none (by simp;omega),List.getElem?_eq_none (by simp;omega)]
  split
  ·split
   ·rename_i q1 q2
    simp at q2;omega
   ·rfl
  ·rfl
theorem zW {H:Hp} (p:aY->Bool):∀{vs:List V} {ns:List aY},aD H vs (ns.map tD)->aD H ((List.range vs.length).filterMap fun i=>(ns[i]?).bind fun x=>if p x then vs[i]? else none) ((ns.filter p).map tD)
 | [],[],_=>by simp [aD]
 | [],_::_,h=>by simp only [List.map_cons,aD] at h
 | _::_,[],h=>by simp only [List.map_nil,aD] at h
 | v::vs,n::ns,h=>by
   simp only [List.map_cons,aD] at h;have ih:=zW p h.2
   have e:(List.range (v::vs).length).filterMap (fun i=>((n::ns)[i]?).bind fun x=>if p x then (v::vs)[i]? else none)=(if p n then [v] else [])++(List.range vs.length).filterMap fun i=>(ns[i]?).bind fun x=>if p x then vs[i]? else none:=by
    rw [List.length_cons,List.range_succ_eq_map,List.filterMap_cons,List.filterMap_map];cases q:p n
    ·simp [q];rfl
    ·simp [q];rfl
   rw [e,List.filter_cons];cases q:p n
   ·simpa using ih
   ·simp only [if_true,List.cons_append,List.nil_append,List.map_cons,aD]
    exact ⟨h.1,ih⟩
def pJ (K:PySem.W.Frag):Sp:=fun vs H Q _=>∃(a:Addr) (ws:List aY) (hn:Nat),vs=[.ref a,.int hn]/\cC H a ws/\ws.length<=300/\hn<=8 /\
 ∀(r:Addr) (H':Hp),H r=none->H' r=some (.lst ((bh ws hn).map V.int))->Same H H'->Q (.ref r) H'
theorem BR {f:Addr} {fd:FuncData} (F:jU K "_law_counts" "_law_counts" fu f fd) (Bt:qI mg):cY P w K mg base jM 1 f fd ["web","hands"] (pJ K):=by
 refine F.ok Br (fun vs H Q E h=> ?_) (fun cdv A outer s H vs Q E hr h=> ?_)
 ·obtain ⟨a,ws,hn,rfl,_⟩:=h
  rfl
 ·obtain ⟨w,ws,hn,rfl,W,wl,h8,k⟩:=h
  have hu:=tK hr;have gK:=hr.units;refine ⟨_,(aG (bw (Js rfl (xc:= "hand") (N:=["hand","web"]) (own:=["hand"]) (caps:=[0]) (bG.of (by kernel_rfl)) (jP (by rfl) Bt.kO (aj (pv 1) ao)) (fun _ _ _ _=>(aP (i:=0) (show List.Nodup (["hand","web"]:List Str) by decide +kernel) rfl (Or.inr rfl) (Or.inl CN))) (fun _ _ _ _=>eE) (fun _ _ _ _=>(aO (aZ (K:=K) rfl) (by rfl) Bt.iM eV (aj (fO rfl (N:=["one","hand"]) (own:=["one"]) (caps:=[0]) (aQ.of (by kernel_rfl)) (cI (K:=K) rfl (pv 1)) (fun _ _ _ _=>(aP (i:=0) (show List.Nodup (["one","hand"]:List Str) by decide +kernel) rfl (Or.inl rfl))) (fun _ _ _ _=>(mU (cF nF (aJ (aL (K:=K) rfl) (pv 0) au (fun _ _=>rfl)) (pv 1) (bL _)))) (fun _ _ _ _=>(pv 0))) ao)))))), ?_⟩;obtain ⟨v8,hv8,dv8⟩:=id W;have vl8:v8.length=ws.length:=by rw [dv8.length,List.length_map]
  refine ⟨_,rfl,hn,rfl,by omega,by omega,fun D hD=> ?_⟩;rw [Int.toNat_natCast];refine m9 (fun (h:Nat)=>some (V.int (cnt ws (0+(h:Int))))) hD (by omega) (fun h H9 G F hh s9 kG kF=> ?_) (fun H9 s9 e9=> ?_)
  ·refine ⟨_,rfl,w,rfl,⟨_,aW.of (s9 _ _ hv8)⟩,fun D2 hD2=> ?_⟩
   refine jw (K:=K) (fun i=>(ws[i]?).bind fun x=>if decide (x.1=0+(h:Int)) then v8[i]? else none) hD2 (aW.of (s9 _ _ hv8)) (by omega) (fun i v Ia G F hi Ws kG kF=> ?_) (fun Ia Ws e10=> ?_)
   ·obtain ⟨dd,ed,dy⟩:=dv8.get hi
    rw [List.getElem?_map] at ed;cases ex:ws[i]? with
    | none=>rw [ex] at ed;cases ed
    | some x=>
      rw [ex] at ed;cases ed;obtain ⟨t,rfl,ht⟩:=gb dy;refine ⟨_,rfl,_,_,_,_,rfl,rfl,cu.of (Ws _ _ (s9 _ _ ht)),rfl,_,rfl,rfl,_,rfl, ?_⟩
      by_cases c:x.1=0+(h:Int)
      ·rw [decide_eq_true (show V.int x.1=V.int (0+(h:Int)) by rw [c])]
       refine iJ ?_;exact ⟨_,rfl,kF _ Ia (Same.refl _) (by rw [ex];simp [c,hi])⟩
      ·rw [decide_eq_false (show ¬V.int x.1=V.int (0+(h:Int)) from fun q=>c (by injection q))]
       refine fK ?_;exact kG Ia (Same.refl _) (by rw [ex,Option.bind_some,decide_eq_false c];rfl)
   have dD:=zW (H:=Ia) (fun x=>decide (x.1=0+(h:Int))) (aD.keep (s9.trans Ws).tups _ (aX _ jK ws) dv8);have lD:=dD.length;rw [List.length_map] at lD;refine ⟨D2,_,rfl,.inl (aW.of e10), ?_⟩;rw [lD];exact kF _ Ia Ws rfl
  refine k D H9 hD ?_ s9;rw [e9];refine congrArg (fun z=>some (HO.lst z)) ?_
  have e0:(fun h:Nat=>some (V.int (cnt ws (0+(h:Int)))))=fun h:Nat=>some (V.int (cnt ws (h:Int))):=by
   funext h;rw [Int.zero_add]
  unfold bh;rw [e0,List.map_map,←List.filterMap_eq_map];rfl
def nQ (K:PySem.W.Frag):Sp:=fun vs H Q _=>∃(w t1 s:Addr) (ws:List aY) (hn:Nat) (S:List Int),vs=[.ref w,.ref t1,.ref s]/\cC H w ws/\cG H t1 [] ws.length (RowC ws hn)/\H s=some (.lst (S.map V.int))/\S.length=hn/\(∀h:Nat,h<hn->0<=gI S (h:Int)/\gI S (h:Int)<=cnt ws (h:Int))/\(∀x∈ws,0<=x.1/\x.1<(hn:Int))/\ws.length<=300/\hn<=8 /\
 ∀(r:Addr) (now:List Int) (H':Hp),H r=none->H' r=some (.lst (now.map V.int))->qX ws hn S now ws.length->Same H H'->Q (.ref r) H'
theorem yU {f:Addr} {fd:FuncData} (F:jU K "_law_closed" "_law_closed" fB f fd) (Bt:qI mg):cY P w K mg base jM 1 f fd ["web","rows","some"] (nQ K):=by
 refine F.ok gZ (fun vs H Q E h=> ?_) (fun cdv A outer s H vs Q E hr h=> ?_)
 ·obtain ⟨w,t1,s,ws,hn,S,rfl,_⟩:=h
  rfl
 ·obtain ⟨w,t1,s,ws,hn,S,rfl,W,L1,hs,sl,S0,ok,wl,h8,k⟩:=h
  refine ⟨_,(aA (aV (i:=3) gZ.nd rfl (Or.inl rfl) (mV (iG (K:=K) rfl) (by rfl) Bt.mH jF (aj (pv 2) ao)))
   (aA (aV (i:=4) gZ.nd rfl (Or.inl rfl) (bx wK (cW (aj au ao)) (aO (aZ (K:=K) rfl) (by rfl) Bt.iM eV (aj (pv 2) ao))))
   (aA (jt PassesOwn.never rfl (jP (by rfl) Bt.kO (aj (aO (aZ (K:=K) rfl) (by rfl) Bt.iM eV (aj (pv 0) ao)) ao)) (aP (i:=5) gZ.nd rfl (Or.inl rfl))
   (aA (aV (i:=6) gZ.nd rfl (Or.inl rfl) (aJ (aL (K:=K) rfl) (aJ (aK (K:=K) rfl) (pv 0) (pv 5) (fun _ _=>rfl)) au (fun _ _=>rfl)))
   (aA (ju (bx cX (aJ (aK (K:=K) rfl) (pv 4) (pv 6) (fun _ _=>rfl)) au) (j_ (pv 4) (pv 6) set_list))
   (aG (dH (cF nF (aJ (aK (K:=K) rfl) (pv 4) (pv 6) (fun _ _=>rfl)) (aJ (aK (K:=K) rfl) (pv 2) (pv 6) (fun _ _=>rfl)) (bL _)) (aG (j9 (i:=3) rfl gZ.nd rfl (Or.inl rfl) (N:=["a","b"]) (own:=["a","b"]) (caps:=[]) (aQ.of (by kernel_rfl)) (rE (K:=K) rfl (by rfl) Bt.Fd (aj (pv 3) (aj (aJ (aK (K:=K) rfl) (pv 1) (pv 5) (fun _ _=>rfl)) ao))) (fun _ _ _ _=>(iC (K:=K) (n:=2) rfl rfl (bB (aP (i:=0) (show List.Nodup (["a","b"]:List Str) by decide +kernel) rfl (Or.inl rfl)) (bB (aP (i:=1) (show List.Nodup (["a","b"]:List Str) by decide +kernel) rfl (Or.inl rfl)) iB)))) (fun _ _ _ _=>eE) (fun _ _ _ _=>(aO (nj rfl) (by rfl) Bt.Fe xu (aj (pv 0) (aj (pv 1) ao)))))) bK)))))
   (aG (bw (pv 3)))))), ?_⟩
  obtain ⟨vs,hv,dv⟩:=id W;have vl:vs.length=ws.length:=by rw [dv.length,List.length_map]
  obtain ⟨rs1,ht1,rl1,rq1⟩:=L1;refine ⟨_,rfl,s,_,rfl,.inl (aW.of hs),fun nw hnw=> ?_⟩;have Td:=aC (o:=HO.lst (S.map V.int)) hnw;have Sv:(upd H nw (.lst (S.map V.int))) nw=some (.lst (S.map V.int)):=ak;generalize (upd H nw (.lst (S.map V.int)))=H1 at Td Sv ⊢;refine ⟨(by show 1<=sizeLine;decide),fun q hq=> ?_⟩;have sq:=aC (o:=HO.lst [V.int 0]) hq;refine ⟨_,rfl,s,_,rfl,.inl (aW.of (sq _ _ (Td _ _ hs))),q,_,_,rfl,rfl,ak,by omega,by rw [List.length_map];omega,by rw [sizeLine_eq];simp;omega,fun mn hmn=> ?_⟩;rw [List.length_map,Ly,Int.toNat_natCast,sl];have RZ:=aC (o:=HO.lst ((List.replicate hn (0:Int)).map V.int)) hmn
  have Rt:(upd (upd H1 q (.lst [V.int 0])) mn (.lst ((List.replicate hn (0:Int)).map V.int))) mn=some (.lst ((bh (ws.take 0) hn).map V.int)):=by
   rw [ak];congr 3;refine List.ext_getElem? fun i=> ?_;unfold bh
   by_cases hi:i<hn
   ·rw [List.getElem?_replicate,if_pos hi,List.getElem?_map,List.getElem?_range hi]
    rfl
   ·rw [List.getElem?_eq_none (by simp;omega),List.getElem?_eq_none (by simp;omega)]
  have S2:=(Td.trans sq).trans RZ;have U3:=RZ _ _ (sq _ _ Sv);have fmn:H mn=none:=(Td.trans sq).free hmn;have aa5:nw≠mn:=aB (sq _ _ Sv) hmn;generalize (upd (upd H1 q (.lst [V.int 0])) mn (.lst ((List.replicate hn (0:Int)).map V.int)))=H2 at Rt S2 U3 ⊢;clear sq RZ hq hmn Sv Td;have hv2:=S2 _ _ hv;dsimp only [fG];refine j7 (fun σ Hz=>∃(x5 x6:Option V) (r:Addr) (now:List Int),σ=[some (.ref w),some (.ref t1),some (.ref s),some (.ref r),some (.ref mn),x5,x6]/\H r=none/\Hz r=some (.lst (now.map V.int))/\qX ws hn S now ws.length/\Same H Hz) (fun D' hD' _=> ?_) ?_
  ·refine ⟨_,rfl,w,vs,rfl,.inl (aW.of hv2),_,rfl,by omega,by omega, ?_⟩
   rw [Int.toNat_natCast,vl]
   refine GR (lo:=0) (n:=ws.length) (fun j σ Hc=>∃(x5 x6:Option V) (r:Addr) (now:List Int),σ=[some (.ref w),some (.ref t1),some (.ref s),some (.ref r),some (.ref mn),x5,x6]/\H r=none/\r≠mn/\Hc r=some (.lst (now.map V.int))/\qX ws hn S now j/\Hc mn=some (.lst ((bh (ws.take j) hn).map V.int))/\Same H Hc)
    ⟨none,none,nw,S,rfl,hnw,aa5,U3,JM sl fun h hh=>(S0 h hh).2,Rt,S2⟩ ?_ (fun σ Hc ⟨x5,x6,r,now,e,fr,_,er,N,_,sm⟩=>hD' _ _ ⟨x5,x6,r,now,e,fr,er,N,sm⟩)
   rintro j σ Hc hj ⟨x5,x6,r,now,rfl,fr,nrm,er,N,em,sm⟩;obtain ⟨x,ex⟩:=get_some hj;obtain ⟨vs',t,hv',et,ht⟩:=qY (W.same sm) ex;have xr:=ok x (List.mem_of_getElem? ex);have tk:ws.take (j+1)=ws.take j++[x]:=by rw [List.take_add_one,ex];rfl
   rw [Int.zero_add];dsimp only [fG];refine ⟨_,rfl,_,rfl,_,_,_,_,rfl,rfl,aW.of hv',cP et,_,_,_,_,rfl,rfl,cu.of ht,rfl, ?_⟩;have cl:=bI (ws.take j) hn;have gc:gI (bh (ws.take j) hn) x.1=cnt (ws.take j) x.1:=bZ xr.1 xr.2;refine ⟨_,rfl,_,rfl,_,_,_,_,rfl,rfl,aW.of em,dX xr.1 (by rw [cl];exact xr.2),_,_,rfl,rfl,_,rfl,_,rfl,mn,_,_,_,rfl,rfl,em,oN xr.1 (by rw [List.length_map,cl];exact xr.2), ?_⟩;have km:Kp mn Hc (upd Hc mn (.lst (((bh (ws.take j) hn).map V.int).set x.1.toNat (V.int (gI (bh (ws.take j) hn) x.1+1))))):=Kp.set
   have Li:(upd Hc mn (.lst (((bh (ws.take j) hn).map V.int).set x.1.toNat (V.int (gI (bh (ws.take j) hn) x.1+1))))) mn=some (.lst ((bh (ws.take (j+1)) hn).map V.int)):=by
    rw [ak,gc,tk,←vN xr.1 xr.2,List.map_set]
   have sm3:Same H (upd Hc mn (.lst (((bh (ws.take j) hn).map V.int).set x.1.toNat (V.int (gI (bh (ws.take j) hn) x.1+1))))):=fun y u e=>km _ _ (sm _ _ e) (aB e fmn);have X8:=km _ _ er nrm;generalize (upd Hc mn (.lst (((bh (ws.take j) hn).map V.int).set x.1.toNat (V.int (gI (bh (ws.take j) hn) x.1+1)))))=H3 at Li sm3 X8 ⊢;have cl1:=bI (ws.take (j+1)) hn;have gc1:gI (bh (ws.take (j+1)) hn) x.1=cnt (ws.take j) x.1+1:=by rw [bZ xr.1 xr.2,tk,b_,if_pos rfl]
   refine ⟨_,rfl,_,rfl,_,_,_,_,rfl,rfl,aW.of Li,dX xr.1 (by rw [cl1];exact xr.2),_,rfl,_,rfl,_,_,_,_,rfl,rfl,aW.of (sm3 _ _ hs),dX xr.1 (by rw [sl];exact xr.2),rfl,_,rfl, ?_⟩;rw [gc1];refine kj (fun z=> ?_) (fun z=> ?_)
   ·have la:nH ws S j:=by
     unfold nH;rw [bN ex];exact V.int.inj (of_decide_eq_true z)
    obtain ⟨ra,era⟩:=get_some (l:=rs1) (i:=j) (by omega);obtain ⟨_,row,hrow,RH⟩:=rq1 j ra era;have rl:=RH.1;have nl:=N.len;refine ⟨_,rfl,_,rfl,_,rfl,_,_,_,_,rfl,rfl,aW.of (sm3 _ _ ht1),cP (by rw [List.getElem?_map,era];rfl),r,ra,_,_,rfl,aW.of X8,aW.of (sm3 _ _ hrow),fun D3 Sd=> ?_⟩;refine m7 (K:=K) (n:=hn) (by rw [List.length_map];exact nl) (by rw [List.length_map];exact rl) (fun i=>some (.int (mx (gI now (i:Int)) (gI row (i:Int))))) Sd (aW.of X8) (aW.of (sm3 _ _ hrow)) (by omega) (fun i u v H4 G F hi hj' s4 kG kF=> ?_) (fun H4 s4 e4=> ?_)
    ·rw [List.getElem?_map] at hi hj'
     cases ei:now[i]? with
     | none=>rw [ei] at hi;cases hi
     | some u'=>
       cases ej:row[i]? with
       | none=>rw [ej] at hj';cases hj'
       | some v'=>
         rw [ei] at hi;rw [ej] at hj';cases hi;cases hj';exact ⟨_,rfl,_,rfl,_,_,rfl,kF _ H4 (Same.refl _) (by rw [eU ei,eU ej];rfl)⟩
    have e4':H4 D3=some (.lst ((Ec hn now row).map V.int)):=by
     rw [e4];unfold Ec;rw [List.map_map,←List.filterMap_eq_map];rfl
    exact ⟨_,_,D3,_,rfl,sm3.free Sd,(aB Li Sd).symm,e4',N.take ok hj RH la,s4 _ _ Li,sm3.trans s4⟩
   ·exact ⟨_,_,r,now,rfl,fr,nrm,X8,N.skip fun la=>z (decide_eq_true (by unfold nH at la;rw [bN ex] at la;rw [la])),Li,sm3⟩
  rintro σ Hz ⟨x5,x6,r,now,rfl,fr,er,N,sm⟩;exact ⟨_,rfl,k r now Hz fr er N sm⟩
theorem sI {ws:List aY} {o:List Nat} {i:Nat} {x:aY} (ex:ws[i]? = some x):gn ws (o++[i])=gn ws o++[x]:=by
 rw [DG];show _++[(ws[i]?).getD (0,"",0)]=_;rw [ex];rfl
def nP (K:PySem.W.Frag):Sp:=fun vs H Q _=>∃(w c:Addr) (ws:List aY) (hn:Nat) (L:List Int),vs=[.ref w,.ref c]/\cC H w ws/\H c=some (.lst (L.map V.int))/\L.length=hn/\(∀x∈ws,0<=x.1/\x.1<(hn:Int))/\ws.length<=300/\hn<=8 /\
 ∀(p dn lf:Addr) (H':Hp),H' p=some (.tup [.ref dn,.ref lf])->cC H' dn (gn ws (Gb ws L))->cC H' lf (gn ws (R5 ws L))->Same H H'->Q (.ref p) H'
theorem yQ {f:Addr} {fd:FuncData} (F:jU K "_law_parted" "_law_parted" fj f fd) (Bt:qI mg):cY P w K mg base jM 1 f fd ["web","cut"] (nP K):=by
 refine F.ok jr (fun vs H Q E h=> ?_) (fun cdv A outer s H vs Q E hr h=> ?_)
 ·obtain ⟨w,c,ws,hn,L,rfl,_⟩:=h
  rfl
 ·obtain ⟨w,c,ws,hn,L,rfl,W,hc,ll,ok,wl,h8,k⟩:=h
  refine ⟨_,(aA (aV (i:=2) jr.nd rfl (Or.inl rfl) (bx wK (cW (aj au ao)) (aO (aZ (K:=K) rfl) (by rfl) Bt.iM eV (aj (pv 1) ao))))
   (aA (aV (i:=3) jr.nd rfl (Or.inl rfl) (cW ao))
   (aA (aV (i:=4) jr.nd rfl (Or.inl rfl) (cW ao))
   (aA (jt PassesOwn.never rfl (cI (K:=K) rfl (pv 0)) (aP (i:=5) jr.nd rfl (Or.inl rfl))
   (aA (ju (bx cX (aJ (aK (K:=K) rfl) (pv 2) (aJ (aL (K:=K) rfl) (pv 5) au (fun _ _=>rfl)) (fun _ _=>rfl)) au) (j_ (pv 2) (aJ (aL (K:=K) rfl) (pv 5) au (fun _ _=>rfl)) set_list))
   (aG (dH (cF yO (aJ (aK (K:=K) rfl) (pv 2) (aJ (aL (K:=K) rfl) (pv 5) au (fun _ _=>rfl)) (fun _ _=>rfl)) (aJ (aK (K:=K) rfl) (pv 1) (aJ (aL (K:=K) rfl) (pv 5) au (fun _ _=>rfl)) (fun _ _=>rfl)) (bL _)) (aG (dz (dU (K:=K) rfl (pv 3) (aj (pv 5) ao)))) (aG (dz (dU (K:=K) rfl (pv 4) (aj (pv 5) ao))))))))
   (aG (bw (fU (aj (pv 3) (aj (pv 4) ao))))))))), ?_⟩
  obtain ⟨vs,hv,dv⟩:=id W;have vl:vs.length=ws.length:=by rw [dv.length,List.length_map]
  refine ⟨(by show 1<=sizeLine;decide),fun q hq=> ?_⟩;have sq:=aC (o:=HO.lst [V.int 0]) hq;refine ⟨_,rfl,c,_,rfl,.inl (aW.of (sq _ _ hc)),q,_,_,rfl,rfl,ak,by omega,by rw [List.length_map];omega,by rw [sizeLine_eq];simp;omega,fun mn hmn=> ?_⟩;rw [List.length_map,Ly,Int.toNat_natCast,ll];have RZ:=aC (o:=HO.lst ((List.replicate hn (0:Int)).map V.int)) hmn
  have Rt:(upd (upd H q (.lst [V.int 0])) mn (.lst ((List.replicate hn (0:Int)).map V.int))) mn=some (.lst ((bh (ws.take 0) hn).map V.int)):=by
   rw [ak];congr 3;refine List.ext_getElem? fun i=> ?_;unfold bh
   by_cases hi:i<hn
   ·rw [List.getElem?_replicate,if_pos hi,List.getElem?_map,List.getElem?_range hi]
    rfl
   ·rw [List.getElem?_eq_none (by simp;omega),List.getElem?_eq_none (by simp;omega)]
  have S2:=sq.trans RZ;have fmn:H mn=none:=sq.free hmn;generalize (upd (upd H q (.lst [V.int 0])) mn (.lst ((List.replicate hn (0:Int)).map V.int)))=H2 at Rt S2 ⊢;clear sq RZ hq hmn;refine ⟨(by show 0<=sizeLine;decide),fun dn hdn=> ?_⟩;have Ze:=aC (o:=HO.lst []) hdn;have X_:(upd H2 dn (.lst [])) dn=some (.lst []):=ak;have N6:=Ze _ _ Rt;have S3:=S2.trans Ze;have fdn:H dn=none:=S2.free hdn;have ndm:dn≠mn:=(aB Rt hdn).symm;generalize (upd H2 dn (.lst []))=H3 at X_ N6 S3 ⊢;refine ⟨(by show 0<=sizeLine;decide),fun lf Ux=> ?_⟩;have Wk:=aC (o:=HO.lst []) Ux;have elf:(upd H3 lf (.lst [])) lf=some (.lst []):=ak;have U4:=Wk _ _ N6;have U5:=Wk _ _ X_;have S4:=S3.trans Wk;have flf:H lf=none:=S3.free Ux;have nlm:lf≠mn:=(aB N6 Ux).symm;have nld:lf≠dn:=(aB X_ Ux).symm;generalize (upd H3 lf (.lst []))=H4 at elf U4 U5 S4 ⊢;clear Ze Wk Ux hdn X_ N6 S3 S2 Rt;dsimp only [fG];refine j7 (fun σ Hz=>∃(x5:Option V),σ=[some (.ref w),some (.ref c),some (.ref mn),some (.ref dn),some (.ref lf),x5]/\cC Hz dn (gn ws (Gb ws L))/\cC Hz lf (gn ws (R5 ws L))/\Same H Hz) (fun D' hD' _=> ?_) ?_
  ·refine ⟨_,rfl,w,rfl,⟨_,aW.of (S4 _ _ hv)⟩, ?_⟩
   refine mz (K:=K) (a:=w) (xs:=vs) (fun i σ Hc=>∃(x5:Option V),σ=[some (.ref w),some (.ref c),some (.ref mn),some (.ref dn),some (.ref lf),x5]/\cC Hc dn (gn ws ((List.range i).filter (m5 ws L)))/\cC Hc lf (gn ws ((List.range i).filter fun m=> !m5 ws L m))/\Hc mn=some (.lst ((bh (ws.take i) hn).map V.int))/\Same H Hc)
    ⟨none,rfl,⟨[],U5,by simp [aD,gn]⟩,⟨[],elf,by simp [aD,gn]⟩,U4,S4⟩ (fun i σ Hc _ ⟨_,_,_,_,_,sm⟩=>aW.of (sm _ _ hv)) ?_ ?_
   ·rintro i v σ Hc hi ⟨x5,rfl,WD,WL,em,sm⟩
    obtain ⟨dd,ed,dy⟩:=dv.get hi;rw [List.getElem?_map] at ed;cases ex:ws[i]? with
    | none=>rw [ex] at ed;cases ed
    | some x=>
      rw [ex] at ed;cases ed;obtain ⟨t,rfl,ht⟩:=gb dy;have il:=(List.getElem?_eq_some_iff.mp ex).1;have xr:=ok x (List.mem_of_getElem? ex);have tk:ws.take (i+1)=ws.take i++[x]:=by rw [List.take_add_one,ex];rfl
      have cl:=bI (ws.take i) hn;have gc:gI (bh (ws.take i) hn) x.1=cnt (ws.take i) x.1:=bZ xr.1 xr.2;have htc:=sm _ _ ht;dsimp only [fG];refine ⟨_,rfl,_,rfl,_,_,_,_,rfl,rfl,cu.of htc,rfl,_,_,_,_,rfl,rfl,aW.of em,dX xr.1 (by rw [cl];exact xr.2),_,_,rfl,rfl,_,rfl,_,rfl,_,_,_,_,rfl,rfl,cu.of htc,rfl,mn,_,_,_,rfl,rfl,em,oN xr.1 (by rw [List.length_map,cl];exact xr.2), ?_⟩;have km:Kp mn Hc (upd Hc mn (.lst (((bh (ws.take i) hn).map V.int).set x.1.toNat (V.int (gI (bh (ws.take i) hn) x.1+1))))):=Kp.set
      have Li:(upd Hc mn (.lst (((bh (ws.take i) hn).map V.int).set x.1.toNat (V.int (gI (bh (ws.take i) hn) x.1+1))))) mn=some (.lst ((bh (ws.take (i+1)) hn).map V.int)):=by
       rw [ak,gc,tk,←vN xr.1 xr.2,List.map_set]
      have sm3:Same H (upd Hc mn (.lst (((bh (ws.take i) hn).map V.int).set x.1.toNat (V.int (gI (bh (ws.take i) hn) x.1+1))))):=fun y u e=>km _ _ (sm _ _ e) (aB e fmn);have WD3:=WD.kp em km ndm;have WL3:=WL.kp em km nlm;generalize (upd Hc mn (.lst (((bh (ws.take i) hn).map V.int).set x.1.toNat (V.int (gI (bh (ws.take i) hn) x.1+1)))))=H5 at Li sm3 WD3 WL3 ⊢;have cl1:=bI (ws.take (i+1)) hn;have gc1:gI (bh (ws.take (i+1)) hn) x.1=cnt (ws.take i) x.1+1:=by rw [bZ xr.1 xr.2,tk,b_,if_pos rfl]
      have Xo:=sm3 _ _ ht;refine ⟨_,rfl,_,rfl,_,_,_,_,rfl,rfl,cu.of Xo,rfl,_,_,_,_,rfl,rfl,aW.of Li,dX xr.1 (by rw [cl1];exact xr.2),_,rfl,_,rfl,_,_,_,_,rfl,rfl,cu.of Xo,rfl,_,_,_,_,rfl,rfl,aW.of (sm3 _ _ hc),dX xr.1 (by rw [ll];exact xr.2),_,_,rfl,rfl,_,rfl, ?_⟩;rw [gc1]
      have rlen:∀p:Nat->Bool,(gn ws ((List.range i).filter p)).length<=300:=fun p=>by
       rw [wC];have:=List.length_filter_le p (List.range i);rw [List.length_range] at this;omega
      have fs:∀p:Nat->Bool,(List.range (i+1)).filter p=(List.range i).filter p++(if p i then [i] else []):=fun p=>by
       rw [List.range_succ,List.filter_append];congr 1;rw [List.filter_cons];cases p i<;>rfl
      refine kj (fun z=> ?_) (fun z=> ?_)
      ·have z:=of_decide_eq_true z
       have iI:m5 ws L i=true:=decide_eq_true (by rw [bN ex];omega);obtain ⟨ud,NQ,U7⟩:=id WD3;have udl:ud.length<=300:=by rw [U7.length,List.length_map];exact rlen _
       refine ⟨_,rfl,.inl ⟨rfl,_,aW.of NQ⟩,_,rfl,dn,_,_,rfl,rfl,NQ,by rw [sizeLine_eq];omega, ?_⟩;have ka:Kp dn H5 (upd H5 dn (.lst (ud++[V.ref t]))):=Kp.set;have ta:=ka.tups NQ;refine ⟨_,rfl,⟨ud++[V.ref t],ak, ?_⟩, ?_,ka _ _ Li ndm.symm,fun y u e=>ka _ _ (sm3 _ _ e) (aB e fdn)⟩
       ·rw [fs,iI,if_pos rfl,sI ex,List.map_append]
        exact aD.append (aD.keep ta _ (aX _ jK _) U7) (by simp only [List.map_cons,List.map_nil,aD,and_true];exact w5 (ta _ _ Xo))
       ·rw [fs,iI]
        simp only [Bool.not_true,Bool.false_eq_true,if_false,List.append_nil];exact WL3.kp NQ ka nld
      ·have z:¬cnt (ws.take i) x.1+1<=gI L x.1:=fun q=>z (decide_eq_true q)
       have iI:m5 ws L i=false:=decide_eq_false (by rw [bN ex];omega);obtain ⟨ud,NQ,U7⟩:=id WL3;have udl:ud.length<=300:=by rw [U7.length,List.length_map];exact rlen _
       refine ⟨_,rfl,.inl ⟨rfl,_,aW.of NQ⟩,_,rfl,lf,_,_,rfl,rfl,NQ,by rw [sizeLine_eq];omega, ?_⟩;have ka:Kp lf H5 (upd H5 lf (.lst (ud++[V.ref t]))):=Kp.set;have ta:=ka.tups NQ;refine ⟨_,rfl, ?_,⟨ud++[V.ref t],ak, ?_⟩,ka _ _ Li nlm.symm,fun y u e=>ka _ _ (sm3 _ _ e) (aB e flf)⟩
       ·rw [fs,iI]
        simp only [Bool.false_eq_true,if_false,List.append_nil];exact WD3.kp NQ ka nld.symm
       ·rw [fs,iI]
        simp only [Bool.not_false,if_true];rw [sI ex,List.map_append];exact aD.append (aD.keep ta _ (aX _ jK _) U7) (by simp only [List.map_cons,List.map_nil,aD,and_true];exact w5 (ta _ _ Xo))
   ·rintro σ Hc ⟨x5,rfl,WD,WL,em,sm⟩
    rw [vl] at WD WL;exact hD' _ _ ⟨x5,rfl,WD,WL,sm⟩
  rintro σ Hz ⟨x5,rfl,WD,WL,sm⟩;refine ⟨_,rfl,_,rfl,(by show 2<=sizeLine;decide),fun p hp=> ?_⟩;have sp:=aC (o:=HO.tup [V.ref dn,V.ref lf]) hp;exact k p dn lf _ ak (WD.same sp) (WL.same sp) (sm.trans sp)
theorem Ey {ws:List aY} {L:List Int} {h:Int} (L0:0<=gI L h):∀n,n<=ws.length->cnt (gn ws ((List.range n).filter (m5 ws L))) h=min (cnt (ws.take n) h) (gI L h)
 | 0,_=>by
   show cnt [] h=min (cnt (ws.take 0) h) _;rw [List.take_zero];have:cnt [] h=0:=rfl;omega
 | n+1,hn=>by
   have ih:=Ey (ws:=ws) (L:=L) (h:=h) L0 n (by omega);obtain ⟨x,ex⟩:=get_some (l:=ws) (i:=n) (by omega);have tk:ws.take (n+1)=ws.take n++[x]:=by rw [List.take_add_one,ex];rfl
   rw [List.range_succ,List.filter_append,tk,b_]
   have f1:List.filter (m5 ws L) [n]=if m5 ws L n then [n] else []:=by
    rw [List.filter_cons];cases m5 ws L n<;>rfl
   rw [f1];have c0:=dG (ws.take n) h;cases q:m5 ws L n
   ·have q:=of_decide_eq_false q
    rw [bN ex] at q;simp only [Bool.false_eq_true,if_false,List.append_nil];rw [ih]
    by_cases e:h=x.1
    ·rw [if_pos e]
     rw [←e] at q;omega
    ·rw [if_neg e]
   ·have q:=of_decide_eq_true q
    rw [bN ex] at q;simp only [if_true];rw [sI ex,b_,ih]
    by_cases e:h=x.1
    ·rw [if_pos e,if_pos e]
     rw [←e] at q;omega
    ·rw [if_neg e,if_neg e]
theorem Ks {ws:List aY} {L:List Int} {hn:Nat} (ll:L.length=hn) (bd:∀h:Nat,h<hn->0<=gI L (h:Int)/\gI L (h:Int)<=cnt ws (h:Int)):bh (gn ws (Gb ws L)) hn=L:=by
 refine List.ext_getElem? fun i=> ?_;unfold bh
 by_cases hi:i<hn
 ·obtain ⟨v,ev⟩:=get_some (l:=L) (i:=i) (by omega)
  rw [List.getElem?_map,List.getElem?_range hi,ev];have b:=bd i hi;rw [eU ev] at b;show some (cnt (gn ws (Gb ws L)) (i:Int))=some v;have:=Ey (ws:=ws) (L:=L) (h:=(i:Int)) (by rw [eU ev];exact b.1) ws.length (Nat.le_refl _);rw [List.take_length,eU ev] at this;unfold Gb;rw [this];congr 1;omega
 ·rw [List.getElem?_eq_none (by simp;omega),List.getElem?_eq_none (by omega)]
theorem cC.cutAt {H:Hp} {sp:Addr} {vs:List V} {ws:List aY} {j:Nat} (dv:aD H vs (ws.map tD)) (hsp:H sp=none):cC (upd H sp (HO.lst (vs.take j))) sp (ws.take j)/\cC (upd H sp (HO.lst (vs.drop j))) sp (ws.drop j):=by
 constructor
 ·refine ⟨_,ak, ?_⟩
  rw [List.map_take];exact (aD.keep (aC hsp).tups _ (aX _ jK _) dv).take j
 ·refine ⟨_,ak, ?_⟩
  rw [List.map_drop];exact (aD.keep (aC hsp).tups _ (aX _ jK _) dv).drop j
theorem zZ {p q:List aY} {hn:Nat} {ns ns1 ns2:List Nt} (Qz:∀y∈p++q,jy (hn:Int) y) (pm:ns.Perm (cg (p++q) (p++q).length)) (ss:nu ns) (p1:ns1.Perm (cg p p.length)) (s1:nu ns1) (p2:ns2.Perm (cg q q.length)) (s2:nu ns2):ns.filter (isIn (bh p hn))=ns1/\(ns.filter (lq (bh p hn))).map (cf (bh p hn))=ns2:=by
 obtain ⟨a,b,_⟩:=qm Qz pm;exact ⟨mW (a.trans p1.symm) (lV _ ss) s1,mW (b.trans p2.symm) (MJ (lV _ ss)) s2⟩
theorem oW {H:Hp} {u t1 t2:Addr} {d1 d2:PyData} (h:H u=some (.tup [.ref t1,.ref t2])) (h1:Dat H (.ref t1) d1) (h2:Dat H (.ref t2) d2):Dat H (.ref u) (.tuple [d1,d2]):=by
 have:aD H [V.ref t1,V.ref t2] [d1,d2]:=by
  simp only [aD,and_true];exact ⟨h1,h2⟩
 simp only [Dat];exact ⟨u,_,rfl,h,this⟩
theorem DR {a b:List Int} {ns ns':List Nt} (h1:a.length<=100000) (h2:ns.length<=100000) (h3:b.length<=100000) (h4:ns'.length<=100000):Al 5 (.tuple [rD a ns,rD b ns']):=by
 refine ⟨by show 2<=100000;decide,fun d hd=> ?_⟩;simp only [List.mem_cons,List.not_mem_nil,or_false] at hd;rcases hd with rfl|rfl
 ·exact Jm h1 h2
 ·exact Jm h3 h4
def Dw (K:PySem.W.Frag):Sp:=fun vs H Q _=>∃(a:Addr) (ns:List Int),vs=[.ref a]/\aW K H a (ns.map V.int)/\ns.length<=63 /\ ∀H',Q (.bl true) H'
theorem QB {f:Addr} {fd:FuncData} (F:jU K "law" "law" oH f fd) (RT:FnAt P w K mg base 1 "_law_bag" ["script"] (I_ K)) (dF:FnAt P w K mg base 2 "_law_draw" ["bag","many"] (pK K)) (K6:FnAt P w K mg base 3 "_law_hands" ["bag"] (wz K)) (Dn:FnAt P w K mg base 4 "_law_touches" ["bag","hands"] (pH K)) (K5:FnAt P w K mg base 1 "_law_table" ["touches","hands"] (rW K)) (HF:FnAt P w K mg base 1 "_law_counts" ["web","hands"] (pJ K)) (HJ:FnAt P w K mg base 1 "_law_closed" ["web","rows","some"] (nQ K)) (HD:FnAt P w K mg base 1 "_law_parted" ["web","cut"] (nP K)) (iR:FnAt P w K mg base 5 "record_of" ["hands","web"] (v9 K)) (Ao:FnAt P w K mg base 5 "least_cut" ["record","some"] (wg K)) (pB:FnAt P w K mg base 6 "cut_record" ["record","cut"] (wA K)) (K3:FnAt P w K mg base 5 "across" ["one","other"] (rY K)) (jW:FnAt P w K mg base 6 "_law_alike" ["found","due"] (ig 5 K)) (Bt:qI mg):cY P w K mg base jM 7 f fd ["script"] (Dw K):=by
 refine F.ok gY (fun vs H Q E h=> ?_) (fun cdv A outer s H vs Q E hr h=> ?_)
 ·obtain ⟨a,ns,rfl,_⟩:=h
  rfl
 ·obtain ⟨sa,sns,rfl,hS,hlen,k⟩:=h
  have gK:=hr.units
  refine ⟨_,(aA (aV (i:=1) gY.nd rfl (Or.inr rfl) (aU RT (hr.mono (by decide)) (by rfl) (aj (pv 0) ao)))
   (aA (aV (i:=2) gY.nd rfl (Or.inl rfl) (aU K6 (hr.mono (by decide)) (by rfl) (aj (pv 1) ao)))
   (aA (aV (i:=3) gY.nd rfl (Or.inl rfl) (aU Dn (hr.mono (by decide)) (by rfl) (aj (pv 1) (aj (pv 2) ao))))
   (aA (aV (i:=4) gY.nd rfl (Or.inl rfl) (aU dF (hr.mono (by decide)) (by rfl) (aj (pv 1) (aj (bx cX (aO (aZ (K:=K) rfl) (by rfl) Bt.iM eV (aj (pv 3) ao)) au) ao))))
   (aA (j9 (i:=5) rfl gY.nd rfl (Or.inl rfl) (N:=["count","bag"]) (own:=["count"]) (caps:=[1]) (aQ.of (by kernel_rfl)) (cI (K:=K) rfl (aU HF (hr.mono (by decide)) (by rfl) (aj (pv 3) (aj (pv 2) ao)))) (fun _ _ _ _=>(aP (i:=0) (show List.Nodup (["count","bag"]:List Str) by decide +kernel) rfl (Or.inl rfl))) (fun _ _ _ _=>eE) (fun _ _ _ _=>(aU dF (hr.mono (by decide)) (by rfl) (aj (pv 1) (aj (bx cX (pv 0) au) ao)))))
   (aA (aV (i:=6) gY.nd rfl (Or.inl rfl) (aU iR (hr.mono (by decide)) (by rfl) (aj (pv 2) (aj (pv 3) ao))))
   (aA (aV (i:=7) gY.nd rfl (Or.inl rfl) (aU Ao (hr.mono (by decide)) (by rfl) (aj (pv 6) (aj (pv 5) ao))))
   (aA (dH (eO (cV (aU jW (hr.mono (by decide)) (by rfl) (aj (pv 7) (aj (aU HJ (hr.mono (by decide)) (by rfl) (aj (pv 3) (aj (aJ (aL (K:=K) rfl) (aU K5 (hr.mono (by decide)) (by rfl) (aj (pv 3) (aj (pv 2) ao))) au (fun _ _=>rfl)) (aj (pv 5) ao)))) ao))))) (aG (bw oK)) bK)
   (aA (ju (aU HD (hr.mono (by decide)) (by rfl) (aj (pv 3) (aj (pv 7) ao))) (iC (K:=K) (n:=2) rfl rfl (bB (aP (i:=8) gY.nd rfl (Or.inl rfl)) (bB (aP (i:=9) gY.nd rfl (Or.inl rfl)) iB))))
   (aA (dH (eO (cV (aU jW (hr.mono (by decide)) (by rfl) (aj (aU pB (hr.mono (by decide)) (by rfl) (aj (pv 6) (aj (pv 7) ao))) (aj (fU (aj (aU iR (hr.mono (by decide)) (by rfl) (aj (pv 2) (aj (pv 8) ao))) (aj (aU iR (hr.mono (by decide)) (by rfl) (aj (pv 2) (aj (pv 9) ao))) ao))) ao))))) (aG (bw oK)) bK)
   (aA (aV (i:=10) gY.nd rfl (Or.inr rfl) (aU iR (hr.mono (by decide)) (by rfl) (aj (pv 2) (aj (fM (oF (K:=K) rfl) (pv 3) iz (iy (pv 4))) ao))))
   (aA (aV (i:=11) gY.nd rfl (Or.inl rfl) (aU iR (hr.mono (by decide)) (by rfl) (aj (pv 2) (aj (fM (oF (K:=K) rfl) (pv 3) (iy (pv 4)) iz) ao))))
   (aA (dH (eO (cV (aU jW (hr.mono (by decide)) (by rfl) (aj (aU pB (hr.mono (by decide)) (by rfl) (aj (pv 6) (aj (aJ (aL (K:=K) rfl) (pv 10) au (fun _ _=>rfl)) ao))) (aj (fU (aj (pv 10) (aj (pv 11) ao))) ao))))) (aG (bw oK)) bK)
   (aA (j9 (i:=12) rfl gY.nd rfl (Or.inl rfl) (N:=["h","k","o","m","one"]) (own:=["h","k","o","m"]) (caps:=[10]) (aQ.of (by kernel_rfl)) (cI (K:=K) rfl (aJ (aL (K:=K) rfl) (pv 11) au (fun _ _=>rfl))) (fun _ _ _ _=>(iC (K:=K) (n:=4) rfl rfl (bB (aP (i:=0) (show List.Nodup (["h","k","o","m","one"]:List Str) by decide +kernel) rfl (Or.inl rfl)) (bB (aP (i:=1) (show List.Nodup (["h","k","o","m","one"]:List Str) by decide +kernel) rfl (Or.inl rfl)) (bB (aP (i:=2) (show List.Nodup (["h","k","o","m","one"]:List Str) by decide +kernel) rfl (Or.inl rfl)) (bB (aP (i:=3) (show List.Nodup (["h","k","o","m","one"]:List Str) by decide +kernel) rfl (Or.inl rfl)) iB)))))) (fun _ _ _ _=>eE) (fun _ _ _ _=>(fU (aj (pv 0) (aj (bx cX (pv 1) (aJ (aK (K:=K) rfl) (aJ (aL (K:=K) rfl) (pv 4) au (fun _ _=>rfl)) (pv 0) (fun _ _=>rfl))) (aj (pv 2) (aj (bx cX (pv 3) (aJ (aK (K:=K) rfl) (aJ (aL (K:=K) rfl) (pv 4) au (fun _ _=>rfl)) (pv 2) (fun _ _=>rfl))) ao)))))))
   (aG (bw (aU jW (hr.mono (by decide)) (by rfl) (aj (aJ (aL (K:=K) rfl) (pv 6) au (fun _ _=>rfl)) (aj (aO (mG (K:=K) rfl) (by rfl) Bt.uF qb (aj (bx BJ (bx BJ (aJ (aL (K:=K) rfl) (pv 10) au (fun _ _=>rfl)) (pv 12)) (aU K3 (hr.mono (by decide)) (by rfl) (aj (fM (oF (K:=K) rfl) (pv 3) iz (iy (pv 4))) (aj (fM (oF (K:=K) rfl) (pv 3) (iy (pv 4)) iz) ao)))) ao)) ao))))))))))))))))))), ?_⟩
  refine ⟨_,rfl,sa,sns,rfl,hS,hlen,fun r b H1 hr1 hb1 B1 Wj=> ?_⟩;refine ⟨_,rfl,r,b,0,rfl,B1,by decide,fun hn H3 hn0 hn1 B3 k3=> ?_⟩;refine ⟨_,rfl,_,rfl,r,b,_,hn,rfl,B3,by decide,hn0,hn1,fun w ws H4 hw0 W Il wl B4 k4=> ?_⟩;obtain ⟨hn,rfl⟩:=Int.eq_ofNat_of_zero_le (show 0<=hn by omega);have tok:=Iw Il hn1;have ok:∀x∈ws,0<=x.1/\x.1<(hn:Int):=fun x hx=>(Il x hx).1;have h8:hn<=8:=by omega
  obtain ⟨o3,Ri⟩:=B3.at;have nwr:w≠r:=(aB Ri hw0).symm;obtain ⟨v4,hv4,dv4⟩:=id W;have vl4:v4.length=ws.length:=by rw [dv4.length,List.length_map]
  refine ⟨_,rfl,_,rfl,w,v4,rfl,.inl (aW.of hv4),_,_,rfl,rfl,r,b,_,_,rfl,B4,by omega,by omega,by omega,fun z H5 z0 z1 B5 k5=> ?_⟩;obtain ⟨at',rfl⟩:=Int.eq_ofNat_of_zero_le z0;have atl:at'<=ws.length:=by omega
  obtain ⟨ys4,uZ⟩:=B4.lst;have W5:=W.kp uZ k5 nwr;dsimp only [fG];refine ⟨_,rfl,_,rfl,w,ws,hn,rfl,W5,wl,h8,fun c0 H6 hc0 ec0 s6=> ?_⟩;have cl:=bI ws hn;have B6:=B5.keep s6;obtain ⟨ys5,Uu⟩:=B5.lst;have ncr:c0≠r:=(aB Uu hc0).symm;refine ⟨c0,rfl,⟨_,aW.of ec0⟩,fun D hD=> ?_⟩;refine CQ (K:=K) (f:=0) (fun i y=>0<=y/\y<=cnt ws (i:Int)) hD B6 (by rw [List.length_map];omega) ec0 ncr (fun i x Hi F hi kI BI kF=> ?_) (fun H7 S Sl Sq eS k7 B7=> ?_)
  ·rw [List.getElem?_map] at hi
   cases ei:(bh ws hn)[i]? with
   | none=>rw [ei] at hi;cases hi
   | some u=>
     rw [ei] at hi;cases hi;have hi':i<hn:=by rw [←cl];exact (List.getElem?_eq_some_iff.mp ei).1
     have eu:u=cnt ws (i:Int):=by
      rw [←bZ (ws:=ws) (hn:=hn) (h:=(i:Int)) (by omega) (by omega),eU ei]
     have u0:0<=u:=by rw [eu];exact dG _ _
     have u3:u<=300:=by
      rw [eu];have:=um ws (i:Int);omega
     exact ⟨_,rfl,_,rfl,_,_,rfl,rfl,r,b,u+1,_,rfl,BI,by omega,by omega,by omega,fun y H' y0 y1 B' k'=>kF y H' ⟨y0,by omega⟩ k' B'⟩
  rw [List.length_map,cl] at Sl B7;obtain ⟨ys6,hr6⟩:=B6.lst;have W7:=(W5.same s6).kp hr6 k7 nwr
  have S0:∀h:Nat,h<hn->0<=gI S (h:Int)/\gI S (h:Int)<=cnt ws (h:Int):=fun h hh=>by
   obtain ⟨v,ev⟩:=get_some (l:=S) (i:=h) (by omega);rw [eU ev];exact Sq h v ev
  have xY:∀x∈ws,0<=x.1/\x.1<8:=fun x hx=>(tok x hx).1;have good:∀us:List aY,(∀x∈us,x∈ws)->Fi (hn:Int) us:=fun us q=>⟨⟨by omega,by omega⟩,fun x hx=>(ok x (q x hx)).2⟩;dsimp only [fG];refine ⟨_,rfl,_,rfl,(hn:Int),w,ws,rfl,W7,wl,xY,good ws (fun x h=>h),fun t c n ns H8 ht0 hc0 hn0' ncn ht hc NN pm ss s8=> ?_⟩;rw [Int.toNat_natCast] at hc;have R8:RecAt H8 t c n (bh ws hn) ns:=⟨ht,hc,NN⟩;have Zm:uH (bh ws hn) ns:=Qn Il h8 wl pm;have eS8:=s8 _ _ eS;have W8:=W7.same s8
  have dS:fY (bh ws hn) S:=⟨by rw [cl];exact Sl,fun i i0 i1=>by
   rw [cl] at i1;obtain ⟨h,rfl⟩:=Int.eq_ofNat_of_zero_le i0;rw [bZ i0 i1];exact S0 h (by omega)⟩
  dsimp only [fG];refine ⟨_,rfl,_,rfl,t,c,n,D,_,S,ns,rfl,R8,Zm,eS8,dS,fun ct L H9 ahu Yb IL s9=> ?_⟩;have ll:L.length=hn:=by rw [IL.1.1,cl]
  have W9:=W8.same s9;dsimp only [fG];refine j7 (fun σ Hz=>σ=[some (.ref sa),some (.ref r),some (.int hn),some (.ref w),some (.int at'),some (.ref D),some (.ref t),some (.ref ct),none,none,none,none,none]/\Same H9 Hz) (fun D1 hD1 _=> ?_) ?_
  ·refine ⟨_,rfl,_,rfl,_,rfl,_,rfl,w,hn,ws,rfl,W9,Il,hn0,hn1,wl,fun p t1 t2 Ha hp L1 L2 _ _ sa'=> ?_⟩
   rw [Int.toNat_natCast] at L1;refine ⟨_,_,_,_,rfl,rfl,cu.of hp,rfl, ?_⟩;refine ⟨_,rfl,w,t1,D,ws,hn,S,rfl,W9.same sa',L1,sa' _ _ (s9 _ _ eS8),Sl,S0,ok,wl,h8,fun nw now Hb hnw Sv N sb=> ?_⟩;have en:now=L:=(N.least ok pm S0).eq IL;subst en;refine ⟨_,_,_,rfl,t_ (sb _ _ (sa' _ _ Yb)),t_ Sv,Al.up (Al.up (Al.up (Mh (by omega)))),fun He se=>⟨_,rfl,fK ?_⟩⟩;exact hD1 _ _ ⟨rfl,(sa'.trans sb).trans se⟩
  rintro σ Hz ⟨rfl,sz⟩;have ctz:=sz _ _ Yb;have Wz:=W9.same sz;have R9:=R8.same s9;have Rz:=R9.same sz;have clo:closed ns L:=IL.2.2.1;have dc:=qC pm clo;have O:=Gd dc;have eq0:gn ws (Gb ws L++R5 ws L)=gn ws (Gb ws L)++gn ws (R5 ws L):=DG _ _ _
  have Lb:∀h:Nat,h<hn->0<=gI L (h:Int)/\gI L (h:Int)<=cnt ws (h:Int):=fun h hh=>by
   have:=IL.1.2 (h:Int) (by omega) (by rw [cl];omega);rwa [bZ (by omega) (by omega)] at this
  have Yc:bh (gn ws (Gb ws L)) hn=L:=Ks ll Lb;have wp:=O.Sy;have pa:=O.all;rw [eq0] at wp pa;have V9:=wp.length_eq;rw [List.length_append] at V9
  have nlen:∀{us:List aY} {ns':List Nt},us.length<=300->ns'.Perm (cg us us.length)->ns'.length<=100000:=fun {us ns'} l q=>by
   rw [q.length_eq];have:=mJ us us.length;have:us.length*us.length<=300*300:=Nat.mul_le_mul l l;omega
  refine ⟨_,rfl,_,rfl,w,ct,ws,hn,L,rfl,Wz,ctz,ll,ok,wl,h8,fun pp dn lf Ha hpp WD WL Zf=> ?_⟩;refine ⟨pp,_,rfl,cu.of hpp,rfl,_,_,rfl,_,_,rfl,rfl, ?_⟩;have Ra:=Rz.same Zf;have cta:=Zf _ _ ctz;have Wa:=Wz.same Zf;generalize gn ws (Gb ws L)=Rv at Yc wp pa V9 WD;generalize gn ws (R5 ws L)=Pa at wp pa V9 WL;have Xl:∀x∈Rv++Pa,x∈ws:=fun x hx=>wp.mem_iff.mp hx;have ind:∀x∈Rv,x∈ws:=fun x hx=>Xl x (List.mem_append_left _ hx);have Rb:∀x∈Pa,x∈ws:=fun x hx=>Xl x (List.mem_append_right _ hx)
  have ecw:bh (Rv++Pa) hn=bh ws hn:=by
   unfold bh;exact List.map_congr_left fun h _=>Kr wp _
  dsimp only;refine j7 (fun σ Hy=>σ=[some (.ref sa),some (.ref r),some (.int hn),some (.ref w),some (.int at'),some (.ref D),some (.ref t),some (.ref ct),some (.ref dn),some (.ref lf),none,none,none]/\Same Ha Hy) (fun D1 hD1 _=> ?_) ?_
  ·refine ⟨_,rfl,_,rfl,t,c,n,ct,bh ws hn,L,ns,rfl,Ra,Zm,cta,IL.1,xH.mpr clo,fun u t1 t2 l i f o Hb sb ⟨hu,R1,R2⟩=> ?_⟩
   refine ⟨_,rfl,_,rfl,(hn:Int),dn,Rv,rfl,WD.same sb,by omega,fun x hx=>xY x (ind x hx),good Rv ind,fun t3 c3 n3 QF Hc _ _ _ _ Uq hc3 N3 p3 s3 sc=> ?_⟩;refine ⟨_,rfl,_,rfl,(hn:Int),lf,Pa,rfl,(WL.same sb).same sc,by omega,fun x hx=>xY x (Rb x hx),good Pa Rb,fun t4 c4 n4 JL Hd _ _ _ _ R_ hc4 N4 p4 s4 sd=> ?_⟩;rw [Int.toNat_natCast] at hc3 hc4;refine ⟨(by show 2<=sizeLine;decide),fun tp htp=> ?_⟩;have stp:=aC (o:=HO.tup [V.ref t3,V.ref t4]) htp;have U0:(upd Hd tp (.tup [V.ref t3,V.ref t4])) tp=some (.tup [V.ref t3,V.ref t4]):=ak;generalize (upd Hd tp (.tup [V.ref t3,V.ref t4]))=He at stp U0 ⊢;have Yh:RecAt He t3 c3 n3 (bh Rv hn) QF:=RecAt.same (RecAt.same ⟨Uq,hc3,N3⟩ sd) stp;have R4e:RecAt He t4 c4 n4 (bh Pa hn) JL:=RecAt.same ⟨R_,hc4,N4⟩ stp;have Wm:=(sc.trans sd).trans stp;obtain ⟨g1,g2⟩:=zZ (hn:=hn) (fun y hy=>Il y (Xl y hy)) (pm.trans pa.symm) ss p3 s3 p4 s4;rw [Yc] at g1 g2 Yh;have g3:=sU (p:=Rv) (q:=Pa) (hn:=hn);rw [ecw,Yc] at g3;rw [g1] at R1;rw [g2,g3] at R2;have d1:=oW (Wm _ _ hu) (jE (R1.same Wm)) (jE (R2.same Wm));have d2:=oW U0 (jE Yh) (jE R4e);have c4l:=bI Pa hn;refine ⟨_,_,_,rfl,d1,d2,DR (by omega) (nlen (by omega) p3) (by omega) (nlen (by omega) p4),fun Hf sf=>⟨_,rfl,fK ?_⟩⟩;exact hD1 _ _ ⟨rfl,(sb.trans Wm).trans sf⟩
  rintro σ Hy ⟨rfl,sy⟩;clear wp pa V9 Xl ind Rb ecw Yc WD WL eq0 O dc;have Ry:=Ra.same sy;have Wy:=Wa.same sy;clear Ra Wa cta ctz Wz Rz R9 W9 W8 R8 W7;obtain ⟨vy,hvy,dvy⟩:=id Wy;have vyl:vy.length=ws.length:=by rw [dvy.length,List.length_map]
  refine ⟨_,rfl,_,rfl,_,rfl,_,rfl,w,vy,rfl,aW.of hvy,fun sp hsp=> ?_⟩;have Yb:jA vy none (some (at':Int))=vy.take at':=uc vy at';rw [Yb];have Wp:=(cC.cutAt (j:=at') dvy hsp).1;have ssp:=aC (o:=HO.lst (vy.take at')) hsp;generalize (upd Hy sp (HO.lst (vy.take at')))=Ha2 at Wp ssp ⊢;have Ow:ws.take at'++ws.drop at'=ws:=List.take_append_drop _ _;have tl:(ws.take at').length<=300:=by rw [List.length_take];omega
  have dl:(ws.drop at').length<=300:=by rw [List.length_drop];omega
  have inp:∀x∈ws.take at',x∈ws:=fun x hx=>List.mem_of_mem_take hx;have Xm:∀x∈ws.drop at',x∈ws:=fun x hx=>List.mem_of_mem_drop hx;refine ⟨(hn:Int),sp,ws.take at',rfl,Wp,tl,fun x hx=>xY x (inp x hx),good _ inp,fun t3 c3 n3 QF Hb2 _ _ _ _ Uq hc3 N3 p3 s3 sb2=> ?_⟩;rw [Int.toNat_natCast] at hc3;have R3:RecAt Hb2 t3 c3 n3 (bh (ws.take at') hn) QF:=⟨Uq,hc3,N3⟩;have Wg:=ssp.trans sb2;dsimp only [fG];obtain ⟨vz,hvz,dvz⟩:=id (Wy.same Wg);have vzl:vz.length=ws.length:=by rw [dvz.length,List.length_map]
  refine ⟨_,rfl,_,rfl,_,rfl,_,rfl,w,vz,rfl,aW.of hvz,fun OJ Ut=> ?_⟩;have ecd:jA vz (some (at':Int)) none=vz.drop at':=uf vz at';rw [ecd];have Wq:=(cC.cutAt (j:=at') dvz Ut).2;have Tc:=aC (o:=HO.lst (vz.drop at')) Ut;generalize (upd Hb2 OJ (HO.lst (vz.drop at')))=Hc2 at Wq Tc ⊢;refine ⟨(hn:Int),OJ,ws.drop at',rfl,Wq,dl,fun x hx=>xY x (Xm x hx),good _ Xm,fun t4 c4 n4 JL Hd2 _ _ _ _ R_ hc4 N4 p4 s4 sd2=> ?_⟩;rw [Int.toNat_natCast] at hc4;have R4:RecAt Hd2 t4 c4 n4 (bh (ws.drop at') hn) JL:=⟨R_,hc4,N4⟩;have Wn:=Tc.trans sd2;have VG:=R3.same Wn;have Rd:=(Ry.same Wg).same Wn;have Wd:=(Wy.same Wg).same Wn;have sy4:=Wg.trans Wn;generalize eP:ws.take at'=p' at VG p3 tl inp Ow Wp R3;generalize eQ:ws.drop at'=q' at R4 p4 dl Xm Ow Wq;have TY:∀y∈p'++q',jy (hn:Int) y:=by rw [Ow];exact Il
  have pm':ns.Perm (cg (p'++q') (p'++q').length):=by rw [Ow];exact pm
  obtain ⟨g1,g2⟩:=zZ (hn:=hn) TY pm' ss p3 s3 p4 s4;have g3:=sU (p:=p') (q:=q') (hn:=hn);have g4:=Bv (p:=p') (q:=q') (hn:=hn);have g5:=(qm (hn:=hn) TY pm').2.2;rw [Ow] at g3 g4;have c3l:=bI p' hn;have c4l:=bI q' hn;dsimp only [fG];refine j7 (fun σ Hx=>σ=[some (.ref sa),some (.ref r),some (.int hn),some (.ref w),some (.int at'),some (.ref D),some (.ref t),some (.ref ct),some (.ref dn),some (.ref lf),some (.ref t3),some (.ref t4),none]/\Same Hd2 Hx) (fun D1 hD1 _=> ?_) ?_
  ·refine ⟨_,rfl,_,rfl,_,_,_,_,rfl,rfl,cu.of VG.1,rfl,t,c,n,c3,bh ws hn,bh p' hn,ns,rfl,Rd,Zm,VG.2.1,g4,xH.mpr g5,fun u u1 u2 l i f o Hb sb ⟨hu,R1,R2⟩=> ?_⟩
   refine ⟨_,rfl,_,rfl,(by show 2<=sizeLine;decide),fun tp htp=> ?_⟩;have stp:=aC (o:=HO.tup [V.ref t3,V.ref t4]) htp;have U0:(upd Hb tp (.tup [V.ref t3,V.ref t4])) tp=some (.tup [V.ref t3,V.ref t4]):=ak;generalize (upd Hb tp (.tup [V.ref t3,V.ref t4]))=He at stp U0 ⊢;rw [g1] at R1;rw [g2,g3] at R2;have d1:=oW (stp _ _ hu) (jE (R1.same stp)) (jE (R2.same stp));have d2:=oW U0 (jE ((VG.same sb).same stp)) (jE ((R4.same sb).same stp));refine ⟨_,_,_,rfl,d1,d2,DR (by omega) (nlen tl p3) (by omega) (nlen dl p4),fun Hf sf=>⟨_,rfl,fK ?_⟩⟩;exact hD1 _ _ ⟨rfl,(sb.trans stp).trans sf⟩
  rintro σ Hx ⟨rfl,sx⟩;have R3x:=VG.same sx;have R4x:=R4.same sx;have Rx:=Rd.same sx;have Wx:=Wd.same sx;obtain ⟨h3t,h3c,N3x⟩:=id R3x;obtain ⟨h4t,h4c,v4x,Uo,U6⟩:=id R4x;have v4l:v4x.length=JL.length:=by rw [U6.length,List.length_map]
  have agJ:=nlen dl p4;refine ⟨_,rfl,_,_,_,_,rfl,rfl,cu.of h4t,rfl,n4,rfl,⟨_,aW.of Uo⟩,fun D4 hD4=> ?_⟩;refine m_ (K:=K) (xs:=v4x) (fun i σ Hc=>∃(a1 a2 a3 a4:Option V) (us:List V),σ=[a1,a2,a3,a4,some (.ref t3)]/\Same Hx Hc/\Hc D4=some (.lst us)/\us.length=i/\aD Hc us (((JL.take i).map (vq p')).map nD)) ⟨none,none,none,none,[],rfl,aC hD4,ak,rfl,by simp [aD]⟩ (fun i σ Hc _ ⟨_,_,_,_,_,_,sc,_⟩=>aW.of (sc _ _ Uo)) ?_ ?_
  ·rintro i v σ Hc hi ⟨a1,a2,a3,a4,us,rfl,sc,eD,ul,du⟩
   obtain ⟨y,q,ey,rfl,hq⟩:=jB U6 hi;have il:=(List.getElem?_eq_some_iff.mp ey).1;obtain ⟨y1,y2,y3,y4,_⟩:=o7 (hn:=hn) (fun x hx=>Il x (Xm x hx)) (Nat.le_refl _) y (p4.mem_iff.mp (List.mem_of_getElem? ey));rw [c4l] at y1 y3;have hqc:=sc _ _ hq;refine ⟨q,_,rfl,cu.of hqc,rfl,_,_,rfl,_,_,rfl,_,_,rfl,_,_,rfl,rfl, ?_⟩;dsimp only [fG,P_];rw [if_pos rfl];have Uz:=sc _ _ h3t;have UG:=sc _ _ h3c;refine ⟨_,rfl,_,rfl,_,rfl,_,_,_,_,rfl,rfl,cu.of Uz,rfl,_,rfl,_,_,_,_,rfl,rfl,aW.of UG,dX y1.1 (by rw [c3l];exact y1.2),_,_,rfl,rfl,_,rfl,_,rfl,_,rfl,_,_,_,_,rfl,rfl,cu.of Uz,rfl,_,rfl,_,_,_,_,rfl,rfl,aW.of UG,dX y3.1 (by rw [c3l];exact y3.2),_,_,rfl,rfl,(by show 4<=sizeLine;decide),fun tq htq=> ?_⟩;rw [bZ y1.1 y1.2,bZ y3.1 y3.2];have Wh:=aC (o:=HO.tup [V.int y.1,V.int (y.2.1+cnt p' y.1),V.int y.2.2.1,V.int (y.2.2.2+cnt p' y.2.2.1)]) htq;have etq:(upd Hc tq (.tup [V.int y.1,V.int (y.2.1+cnt p' y.1),V.int y.2.2.1,V.int (y.2.2.2+cnt p' y.2.2.1)])) tq=some (.tup (nV (vq p' y))):=ak;refine ⟨_,Wh _ _ eD,by rw [sizeLine_eq];omega,_,_,_,_,us++[V.ref tq],rfl,(sc.trans Wh).newly hD4,ak,by simp [ul], ?_⟩;have ka:Kp D4 (upd Hc tq (.tup [V.int y.1,V.int (y.2.1+cnt p' y.1),V.int y.2.2.1,V.int (y.2.2.2+cnt p' y.2.2.1)])) (upd (upd Hc tq (.tup [V.int y.1,V.int (y.2.1+cnt p' y.1),V.int y.2.2.1,V.int (y.2.2.2+cnt p' y.2.2.1)])) D4 (.lst (us++[V.ref tq]))):=Kp.set;have tka:=ka.tups (Wh _ _ eD);have tk4:JL.take (i+1)=JL.take i++[y]:=by rw [List.take_add_one,ey];rfl
   rw [tk4,List.map_append,List.map_append];exact aD.append (aD.keep (fun a xs e=>tka _ _ (Wh.tups _ _ e)) _ (aX _ dW _) du) (by simp only [List.map_cons,List.map_nil,aD,and_true];exact tZ (tka _ _ etq))
  rintro σ He ⟨a1,a2,a3,a4,us,rfl,se,eD,ul,du⟩;rw [v4l,List.take_length] at du;rw [v4l] at ul;have NL:fH He D4 (JL.map (vq p')):=⟨us,eD,du⟩;have Yh:=R3x.same se;have Re:=Rx.same se;have We:=Wx.same se;obtain ⟨aci,ahC,u3,hu3,du3⟩:=id Yh;have u3l:u3.length=QF.length:=by rw [du3.length,List.length_map]
  have agK:=nlen tl p3;dsimp only [fG];refine ⟨_,rfl,_,_,_,_,rfl,rfl,cu.of Re.1,rfl, ?_⟩;refine ⟨_,rfl,_,_,_,_,rfl,rfl,cu.of aci,rfl,_,rfl,n3,D4,_,_,rfl,rfl,hu3,eD,by rw [sizeLine_eq];omega,fun l1 hl1=> ?_⟩;have Qg:=aC (o:=HO.lst (u3++us)) hl1;have el1:(upd He l1 (.lst (u3++us))) l1=some (.lst (u3++us)):=ak
  have dl1:aD (upd He l1 (.lst (u3++us))) (u3++us) ((QF++JL.map (vq p')).map nD):=by
   rw [List.map_append];exact aD.append (aD.keep Qg.tups _ (aX _ dW _) du3) (aD.keep Qg.tups _ (aX _ dW _) du)
  have Wf:=We.same Qg;generalize (upd He l1 (.lst (u3++us)))=Hf at Qg el1 dl1 Wf ⊢;obtain ⟨vf,hvf,dvf⟩:=id Wf;refine ⟨_,rfl,_,rfl,_,rfl,w,vf,rfl,aW.of hvf,fun sp3 Us=> ?_⟩;rw [show jA vf none (some (at':Int))=vf.take at' from uc vf at'];have Wp3:=(cC.cutAt (j:=at') dvf Us).1;have Qc:=aC (o:=HO.lst (vf.take at')) Us;generalize (upd Hf sp3 (HO.lst (vf.take at')))=Hg at Wp3 Qc ⊢;obtain ⟨vg,hvg,dvg⟩:=id (Wf.same Qc);refine ⟨_,rfl,_,rfl,_,rfl,w,vg,rfl,aW.of hvg,fun sp4 Ur=> ?_⟩;rw [show jA vg (some (at':Int)) none=vg.drop at' from uf vg at'];have Wq4:=(cC.cutAt (j:=at') dvg Ur).2;have Qa:=aC (o:=HO.lst (vg.drop at')) Ur;generalize (upd Hg sp4 (HO.lst (vg.drop at')))=Hh at Wq4 Qa ⊢;rw [eP] at Wp3;rw [eQ] at Wq4;refine ⟨sp3,sp4,p',q',rfl,Wp3.same Qa,Wq4,by rw [Ow];exact wl,by rw [Ow];exact xY,fun ac nsA Hi hac NA pA sA si=> ?_⟩;have Zd:=(Qc.trans Qa).trans si;obtain ⟨uA,huA,duA⟩:=id NA;have uAl:uA.length=nsA.length:=by rw [duA.length,List.length_map]
  have ad5:(cg ws ws.length).Perm (cg p' p'.length++((cg q' q'.length).map (vq p')++fX p' q' q'.length)):=by
   have:=o8 p' q' q'.length;rw [←List.length_append,Ow] at this;exact this
  have total:((QF++JL.map (vq p'))++nsA).Perm ns:=by
   refine List.Perm.trans ?_ pm.symm;refine List.Perm.trans ?_ ad5.symm;rw [List.append_assoc];exact p3.append ((p4.map _).append pA)
  have nsl:=nlen wl pm;have Fy:=total.length_eq;rw [List.length_append,List.length_append,List.length_map] at Fy;refine ⟨l1,ac,_,_,rfl,rfl,Zd _ _ el1,huA,by rw [sizeLine_eq,List.length_append];omega,fun l2 hl2=> ?_⟩;have sl2:=aC (o:=HO.lst ((u3++us)++uA)) hl2
  have NL2:fH (upd Hi l2 (.lst ((u3++us)++uA))) l2 ((QF++JL.map (vq p'))++nsA):=by
   refine ⟨_,ak, ?_⟩;rw [List.map_append];exact aD.append (aD.keep sl2.tups _ (aX _ dW _) (aD.keep Zd.tups _ (aX _ dW _) dl1)) (aD.keep sl2.tups _ (aX _ dW _) duA)
  have Rj:=((Re.same Qg).same Zd).same sl2;generalize (upd Hi l2 (.lst ((u3++us)++uA)))=Hj at sl2 NL2 Rj ⊢;dsimp only [PJ];refine rZ (K:=K) NL2 fun l3 ns5 Hk hl3 N5 p5 s5' sk=> ?_;have e5:ns5=ns:=mW (p5.trans total) s5' ss;subst e5;obtain ⟨ux,hux,dux⟩:=id (Rj.same sk).2.2;obtain ⟨uy,huy,duy⟩:=id N5;exact ⟨_,_,_,rfl,oX hux dux,oX huy duy,Al.up (Al.up (Z6 ns5 nsl)),fun Hl _=>k Hl⟩
end
theorem len0 {us:List Value} (h:us.length=0):us=[]:=List.eq_nil_of_length_eq_zero h
theorem bH {us:List Value} {n:Nat} (h:us.length=n+1):∃a vs,us=a::vs/\vs.length=n:=by
 cases us with
 | nil=>cases h
 | cons a t=>exact ⟨a,t,rfl,Nat.succ.inj h⟩
theorem Og (kV doc pm:Value) (an:Option Addr) (cdv ct:Value) (us:List Value) (hl:us.length=(["script"]:List Str).length):bindArgs (PySem.W.fnOf "_law_bag" "_law_bag" (aH j8) (aF j8) (aq j8) .none kV doc pm an cdv ct) ⟨us,[]⟩=pure ((["script"]:List Str).zip us):=by obtain ⟨_,_,rfl,h1⟩:=bH hl;cases len0 h1;rfl
theorem KD (kV doc pm:Value) (an:Option Addr) (cdv ct:Value) (us:List Value) (hl:us.length=(["number","place"]:List Str).length):bindArgs (PySem.W.fnOf "_law_stir" "_law_stir" (aH jd) (aF jd) (aq jd) .none kV doc pm an cdv ct) ⟨us,[]⟩=pure ((["number","place"]:List Str).zip us):=by obtain ⟨_,_,rfl,h1⟩:=bH hl;obtain ⟨_,_,rfl,h2⟩:=bH h1;cases len0 h2;rfl
theorem KH (kV doc pm:Value) (an:Option Addr) (cdv ct:Value) (us:List Value) (hl:us.length=(["bag","many"]:List Str).length):bindArgs (PySem.W.fnOf "_law_draw" "_law_draw" (aH je) (aF je) (aq je) .none kV doc pm an cdv ct) ⟨us,[]⟩=pure ((["bag","many"]:List Str).zip us):=by obtain ⟨_,_,rfl,h1⟩:=bH hl;obtain ⟨_,_,rfl,h2⟩:=bH h1;cases len0 h2;rfl
theorem Ht (kV doc pm:Value) (an:Option Addr) (cdv ct:Value) (us:List Value) (hl:us.length=(["bag"]:List Str).length):bindArgs (PySem.W.fnOf "_law_hands" "_law_hands" (aH gG) (aF gG) (aq gG) .none kV doc pm an cdv ct) ⟨us,[]⟩=pure ((["bag"]:List Str).zip us):=by obtain ⟨_,_,rfl,h1⟩:=bH hl;cases len0 h1;rfl
theorem Hr (kV doc pm:Value) (an:Option Addr) (cdv ct:Value) (us:List Value) (hl:us.length=(["bag","hands","cells","loads","apart"]:List Str).length):bindArgs (PySem.W.fnOf "_law_touch" "_law_touch" (aH gD) (aF gD) (aq gD) .none kV doc pm an cdv ct) ⟨us,[]⟩=pure ((["bag","hands","cells","loads","apart"]:List Str).zip us):=by obtain ⟨_,_,rfl,h1⟩:=bH hl;obtain ⟨_,_,rfl,h2⟩:=bH h1;obtain ⟨_,_,rfl,h3⟩:=bH h2;obtain ⟨_,_,rfl,h4⟩:=bH h3;obtain ⟨_,_,rfl,h5⟩:=bH h4;cases len0 h5;rfl
theorem Ac (kV doc pm:Value) (an:Option Addr) (cdv ct:Value) (us:List Value) (hl:us.length=(["bag","hands"]:List Str).length):bindArgs (PySem.W.fnOf "_law_touches" "_law_touches" (aH dR) (aF dR) (aq dR) .none kV doc pm an cdv ct) ⟨us,[]⟩=pure ((["bag","hands"]:List Str).zip us):=by obtain ⟨_,_,rfl,h1⟩:=bH hl;obtain ⟨_,_,rfl,h2⟩:=bH h1;cases len0 h2;rfl
theorem qT (kV doc pm:Value) (an:Option Addr) (cdv ct:Value) (us:List Value) (hl:us.length=(["one","other"]:List Str).length):bindArgs (PySem.W.fnOf "touches_meet" "touches_meet" (aH bQ) (aF bQ) (aq bQ) .none kV doc pm an cdv ct) ⟨us,[]⟩=pure ((["one","other"]:List Str).zip us):=by obtain ⟨_,_,rfl,h1⟩:=bH hl;obtain ⟨_,_,rfl,h2⟩:=bH h1;cases len0 h2;rfl
theorem C_ (kV doc pm:Value) (an:Option Addr) (cdv ct:Value) (us:List Value) (hl:us.length=(["web","place","later"]:List Str).length):bindArgs (PySem.W.fnOf "is_step" "is_step" (aH eY) (aF eY) (aq eY) .none kV doc pm an cdv ct) ⟨us,[]⟩=pure ((["web","place","later"]:List Str).zip us):=by obtain ⟨_,_,rfl,h1⟩:=bH hl;obtain ⟨_,_,rfl,h2⟩:=bH h1;obtain ⟨_,_,rfl,h3⟩:=bH h2;cases len0 h3;rfl
theorem Aa (kV doc pm:Value) (an:Option Addr) (cdv ct:Value) (us:List Value) (hl:us.length=(["name","known"]:List Str).length):bindArgs (PySem.W.fnOf "is_known" "is_known" (aH dN) (aF dN) (aq dN) .none kV doc pm an cdv ct) ⟨us,[]⟩=pure ((["name","known"]:List Str).zip us):=by obtain ⟨_,_,rfl,h1⟩:=bH hl;obtain ⟨_,_,rfl,h2⟩:=bH h1;cases len0 h2;rfl
theorem KC (kV doc pm:Value) (an:Option Addr) (cdv ct:Value) (us:List Value) (hl:us.length=(["known","more"]:List Str).length):bindArgs (PySem.W.fnOf "learn" "learn" (aH jc) (aF jc) (aq jc) .none kV doc pm an cdv ct) ⟨us,[]⟩=pure ((["known","more"]:List Str).zip us):=by obtain ⟨_,_,rfl,h1⟩:=bH hl;obtain ⟨_,_,rfl,h2⟩:=bH h1;cases len0 h2;rfl
theorem vd (kV doc pm:Value) (an:Option Addr) (cdv ct:Value) (us:List Value) (hl:us.length=(["web","named","knowns","place"]:List Str).length):bindArgs (PySem.W.fnOf "bare_steps" "bare_steps" (aH cO) (aF cO) (aq cO) .none kV doc pm an cdv ct) ⟨us,[]⟩=pure ((["web","named","knowns","place"]:List Str).zip us):=by obtain ⟨_,_,rfl,h1⟩:=bH hl;obtain ⟨_,_,rfl,h2⟩:=bH h1;obtain ⟨_,_,rfl,h3⟩:=bH h2;obtain ⟨_,_,rfl,h4⟩:=bH h3;cases len0 h4;rfl
theorem z9 (kV doc pm:Value) (an:Option Addr) (cdv ct:Value) (us:List Value) (hl:us.length=(["named","bare","name"]:List Str).length):bindArgs (PySem.W.fnOf "notes_to" "notes_to" (aH dJ) (aF dJ) (aq dJ) .none kV doc pm an cdv ct) ⟨us,[]⟩=pure ((["named","bare","name"]:List Str).zip us):=by obtain ⟨_,_,rfl,h1⟩:=bH hl;obtain ⟨_,_,rfl,h2⟩:=bH h1;obtain ⟨_,_,rfl,h3⟩:=bH h2;cases len0 h3;rfl
theorem Kz (kV doc pm:Value) (an:Option Addr) (cdv ct:Value) (us:List Value) (hl:us.length=(["web"]:List Str).length):bindArgs (PySem.W.fnOf "names" "names" (aH i_) (aF i_) (aq i_) .none kV doc pm an cdv ct) ⟨us,[]⟩=pure ((["web"]:List Str).zip us):=by obtain ⟨_,_,rfl,h1⟩:=bH hl;cases len0 h1;rfl
theorem Ky (kV doc pm:Value) (an:Option Addr) (cdv ct:Value) (us:List Value) (hl:us.length=(["web"]:List Str).length):bindArgs (PySem.W.fnOf "notes" "notes" (aH iZ) (aF iZ) (aq iZ) .none kV doc pm an cdv ct) ⟨us,[]⟩=pure ((["web"]:List Str).zip us):=by obtain ⟨_,_,rfl,h1⟩:=bH hl;cases len0 h1;rfl
theorem Hs (kV doc pm:Value) (an:Option Addr) (cdv ct:Value) (us:List Value) (hl:us.length=(["touches","hands"]:List Str).length):bindArgs (PySem.W.fnOf "_law_table" "_law_table" (aH gF) (aF gF) (aq gF) .none kV doc pm an cdv ct) ⟨us,[]⟩=pure ((["touches","hands"]:List Str).zip us):=by obtain ⟨_,_,rfl,h1⟩:=bH hl;obtain ⟨_,_,rfl,h2⟩:=bH h1;cases len0 h2;rfl
theorem z_ (kV doc pm:Value) (an:Option Addr) (cdv ct:Value) (us:List Value) (hl:us.length=(["value"]:List Str).length):bindArgs (PySem.W.fnOf "is_whole" "is_whole" (aH dM) (aF dM) (aq dM) .none kV doc pm an cdv ct) ⟨us,[]⟩=pure ((["value"]:List Str).zip us):=by obtain ⟨_,_,rfl,h1⟩:=bH hl;cases len0 h1;rfl
theorem Ab (kV doc pm:Value) (an:Option Addr) (cdv ct:Value) (us:List Value) (hl:us.length=(["value","count"]:List Str).length):bindArgs (PySem.W.fnOf "is_below" "is_below" (aH dO) (aF dO) (aq dO) .none kV doc pm an cdv ct) ⟨us,[]⟩=pure ((["value","count"]:List Str).zip us):=by obtain ⟨_,_,rfl,h1⟩:=bH hl;obtain ⟨_,_,rfl,h2⟩:=bH h1;cases len0 h2;rfl
theorem Dd (kV doc pm:Value) (an:Option Addr) (cdv ct:Value) (us:List Value) (hl:us.length=(["value"]:List Str).length):bindArgs (PySem.W.fnOf "is_note" "is_note" (aH eZ) (aF eZ) (aq eZ) .none kV doc pm an cdv ct) ⟨us,[]⟩=pure ((["value"]:List Str).zip us):=by obtain ⟨_,_,rfl,h1⟩:=bH hl;cases len0 h1;rfl
theorem u6 (kV doc pm:Value) (an:Option Addr) (cdv ct:Value) (us:List Value) (hl:us.length=(["counts","note"]:List Str).length):bindArgs (PySem.W.fnOf "is_between" "is_between" (aH cJ) (aF cJ) (aq cJ) .none kV doc pm an cdv ct) ⟨us,[]⟩=pure ((["counts","note"]:List Str).zip us):=by obtain ⟨_,_,rfl,h1⟩:=bH hl;obtain ⟨_,_,rfl,h2⟩:=bH h1;cases len0 h2;rfl
theorem uD (kV doc pm:Value) (an:Option Addr) (cdv ct:Value) (us:List Value) (hl:us.length=(["record"]:List Str).length):bindArgs (PySem.W.fnOf "check_notes" "check_notes" (aH cj) (aF cj) (aq cj) .none kV doc pm an cdv ct) ⟨us,[]⟩=pure ((["record"]:List Str).zip us):=by obtain ⟨_,_,rfl,h1⟩:=bH hl;cases len0 h1;rfl
theorem u_ (kV doc pm:Value) (an:Option Addr) (cdv ct:Value) (us:List Value) (hl:us.length=(["record","done"]:List Str).length):bindArgs (PySem.W.fnOf "check_done" "check_done" (aH cN) (aF cN) (aq cN) .none kV doc pm an cdv ct) ⟨us,[]⟩=pure ((["record","done"]:List Str).zip us):=by obtain ⟨_,_,rfl,h1⟩:=bH hl;obtain ⟨_,_,rfl,h2⟩:=bH h1;cases len0 h2;rfl
theorem RL (kV doc pm:Value) (an:Option Addr) (cdv ct:Value) (us:List Value) (hl:us.length=(["done","touch"]:List Str).length):bindArgs (PySem.W.fnOf "has" "has" (aH oJ) (aF oJ) (aq oJ) .none kV doc pm an cdv ct) ⟨us,[]⟩=pure ((["done","touch"]:List Str).zip us):=by obtain ⟨_,_,rfl,h1⟩:=bH hl;obtain ⟨_,_,rfl,h2⟩:=bH h1;cases len0 h2;rfl
theorem qW (kV doc pm:Value) (an:Option Addr) (cdv ct:Value) (us:List Value) (hl:us.length=(["record","done"]:List Str).length):bindArgs (PySem.W.fnOf "broken_notes" "broken_notes" (aH bT) (aF bT) (aq bT) .none kV doc pm an cdv ct) ⟨us,[]⟩=pure ((["record","done"]:List Str).zip us):=by obtain ⟨_,_,rfl,h1⟩:=bH hl;obtain ⟨_,_,rfl,h2⟩:=bH h1;cases len0 h2;rfl
theorem Ho (kV doc pm:Value) (an:Option Addr) (cdv ct:Value) (us:List Value) (hl:us.length=(["record","cut"]:List Str).length):bindArgs (PySem.W.fnOf "is_cut" "is_cut" (aH gB) (aF gB) (aq gB) .none kV doc pm an cdv ct) ⟨us,[]⟩=pure ((["record","cut"]:List Str).zip us):=by obtain ⟨_,_,rfl,h1⟩:=bH hl;obtain ⟨_,_,rfl,h2⟩:=bH h1;cases len0 h2;rfl
theorem xM (kV doc pm:Value) (an:Option Addr) (cdv ct:Value) (us:List Value) (hl:us.length=(["record","some"]:List Str).length):bindArgs (PySem.W.fnOf "least_cut" "least_cut" (aH dh) (aF dh) (aq dh) .none kV doc pm an cdv ct) ⟨us,[]⟩=pure ((["record","some"]:List Str).zip us):=by obtain ⟨_,_,rfl,h1⟩:=bH hl;obtain ⟨_,_,rfl,h2⟩:=bH h1;cases len0 h2;rfl
theorem xJ (kV doc pm:Value) (an:Option Addr) (cdv ct:Value) (us:List Value) (hl:us.length=(["hands","web"]:List Str).length):bindArgs (PySem.W.fnOf "record_of" "record_of" (aH cZ) (aF cZ) (aq cZ) .none kV doc pm an cdv ct) ⟨us,[]⟩=pure ((["hands","web"]:List Str).zip us):=by obtain ⟨_,_,rfl,h1⟩:=bH hl;obtain ⟨_,_,rfl,h2⟩:=bH h1;cases len0 h2;rfl
theorem qU (kV doc pm:Value) (an:Option Addr) (cdv ct:Value) (us:List Value) (hl:us.length=(["cut","note"]:List Str).length):bindArgs (PySem.W.fnOf "counted_from" "counted_from" (aH bR) (aF bR) (aq bR) .none kV doc pm an cdv ct) ⟨us,[]⟩=pure ((["cut","note"]:List Str).zip us):=by obtain ⟨_,_,rfl,h1⟩:=bH hl;obtain ⟨_,_,rfl,h2⟩:=bH h1;cases len0 h2;rfl
theorem u9 (kV doc pm:Value) (an:Option Addr) (cdv ct:Value) (us:List Value) (hl:us.length=(["record","cut"]:List Str).length):bindArgs (PySem.W.fnOf "cut_record" "cut_record" (aH cL) (aF cL) (aq cL) .none kV doc pm an cdv ct) ⟨us,[]⟩=pure ((["record","cut"]:List Str).zip us):=by obtain ⟨_,_,rfl,h1⟩:=bH hl;obtain ⟨_,_,rfl,h2⟩:=bH h1;cases len0 h2;rfl
theorem xK (kV doc pm:Value) (an:Option Addr) (cdv ct:Value) (us:List Value) (hl:us.length=(["web"]:List Str).length):bindArgs (PySem.W.fnOf "places_of" "places_of" (aH dg) (aF dg) (aq dg) .none kV doc pm an cdv ct) ⟨us,[]⟩=pure ((["web"]:List Str).zip us):=by obtain ⟨_,_,rfl,h1⟩:=bH hl;cases len0 h1;rfl
theorem Hq (kV doc pm:Value) (an:Option Addr) (cdv ct:Value) (us:List Value) (hl:us.length=(["one","other"]:List Str).length):bindArgs (PySem.W.fnOf "across" "across" (aH gC) (aF gC) (aq gC) .none kV doc pm an cdv ct) ⟨us,[]⟩=pure ((["one","other"]:List Str).zip us):=by obtain ⟨_,_,rfl,h1⟩:=bH hl;obtain ⟨_,_,rfl,h2⟩:=bH h1;cases len0 h2;rfl
theorem jk (kV doc pm:Value) (an:Option Addr) (cdv ct:Value) (us:List Value) (hl:us.length=(["found","due"]:List Str).length):bindArgs (PySem.W.fnOf "_law_alike" "_law_alike" (aH fL) (aF fL) (aq fL) .none kV doc pm an cdv ct) ⟨us,[]⟩=pure ((["found","due"]:List Str).zip us):=by obtain ⟨_,_,rfl,h1⟩:=bH hl;obtain ⟨_,_,rfl,h2⟩:=bH h1;cases len0 h2;rfl
theorem Dg (kV doc pm:Value) (an:Option Addr) (cdv ct:Value) (us:List Value) (hl:us.length=(["web","hands"]:List Str).length):bindArgs (PySem.W.fnOf "_law_counts" "_law_counts" (aH fu) (aF fu) (aq fu) .none kV doc pm an cdv ct) ⟨us,[]⟩=pure ((["web","hands"]:List Str).zip us):=by obtain ⟨_,_,rfl,h1⟩:=bH hl;obtain ⟨_,_,rfl,h2⟩:=bH h1;cases len0 h2;rfl
theorem Dh (kV doc pm:Value) (an:Option Addr) (cdv ct:Value) (us:List Value) (hl:us.length=(["web","rows","some"]:List Str).length):bindArgs (PySem.W.fnOf "_law_closed" "_law_closed" (aH fB) (aF fB) (aq fB) .none kV doc pm an cdv ct) ⟨us,[]⟩=pure ((["web","rows","some"]:List Str).zip us):=by obtain ⟨_,_,rfl,h1⟩:=bH hl;obtain ⟨_,_,rfl,h2⟩:=bH h1;obtain ⟨_,_,rfl,h3⟩:=bH h2;cases len0 h3;rfl
theorem Df (kV doc pm:Value) (an:Option Addr) (cdv ct:Value) (us:List Value) (hl:us.length=(["web","cut"]:List Str).length):bindArgs (PySem.W.fnOf "_law_parted" "_law_parted" (aH fj) (aF fj) (aq fj) .none kV doc pm an cdv ct) ⟨us,[]⟩=pure ((["web","cut"]:List Str).zip us):=by obtain ⟨_,_,rfl,h1⟩:=bH hl;obtain ⟨_,_,rfl,h2⟩:=bH h1;cases len0 h2;rfl
theorem all_mk {l:PySem.W.OpenLaw} {w:World} {K:PySem.W.Frag} {h:Heap} {mg:Str->Option Value} {fa f0 f1 f2 f3 f4 f5 f6 f7 f8 f9 X7 f11 X6 X5 X4 X3 XS XR XQ XM XJ XH XF XD XC Xz Xy Xx Xw Xv NK Xu f32 Xr f34:Addr} (X:K.In h) (G:h.Ns mainGlobals mg) (hfa:mg "law" = some (.ref fa))
 {od0 an0 od1 an1 od2 an2 od3 an3 od4 an4 od5 an5 od6 an6 od7 an7 od8 an8 od9 an9 aay ad4 aax ad3 aaw ad2 aav ad1 aau ad0 aat adZ aas adY aar adX aaq adW aap adV aao adU aan adT aam adS aal adR aak adQ aaj adP aai adO aah adN aag adM aaf adL aae adK aad adJ aac adI Z_ adH Z9 VB:Option Addr} {sl0 Qg sl2 sl3 sl4 sl5 sl6 sl7 sl8 sl9 Zc Zb Za Y_ Y9 Y8 Y7 Y6 Y5 Y4 Y0 YZ YX YW YT YS YQ YM YL YK YJ YH YG YF YD:Array (Option Value)} {oc0 kV0 dc0 pm0 cd0 ct0 oc1 kV1 dc1 pm1 cd1 ct1 oc2 kV2 dc2 pm2 cd2 ct2 oc3 kV3 dc3 pm3 cd3 ct3 oc4 kV4 dc4 pm4 cd4 ct4 oc5 kV5 dc5 pm5 cd5 ct5 oc6 kV6 dc6 pm6 cd6 ct6 oc7 kV7 dc7 pm7 cd7 ct7 oc8 kV8 dc8 pm8 cd8 ct8 oc9 kV9 dc9 pm9 cd9 ct9 aaX abY acS Z5 Vz adg aaW abX acR Z4 Vy adf aaV abW acQ Z2 Vx ade aaU abV acP Z1 Vw adb aaT abU acO Z0 Vv ada aaS abT acN ZX Vu ac' aaR abS acM ZW Vt ac_ aaQ abR acL ZV Vs ac9 aaP abQ acK ZS Vr ac8 aaO abP acJ ZR Vq ac7 aaN abO acI ZQ Vp ac6 aaM abN acH ZP Vo ac5 aaL abM acG ZM Vn ac4 aaK abL acF ZL Vm ac3 aaJ abK acE ZK Vl ac2 aaI abJ acD ZJ Vk ac1 aaH abI acC ZG Vj ac0 aaG abH acB ZF Vi acZ aaF abG acA ZD Vh acY aaE abF acz ZC Vg acX aaD abE acy Zz Vf acW aaC abD acw Zy Ve acV aaB abC acv Zx Vd acU aaA abB acu Zw Vc acT aaz Ue U9 TF RJ U_:Value}
 (a0:PySem.W.nsIn K mainGlobals "_law_bag" = some (some (.ref f0))) (l0:K.lookup f0=some ⟨oc0,od0,.func (PySem.W.fnOf "_law_bag" "_law_bag" (aH j8) (aF j8) (aq j8) .none kV0 dc0 pm0 an0 cd0 ct0),sl0⟩) (c0:PySem.W.codeIn K cd0 "_law_bag" = true) (k0:PySem.W.keepIn K (.ref f0)=true)
 (a1:PySem.W.nsIn K mainGlobals "_law_stir" = some (some (.ref f1))) (l1:K.lookup f1=some ⟨oc1,od1,.func (PySem.W.fnOf "_law_stir" "_law_stir" (aH jd) (aF jd) (aq jd) .none kV1 dc1 pm1 an1 cd1 ct1),Qg⟩) (c1:PySem.W.codeIn K cd1 "_law_stir" = true) (k1:PySem.W.keepIn K (.ref f1)=true)
 (a2:PySem.W.nsIn K mainGlobals "_law_draw" = some (some (.ref f2))) (l2:K.lookup f2=some ⟨oc2,od2,.func (PySem.W.fnOf "_law_draw" "_law_draw" (aH je) (aF je) (aq je) .none kV2 dc2 pm2 an2 cd2 ct2),sl2⟩) (c2:PySem.W.codeIn K cd2 "_law_draw" = true) (k2:PySem.W.keepIn K (.ref f2)=true)
 (a3:PySem.W.nsIn K mainGlobals "_law_hands" = some (some (.ref f3))) (l3:K.lookup f3=some ⟨oc3,od3,.func (PySem.W.fnOf "_law_hands" "_law_hands" (aH gG) (aF gG) (aq gG) .none kV3 dc3 pm3 an3 cd3 ct3),sl3⟩) (c3:PySem.W.codeIn K cd3 "_law_hands" = true) (k3:PySem.W.keepIn K (.ref f3)=true)
 (a4:PySem.W.nsIn K mainGlobals "_law_touch" = some (some (.ref f4))) (l4:K.lookup f4=some ⟨oc4,od4,.func (PySem.W.fnOf "_law_touch" "_law_touch" (aH gD) (aF gD) (aq gD) .none kV4 dc4 pm4 an4 cd4 ct4),sl4⟩) (c4:PySem.W.codeIn K cd4 "_law_touch" = true) (k4:PySem.W.keepIn K (.ref f4)=true)
 (a5:PySem.W.nsIn K mainGlobals "_law_touches" = some (some (.ref f5))) (l5:K.lookup f5=some ⟨oc5,od5,.func (PySem.W.fnOf "_law_touches" "_law_touches" (aH dR) (aF dR) (aq dR) .none kV5 dc5 pm5 an5 cd5 ct5),sl5⟩) (c5:PySem.W.codeIn K cd5 "_law_touches" = true) (k5:PySem.W.keepIn K (.ref f5)=true)
 (a6:PySem.W.nsIn K mainGlobals "touches_meet" = some (some (.ref f6))) (l6:K.lookup f6=some ⟨oc6,od6,.func (PySem.W.fnOf "touches_meet" "touches_meet" (aH bQ) (aF bQ) (aq bQ) .none kV6 dc6 pm6 an6 cd6 ct6),sl6⟩) (c6:PySem.W.codeIn K cd6 "touches_meet" = true) (k6:PySem.W.keepIn K (.ref f6)=true)
 (a7:PySem.W.nsIn K mainGlobals "is_step" = some (some (.ref f7))) (l7:K.lookup f7=some ⟨oc7,od7,.func (PySem.W.fnOf "is_step" "is_step" (aH eY) (aF eY) (aq eY) .none kV7 dc7 pm7 an7 cd7 ct7),sl7⟩) (c7:PySem.W.codeIn K cd7 "is_step" = true) (k7:PySem.W.keepIn K (.ref f7)=true)
 (a8:PySem.W.nsIn K mainGlobals "is_known" = some (some (.ref f8))) (l8:K.lookup f8=some ⟨oc8,od8,.func (PySem.W.fnOf "is_known" "is_known" (aH dN) (aF dN) (aq dN) .none kV8 dc8 pm8 an8 cd8 ct8),sl8⟩) (c8:PySem.W.codeIn K cd8 "is_known" = true) (k8:PySem.W.keepIn K (.ref f8)=true)
 (a9:PySem.W.nsIn K mainGlobals "learn" = some (some (.ref f9))) (l9:K.lookup f9=some ⟨oc9,od9,.func (PySem.W.fnOf "learn" "learn" (aH jc) (aF jc) (aq jc) .none kV9 dc9 pm9 an9 cd9 ct9),sl9⟩) (c9:PySem.W.codeIn K cd9 "learn" = true) (k9:PySem.W.keepIn K (.ref f9)=true)
 (a10:PySem.W.nsIn K mainGlobals "bare_steps" = some (some (.ref X7))) (l10:K.lookup X7=some ⟨aaX,aay,.func (PySem.W.fnOf "bare_steps" "bare_steps" (aH cO) (aF cO) (aq cO) .none abY acS Z5 ad4 Vz adg),Zc⟩) (c10:PySem.W.codeIn K Vz "bare_steps" = true) (k10:PySem.W.keepIn K (.ref X7)=true)
 (a11:PySem.W.nsIn K mainGlobals "notes_to" = some (some (.ref f11))) (l11:K.lookup f11=some ⟨aaW,aax,.func (PySem.W.fnOf "notes_to" "notes_to" (aH dJ) (aF dJ) (aq dJ) .none abX acR Z4 ad3 Vy adf),Zb⟩) (c11:PySem.W.codeIn K Vy "notes_to" = true) (k11:PySem.W.keepIn K (.ref f11)=true)
 (a12:PySem.W.nsIn K mainGlobals "names" = some (some (.ref X6))) (l12:K.lookup X6=some ⟨aaV,aaw,.func (PySem.W.fnOf "names" "names" (aH i_) (aF i_) (aq i_) .none abW acQ Z2 ad2 Vx ade),Za⟩) (c12:PySem.W.codeIn K Vx "names" = true) (k12:PySem.W.keepIn K (.ref X6)=true)
 (a13:PySem.W.nsIn K mainGlobals "notes" = some (some (.ref X5))) (l13:K.lookup X5=some ⟨aaU,aav,.func (PySem.W.fnOf "notes" "notes" (aH iZ) (aF iZ) (aq iZ) .none abV acP Z1 ad1 Vw adb),Y_⟩) (c13:PySem.W.codeIn K Vw "notes" = true) (k13:PySem.W.keepIn K (.ref X5)=true)
 (a14:PySem.W.nsIn K mainGlobals "_law_table" = some (some (.ref X4))) (l14:K.lookup X4=some ⟨aaT,aau,.func (PySem.W.fnOf "_law_table" "_law_table" (aH gF) (aF gF) (aq gF) .none abU acO Z0 ad0 Vv ada),Y9⟩) (c14:PySem.W.codeIn K Vv "_law_table" = true) (k14:PySem.W.keepIn K (.ref X4)=true)
 (a15:PySem.W.nsIn K mainGlobals "is_whole" = some (some (.ref X3))) (l15:K.lookup X3=some ⟨aaS,aat,.func (PySem.W.fnOf "is_whole" "is_whole" (aH dM) (aF dM) (aq dM) .none abT acN ZX adZ Vu ac'),Y8⟩) (c15:PySem.W.codeIn K Vu "is_whole" = true) (Xk:PySem.W.keepIn K (.ref X3)=true)
 (a16:PySem.W.nsIn K mainGlobals "is_below" = some (some (.ref XS))) (l16:K.lookup XS=some ⟨aaR,aas,.func (PySem.W.fnOf "is_below" "is_below" (aH dO) (aF dO) (aq dO) .none abS acM ZW adY Vt ac_),Y7⟩) (c16:PySem.W.codeIn K Vt "is_below" = true) (Xj:PySem.W.keepIn K (.ref XS)=true)
 (a17:PySem.W.nsIn K mainGlobals "is_note" = some (some (.ref XR))) (l17:K.lookup XR=some ⟨aaQ,aar,.func (PySem.W.fnOf "is_note" "is_note" (aH eZ) (aF eZ) (aq eZ) .none abR acL ZV adX Vs ac9),Y6⟩) (c17:PySem.W.codeIn K Vs "is_note" = true) (Xi:PySem.W.keepIn K (.ref XR)=true)
 (a18:PySem.W.nsIn K mainGlobals "is_between" = some (some (.ref XQ))) (l18:K.lookup XQ=some ⟨aaP,aaq,.func (PySem.W.fnOf "is_between" "is_between" (aH cJ) (aF cJ) (aq cJ) .none abQ acK ZS adW Vr ac8),Y5⟩) (c18:PySem.W.codeIn K Vr "is_between" = true) (Xh:PySem.W.keepIn K (.ref XQ)=true)
 (a19:PySem.W.nsIn K mainGlobals "check_notes" = some (some (.ref XM))) (l19:K.lookup XM=some ⟨aaO,aap,.func (PySem.W.fnOf "check_notes" "check_notes" (aH cj) (aF cj) (aq cj) .none abP acJ ZR adV Vq ac7),Y4⟩) (c19:PySem.W.codeIn K Vq "check_notes" = true) (Xg:PySem.W.keepIn K (.ref XM)=true)
 (a20:PySem.W.nsIn K mainGlobals "check_done" = some (some (.ref XJ))) (l20:K.lookup XJ=some ⟨aaN,aao,.func (PySem.W.fnOf "check_done" "check_done" (aH cN) (aF cN) (aq cN) .none abO acI ZQ adU Vp ac6),Y0⟩) (c20:PySem.W.codeIn K Vp "check_done" = true) (Xf:PySem.W.keepIn K (.ref XJ)=true)
 (a21:PySem.W.nsIn K mainGlobals "has" = some (some (.ref XH))) (l21:K.lookup XH=some ⟨aaM,aan,.func (PySem.W.fnOf "has" "has" (aH oJ) (aF oJ) (aq oJ) .none abN acH ZP adT Vo ac5),YZ⟩) (c21:PySem.W.codeIn K Vo "has" = true) (Xe:PySem.W.keepIn K (.ref XH)=true)
 (a22:PySem.W.nsIn K mainGlobals "broken_notes" = some (some (.ref XF))) (l22:K.lookup XF=some ⟨aaL,aam,.func (PySem.W.fnOf "broken_notes" "broken_notes" (aH bT) (aF bT) (aq bT) .none abM acG ZM adS Vn ac4),YX⟩) (c22:PySem.W.codeIn K Vn "broken_notes" = true) (Xd:PySem.W.keepIn K (.ref XF)=true)
 (a23:PySem.W.nsIn K mainGlobals "is_cut" = some (some (.ref XD))) (l23:K.lookup XD=some ⟨aaK,aal,.func (PySem.W.fnOf "is_cut" "is_cut" (aH gB) (aF gB) (aq gB) .none abL acF ZL adR Vm ac3),YW⟩) (c23:PySem.W.codeIn K Vm "is_cut" = true) (Xc:PySem.W.keepIn K (.ref XD)=true)
 (a24:PySem.W.nsIn K mainGlobals "least_cut" = some (some (.ref XC))) (l24:K.lookup XC=some ⟨aaJ,aak,.func (PySem.W.fnOf "least_cut" "least_cut" (aH dh) (aF dh) (aq dh) .none abK acE ZK adQ Vl ac2),YT⟩) (c24:PySem.W.codeIn K Vl "least_cut" = true) (Xb:PySem.W.keepIn K (.ref XC)=true)
 (a25:PySem.W.nsIn K mainGlobals "record_of" = some (some (.ref Xz))) (l25:K.lookup Xz=some ⟨aaI,aaj,.func (PySem.W.fnOf "record_of" "record_of" (aH cZ) (aF cZ) (aq cZ) .none abJ acD ZJ adP Vk ac1),YS⟩) (c25:PySem.W.codeIn K Vk "record_of" = true) (Xa:PySem.W.keepIn K (.ref Xz)=true)
 (a26:PySem.W.nsIn K mainGlobals "counted_from" = some (some (.ref Xy))) (l26:K.lookup Xy=some ⟨aaH,aai,.func (PySem.W.fnOf "counted_from" "counted_from" (aH bR) (aF bR) (aq bR) .none abI acC ZG adO Vj ac0),YQ⟩) (c26:PySem.W.codeIn K Vj "counted_from" = true) (W_:PySem.W.keepIn K (.ref Xy)=true)
 (a27:PySem.W.nsIn K mainGlobals "cut_record" = some (some (.ref Xx))) (l27:K.lookup Xx=some ⟨aaG,aah,.func (PySem.W.fnOf "cut_record" "cut_record" (aH cL) (aF cL) (aq cL) .none abH acB ZF adN Vi acZ),YM⟩) (c27:PySem.W.codeIn K Vi "cut_record" = true) (W6:PySem.W.keepIn K (.ref Xx)=true)
 (a28:PySem.W.nsIn K mainGlobals "places_of" = some (some (.ref Xw))) (l28:K.lookup Xw=some ⟨aaF,aag,.func (PySem.W.fnOf "places_of" "places_of" (aH dg) (aF dg) (aq dg) .none abG acA ZD adM Vh acY),YL⟩) (c28:PySem.W.codeIn K Vh "places_of" = true) (W4:PySem.W.keepIn K (.ref Xw)=true)
 (a29:PySem.W.nsIn K mainGlobals "across" = some (some (.ref Xv))) (l29:K.lookup Xv=some ⟨aaE,aaf,.func (PySem.W.fnOf "across" "across" (aH gC) (aF gC) (aq gC) .none abF acz ZC adL Vg acX),YK⟩) (c29:PySem.W.codeIn K Vg "across" = true) (W3:PySem.W.keepIn K (.ref Xv)=true)
 (a30:PySem.W.nsIn K mainGlobals "_law_alike" = some (some (.ref NK))) (l30:K.lookup NK=some ⟨aaD,aae,.func (PySem.W.fnOf "_law_alike" "_law_alike" (aH fL) (aF fL) (aq fL) .none abE acy Zz adK Vf acW),YJ⟩) (c30:PySem.W.codeIn K Vf "_law_alike" = true) (Nj:PySem.W.keepIn K (.ref NK)=true)
 (a31:PySem.W.nsIn K mainGlobals "_law_counts" = some (some (.ref Xu))) (l31:K.lookup Xu=some ⟨aaC,aad,.func (PySem.W.fnOf "_law_counts" "_law_counts" (aH fu) (aF fu) (aq fu) .none abD acw Zy adJ Ve acV),YH⟩) (c31:PySem.W.codeIn K Ve "_law_counts" = true) (W2:PySem.W.keepIn K (.ref Xu)=true)
 (a32:PySem.W.nsIn K mainGlobals "_law_closed" = some (some (.ref f32))) (l32:K.lookup f32=some ⟨aaB,aac,.func (PySem.W.fnOf "_law_closed" "_law_closed" (aH fB) (aF fB) (aq fB) .none abC acv Zx adI Vd acU),YG⟩) (c32:PySem.W.codeIn K Vd "_law_closed" = true) (W0:PySem.W.keepIn K (.ref f32)=true)
 (a33:PySem.W.nsIn K mainGlobals "_law_parted" = some (some (.ref Xr))) (l33:K.lookup Xr=some ⟨aaA,Z_,.func (PySem.W.fnOf "_law_parted" "_law_parted" (aH fj) (aF fj) (aq fj) .none abB acu Zw adH Vc acT),YF⟩) (c33:PySem.W.codeIn K Vc "_law_parted" = true) (WY:PySem.W.keepIn K (.ref Xr)=true)
 (a34:PySem.W.nsIn K mainGlobals "law" = some (some (.ref f34))) (l34:K.lookup f34=some ⟨aaz,Z9,.func (PySem.W.fnOf "law" "law" (aH oH) (aF oH) (aq oH) .none Ue U9 TF VB RJ U_),YD⟩) (c34:PySem.W.codeIn K RJ "law" = true) (k34:PySem.W.keepIn K (.ref f34)=true)
 {u5:Tok} (kE:PySem.W.nsIn K mainGlobals "MOST_HANDS" = some (some (.int 8 u5)))
 (j4:PySem.W.nsIn K mainGlobals "ValueError" = some none) (Ik:PySem.W.nsIn K mainGlobals "all" = some none) (Aw:PySem.W.nsIn K mainGlobals "bool" = some none) (lG:PySem.W.nsIn K mainGlobals "enumerate" = some none) (Ij:PySem.W.nsIn K mainGlobals "int" = some none) (jZ:PySem.W.nsIn K mainGlobals "isinstance" = some none) (Ii:PySem.W.nsIn K mainGlobals "len" = some none) (Av:PySem.W.nsIn K mainGlobals "list" = some none) (Ih:PySem.W.nsIn K mainGlobals "max" = some none) (Ig:PySem.W.nsIn K mainGlobals "min" = some none) (vX:PySem.W.nsIn K mainGlobals "range" = some none) (rK:PySem.W.nsIn K mainGlobals "sorted" = some none) (Ie:PySem.W.nsIn K mainGlobals "sum" = some none) (vW:PySem.W.nsIn K mainGlobals "tuple" = some none) (Ib:PySem.W.nsIn K mainGlobals "zip" = some none):
 ∃fd:FuncData,(∀(s:Shared) (v:Value),BindsTo s fd ⟨[v],[]⟩ [("script",v)]) /\ ∀base:Heap,K.In base->base.Ns mainGlobals mg->cY l.prog w K mg base jM 7 fa fd ["script"] (Dw K):=by
 have e:=hfa.symm.trans (PySem.W.mg_of X G a34);cases e;have Bt:qI mg:=⟨PySem.W.mg_none_of X G j4,PySem.W.mg_none_of X G Ik,PySem.W.mg_none_of X G Aw,PySem.W.mg_none_of X G lG,PySem.W.mg_none_of X G Ij,PySem.W.mg_none_of X G jZ,PySem.W.mg_none_of X G Ii,PySem.W.mg_none_of X G Av,PySem.W.mg_none_of X G Ih,PySem.W.mg_none_of X G Ig,PySem.W.mg_none_of X G vX,PySem.W.mg_none_of X G rK,PySem.W.mg_none_of X G Ie,PySem.W.mg_none_of X G vW,PySem.W.mg_none_of X G Ib⟩;have jf:Gv mg "MOST_HANDS" (.int 8):=⟨_,PySem.W.mg_of X G kE,⟨_,rfl⟩⟩;have F0:=bF (st:=j8) l0 c0 k0;have F1:=bF (st:=jd) l1 c1 k1;have F2:=bF (st:=je) l2 c2 k2;have F3:=bF (st:=gG) l3 c3 k3;have F4:=bF (st:=gD) l4 c4 k4;have F5:=bF (st:=dR) l5 c5 k5;have F6:=bF (st:=bQ) l6 c6 k6;have F7:=bF (st:=eY) l7 c7 k7;have F8:=bF (st:=dN) l8 c8 k8;have F9:=bF (st:=jc) l9 c9 k9;have F10:=bF (st:=cO) l10 c10 k10;have F11:=bF (st:=dJ) l11 c11 k11;have F12:=bF (st:=i_) l12 c12 k12;have F13:=bF (st:=iZ) l13 c13 k13;have F14:=bF (st:=gF) l14 c14 k14;have F15:=bF (st:=dM) l15 c15 Xk;have F16:=bF (st:=dO) l16 c16 Xj;have F17:=bF (st:=eZ) l17 c17 Xi;have F18:=bF (st:=cJ) l18 c18 Xh;have F19:=bF (st:=cj) l19 c19 Xg;have F20:=bF (st:=cN) l20 c20 Xf;have F21:=bF (st:=oJ) l21 c21 Xe;have F22:=bF (st:=bT) l22 c22 Xd;have F23:=bF (st:=gB) l23 c23 Xc;have F24:=bF (st:=dh) l24 c24 Xb;have F25:=bF (st:=cZ) l25 c25 Xa;have F26:=bF (st:=bR) l26 c26 W_;have F27:=bF (st:=cL) l27 c27 W6;have F28:=bF (st:=dg) l28 c28 W4;have F29:=bF (st:=gC) l29 c29 W3;have F30:=bF (st:=fL) l30 c30 Nj;have F31:=bF (st:=fu) l31 c31 W2;have F32:=bF (st:=fB) l32 c32 W0;have F33:=bF (st:=fj) l33 c33 WY;have F34:=bF (st:=oH) l34 c34 k34;refine ⟨PySem.W.fnOf "law" "law" (aH oH) (aF oH) (aq oH) .none Ue U9 TF VB RJ U_,fun s v=> .of_eq rfl,fun base _ _=> ?_⟩;have A0:FnAt l.prog w K mg base 1 "_law_bag" ["script"] (I_ K):=⟨f0,_,QD F0 Bt,PySem.W.mg_of X G a0,k0,F0.binds (ps:=["script"]) Og⟩;have A1:FnAt l.prog w K mg base 1 "_law_stir" ["number","place"] (Bh K):=⟨f1,_,Mu F1,PySem.W.mg_of X G a1,k1,F1.binds (ps:=["number","place"]) KD⟩;have A2:FnAt l.prog w K mg base 2 "_law_draw" ["bag","many"] (pK K):=⟨f2,_,Mw F2 A1 Bt,PySem.W.mg_of X G a2,k2,F2.binds (ps:=["bag","many"]) KH⟩;have A3:FnAt l.prog w K mg base 3 "_law_hands" ["bag"] (wz K):=⟨f3,_,JH F3 A2,PySem.W.mg_of X G a3,k3,F3.binds (ps:=["bag"]) Ht⟩;have A4:FnAt l.prog w K mg base 3 "_law_touch" ["bag","hands","cells","loads","apart"] (v7 K):=⟨f4,_,Jy F4 A2 Bt,PySem.W.mg_of X G a4,k4,F4.binds (ps:=["bag","hands","cells","loads","apart"]) Hr⟩;have A5:FnAt l.prog w K mg base 4 "_law_touches" ["bag","hands"] (pH K):=⟨f5,_,BL F5 A2 A4 Bt,PySem.W.mg_of X G a5,k5,F5.binds (ps:=["bag","hands"]) Ac⟩;have A6:FnAt l.prog w K mg base 1 "touches_meet" ["one","other"] (Qe K):=⟨f6,_,qM F6,PySem.W.mg_of X G a6,k6,F6.binds (ps:=["one","other"]) qT⟩;have A7:FnAt l.prog w K mg base 2 "is_step" ["web","place","later"] (Bj K):=⟨f7,_,BW F7 A6,PySem.W.mg_of X G a7,k7,F7.binds (ps:=["web","place","later"]) C_⟩;have A8:FnAt l.prog w K mg base 1 "is_known" ["name","known"] (wk K):=⟨f8,_,JG F8,PySem.W.mg_of X G a8,k8,F8.binds (ps:=["name","known"]) Aa⟩;have A9:FnAt l.prog w K mg base 1 "learn" ["known","more"] (wj K):=⟨f9,_,JF F9 Bt,PySem.W.mg_of X G a9,k9,F9.binds (ps:=["known","more"]) KC⟩;have A10:FnAt l.prog w K mg base 3 "bare_steps" ["web","named","knowns","place"] (Bl K):=⟨X7,_,Mz F10 A7 A8 A9 Bt,PySem.W.mg_of X G a10,k10,F10.binds (ps:=["web","named","knowns","place"]) vd⟩;have A11:FnAt l.prog w K mg base 1 "notes_to" ["named","bare","name"] (pI K):=⟨f11,_,BP F11,PySem.W.mg_of X G a11,k11,F11.binds (ps:=["named","bare","name"]) z9⟩;have A12:FnAt l.prog w K mg base 1 "names" ["web"] (rm K):=⟨X6,_,JC F12,PySem.W.mg_of X G a12,k12,F12.binds (ps:=["web"]) Kz⟩;have A13:FnAt l.prog w K mg base 4 "notes" ["web"] (q_ K):=⟨X5,_,JB F13 A12 A10 A11 Bt,PySem.W.mg_of X G a13,k13,F13.binds (ps:=["web"]) Ky⟩;have A14:FnAt l.prog w K mg base 1 "_law_table" ["touches","hands"] (rW K):=⟨X4,_,Gg F14 Bt,PySem.W.mg_of X G a14,k14,F14.binds (ps:=["touches","hands"]) Hs⟩;have A15:FnAt l.prog w K mg base 1 "is_whole" ["value"] (IW K):=⟨X3,_,yR F15 Bt,PySem.W.mg_of X G a15,Xk,F15.binds (ps:=["value"]) z_⟩;have A16:FnAt l.prog w K mg base 2 "is_below" ["value","count"] (oE K):=⟨XS,_,yS F16 A15,PySem.W.mg_of X G a16,Xj,F16.binds (ps:=["value","count"]) Ab⟩;have A17:FnAt l.prog w K mg base 2 "is_note" ["value"] (rT K):=⟨XR,_,BX F17 A15 Bt,PySem.W.mg_of X G a17,Xi,F17.binds (ps:=["value"]) Dd⟩;have A18:FnAt l.prog w K mg base 3 "is_between" ["counts","note"] (pL K):=⟨XQ,_,uU F18 A16 A17 Bt,PySem.W.mg_of X G a18,Xh,F18.binds (ps:=["counts","note"]) u6⟩;have A19:FnAt l.prog w K mg base 4 "check_notes" ["record"] (oh K):=⟨XM,_,sW F19 A18 Bt,PySem.W.mg_of X G a19,Xg,F19.binds (ps:=["record"]) uD⟩;have A20:FnAt l.prog w K mg base 3 "check_done" ["record","done"] (ou K):=⟨XJ,_,uV F20 A16 Bt,PySem.W.mg_of X G a20,Xf,F20.binds (ps:=["record","done"]) u_⟩;have A21:FnAt l.prog w K mg base 1 "has" ["done","touch"] (Dy K):=⟨XH,_,QC F21,PySem.W.mg_of X G a21,Xe,F21.binds (ps:=["done","touch"]) RL⟩;have A22:FnAt l.prog w K mg base 2 "broken_notes" ["record","done"] (oA K):=⟨XF,_,Gh F22 A21 Bt,PySem.W.mg_of X G a22,Xd,F22.binds (ps:=["record","done"]) qW⟩;have A23:FnAt l.prog w K mg base 5 "is_cut" ["record","cut"] (wu K):=⟨XD,_,Gf F23 A19 A20 A22 Bt,PySem.W.mg_of X G a23,Xc,F23.binds (ps:=["record","cut"]) Ho⟩;have A24:FnAt l.prog w K mg base 5 "least_cut" ["record","some"] (wg K):=⟨XC,_,JD F24 A19 A20 A22 Bt,PySem.W.mg_of X G a24,Xb,F24.binds (ps:=["record","some"]) xM⟩;have A25:FnAt l.prog w K mg base 5 "record_of" ["hands","web"] (v9 K):=⟨Xz,_,Jz F25 A15 A16 A13 jf Bt,PySem.W.mg_of X G a25,Xa,F25.binds (ps:=["hands","web"]) xJ⟩;have A26:FnAt l.prog w K mg base 1 "counted_from" ["cut","note"] (Bk K):=⟨Xy,_,Mv F26,PySem.W.mg_of X G a26,W_,F26.binds (ps:=["cut","note"]) qU⟩;have A27:FnAt l.prog w K mg base 6 "cut_record" ["record","cut"] (wA K):=⟨Xx,_,Mx F27 A23 A21 A26 Bt,PySem.W.mg_of X G a27,W6,F27.binds (ps:=["record","cut"]) u9⟩;have A28:FnAt l.prog w K mg base 2 "places_of" ["web"] (rR K):=⟨Xw,_,Ge F28 A12 Bt,PySem.W.mg_of X G a28,W4,F28.binds (ps:=["web"]) xK⟩;have A29:FnAt l.prog w K mg base 5 "across" ["one","other"] (rY K):=⟨Xv,_,Gj F29 A28 A13 Bt,PySem.W.mg_of X G a29,W3,F29.binds (ps:=["one","other"]) Hq⟩;have VP:FnAt l.prog w K mg base 1 "_law_alike" ["found","due"] (ig 0 K):=⟨NK,_,Gi F30,PySem.W.mg_of X G a30,Nj,F30.binds (ps:=["found","due"]) jk⟩;have VN:FnAt l.prog w K mg base 2 "_law_alike" ["found","due"] (ig 1 K):=⟨NK,_,jR (n:=0) F30 VP Bt,PySem.W.mg_of X G a30,Nj,F30.binds (ps:=["found","due"]) jk⟩;have VL:FnAt l.prog w K mg base 3 "_law_alike" ["found","due"] (ig 2 K):=⟨NK,_,jR (n:=1) F30 VN Bt,PySem.W.mg_of X G a30,Nj,F30.binds (ps:=["found","due"]) jk⟩;have VJ:FnAt l.prog w K mg base 4 "_law_alike" ["found","due"] (ig 3 K):=⟨NK,_,jR (n:=2) F30 VL Bt,PySem.W.mg_of X G a30,Nj,F30.binds (ps:=["found","due"]) jk⟩;have VH:FnAt l.prog w K mg base 5 "_law_alike" ["found","due"] (ig 4 K):=⟨NK,_,jR (n:=3) F30 VJ Bt,PySem.W.mg_of X G a30,Nj,F30.binds (ps:=["found","due"]) jk⟩;have A30:FnAt l.prog w K mg base 6 "_law_alike" ["found","due"] (ig 5 K):=⟨NK,_,jR (n:=4) F30 VH Bt,PySem.W.mg_of X G a30,Nj,F30.binds (ps:=["found","due"]) jk⟩;have A31:FnAt l.prog w K mg base 1 "_law_counts" ["web","hands"] (pJ K):=⟨Xu,_,BR F31 Bt,PySem.W.mg_of X G a31,W2,F31.binds (ps:=["web","hands"]) Dg⟩;have A32:FnAt l.prog w K mg base 1 "_law_closed" ["web","rows","some"] (nQ K):=⟨f32,_,yU F32 Bt,PySem.W.mg_of X G a32,W0,F32.binds (ps:=["web","rows","some"]) Dh⟩;have A33:FnAt l.prog w K mg base 1 "_law_parted" ["web","cut"] (nP K):=⟨Xr,_,yQ F33 Bt,PySem.W.mg_of X G a33,WY,F33.binds (ps:=["web","cut"]) Df⟩;exact QB F34 A0 A2 A3 A5 A14 A31 A32 A33 A25 A24 A27 A29 A30 Bt
theorem walk {l:PySem.W.OpenLaw} {q:Program} {loose:List Str} {XP:(Str->Option Value)->Heap->Prop} {YP:World->Heap->Prop} {d:DefRec} {K:Params->PySem.W.Frag} (hn:l.most=some 63) (hdf:d.params.defaults=[])
 (hY:∀(w:World) (h:Heap),YP w h->(K w.params).In h)
 (F:∀(w:World) (mg:Str->Option Value) (fa:Addr) (h:Heap),(K w.params).In h->h.Ns mainGlobals mg->mg d.name=some (.ref fa) ->
   ∃fd:FuncData,(∀(s:Shared) (u:Value),BindsTo s fd ⟨[u],[]⟩ [("script",u)]) /\ ∀base:Heap,(K w.params).In base->base.Ns mainGlobals mg->cY l.prog w (K w.params) mg base jM 7 fa fd ["script"] (Dw (K w.params))):
 PySem.W.WalkO q loose XP YP l.row.toRowW d [] (fun f vs=>PySem.call f vs):=
 L2.Ln (n:=63) (k:=7) (x:= "script") (CX:=fun _=>jM) (sp:=fun w=>Dw (K w.params)) hn (by decide) hdf ⟨rfl,by decide,by decide⟩ hY F (fun _ _ a ns hl _ hS=>⟨a,ns,rfl,hS,hl,fun _=>rfl⟩) fun _ _ _ _ _ z=>z
end Prf
namespace PySem.W.Fast
def tw13766827603834933414:=()
def tw17890693280752648646:=()
def tw1828782213383695133:=()
def tw9813494549741739396:=()
def tw14383019632884117744:=()
def tw12191190967089909895:=()
def tw13344879757995193689:=()
def tw6104665282266829604:=()
def tw10935659898637006267:=()
def tw17767408383558087678:=()
def tw11990862717826003038:=()
def tw6033258961673532500:=()
def tw9248921072602557719:=()
def tw11084282421924083216:=()
def tw2462416332081038020:=()
def tw8807201178080675272:=()
def tw2065747773524915295:=()
def tw2471294415438396506:=()
def tw7871126496397502778:=()
def tw4441438782968942521:=()
def tw489573889845582323:=()
def tw15346805789151281140:=()
def tw12356363092723542523:=()
def tw2668305287297630412:=()
def tw11399498883162185167:=()
def tw4975210662145149695:=()
def tw9251194257301279075:=()
def tw10220287514444728193:=()
def tw16939635221275154715:=()
def tw7889867085712575795:=()
def tw4295643280874294780:=()
def tw5097065458976023982:=()
def tw13008125547480810798:=()
def tw17197487535103671412:=()
def tw15800656052308076345:=()
def tw12525960861161876525:=()
def tw15757519358353198250:=()
def tw294801771459234969:=()
def tw10937551330190017915:=()
def tw12744127142639874695:=()
def tw6426577775375559813:=()
def tw6530770590508796564:=()
def tw14664238686797465026:=()
def tw18382180439328642447:=()
def tw5117409938228038235:=()
def tw2796305142598211923:=()
def tw9918302699955671191:=()
def tw17383214812203102713:=()
def tw15458344425621803523:=()
def tw16802388861419359045:=()
def tw5721644816516455898:=()
def tw16366287214371981342:=()
def tw530687526372973274:=()
def tw6931262508240983866:=()
def tw6774947298535605649:=()
def tw14262874325078128182:=()
def tw3273909890031920610:=()
def tw12952958958208358979:=()
def tw17565604683055336696:=()
def tw7734031262835017397:=()
def tw14987881762812945854:=()
def tw9616111557764456066:=()
def tw9223871566814566014:=()
def tw18133725967823892409:=()
def tw2776433507665373657:=()
def tw4489563384434673844:=()
def tw13204230635950034169:=()
def tw884041342003776545:=()
def tw170975363141728377:=()
def tw6040067759123848038:=()
def tw2700222129247557771:=()
def tw7130549023089185473:=()
def tw3308393267362981625:=()
def tw5270120373312085572:=()
def tw3923350711992259494:=()
def tw12387885393019962409:=()
def tw1895193108856170305:=()
def tw9052538489666355046:=()
def tw17415071713718403207:=()
def tw10442569935744508795:=()
def tw6639888798472432976:=()
def tw3993633426311952773:=()
def tw11917786231109507807:=()
def tw12119036392099813370:=()
def tw6597704920372941381:=()
def tw2363928688449302117:=()
def tw2844331686909561248:=()
def tw4330029494753990505:=()
def tw14224379687925924351:=()
def tw5836839602028630815:=()
def tw3401932187650404071:=()
def tw5929750025913474821:=()
def tw2091008053587399008:=()
def tw6795567234930049680:=()
def tw8237436469973019123:=()
def tw13709545548046595082:=()
def tw4397885029167436946:=()
def tw1267745732247940251:=()
def tw16562849752607454684:=()
def tw13749162293247408696:=()
def tw15487581665462951261:=()
def tw1968182302535659663:=()
def tw18007329075983432553:=()
def tw10356052967344194519:=()
def tw10394485074507522840:=()
def tw13054604198030834873:=()
def tw6915894477962794146:=()
def tw11393058039830712442:=()
def tw15457017665826878389:=()
def tw14814483139227006274:=()
def tw7057618937952191180:=()
def tw17921427820329068868:=()
def tw4622991572896181597:=()
def tw13604678037681156511:=()
def tw2956683142846545306:=()
def tw6778624922788330707:=()
def tw12776964133361230522:=()
def tw9492055375426009210:=()
def tw5557329295368462996:=()
def tw15455732180252871056:=()
def tw3134712951849068681:=()
def tw6968108493281677561:=()
def tw11010681575241271976:=()
def tw11157036342132154193:=()
def tw4582579269329519582:=()
def tw4243660938835196884:=()
def tw5536808353391236688:=()
def tw11323026040733572197:=()
def tw4707767119897356141:=()
def tw8258489355047724402:=()
def tw14437164827319996445:=()
def tw16067451516977079999:=()
def tw11037870747512187636:=()
def tw16830964302819206731:=()
def tw14494638516417402992:=()
def tw5389641496563040203:=()
def tw17319215487355246719:=()
def tw4911893118536747727:=()
def tw2927246035284409764:=()
def tw17147991306895710254:=()
def tw490390275956802484:=()
def tw3780211134784534775:=()
def tw16947926097383466972:=()
def tw11798168973243066942:=()
def tw13046855089212073561:=()
def tw10118139598511461669:=()
def tw8778616378192033482:=()
def tw14670402428339718362:=()
def tw14542452981983823310:=()
def tw4435354765008716633:=()
def tw5907151161259112891:=()
def tw2836440685391007660:=()
def tw15052946557949986387:=()
def tw2601934080895392340:=()
def tw7324553613098071723:=()
def tw14605250143316936570:=()
def tw15537112213553874556:=()
def tw11031706892320544592:=()
def tw4922539120985419910:=()
def tw8056333949012018728:=()
def tw7442904032007839242:=()
def tw7205470200278304776:=()
def tw15926452911375426666:=()
def tw7739550242252518592:=()
def tw6597225921281388664:=()
def tw14352807029349246632:=()
def tw9461137983742726465:=()
def tw7640130976134600607:=()
def tw7582144736521381177:=()
def tw17962110569543341270:=()
def tw628864260447167180:=()
def tw12362451090879675202:=()
def tw1975448620701431892:=()
def tw8098830114886406104:=()
def tw4586169332501399835:=()
def tw16708368265405059079:=()
def tw7076801270046094323:=()
def tw13283425831171249116:=()
def tw7367520782123389995:=()
def tw721324089486251375:=()
def tw9791774758466319605:=()
def tw16638839606557282319:=()
def tw13321835760298582445:=()
def tw8899490516692040264:=()
def tw2040029307813309862:=()
def tw13306793018522947793:=()
def tw15952720778000629601:=()
def tw7503290694647652735:=()
def tw10246734614560207320:=()
def tw276156690452799525:=()
def tw9039380430074934193:=()
def tw10976218404136428225:=()
def tw16917477604361935247:=()
def tw2206460064447539622:=()
def tw11817433039974007322:=()
def tw772934916563019818:=()
def tw9277724263310650430:=()
def tw14408229387586047917:=()
def tw10932599483695606623:=()
def tw13599412860217707301:=()
def tw6041618914997190536:=()
def tw7977110446651373855:=()
def tw14965464908276131619:=()
def tw5840920823156566366:=()
def tw12927842793348870746:=()
def tw1500653726206762656:=()
def tw11177187473579098911:=()
def tw10769263182637151422:=()
def tw15687303610250587780:=()
def tw13110335435301238108:=()
def tw3028210038614081688:=()
def tw14843052595559174049:=()
def tw8657696055558762664:=()
def tw12438608628197586455:=()
def tw13471777029482361263:=()
def tw1409550855199371420:=()
def tw15113361644325642865:=()
def tw4216125568191402881:=()
def tw11133010142014879232:=()
def tw3751711850600496344:=()
def tw10814759784325591559:=()
def tw1528769147772943556:=()
def tw14618560158532270248:=()
def tw11510727039315559527:=()
def tw5868649788838490463:=()
def tw17021823424715434459:=()
def tw16291622796677954156:=()
def tw1944311794767402294:=()
def tw11898006770191704983:=()
def tw14966471724719757913:=()
def tw12090287386833460003:=()
def tw11562219652364065294:=()
def tw13974903543307962781:=()
def tw12102747378104657169:=()
def tw5498710639585753310:=()
def tw3062116616945118789:=()
def tw18062882397621213127:=()
def tw7107033670561679235:=()
def tw3332312410398629395:=()
def tw3528939983348773597:=()
def tw17708558913480979477:=()
def tw12773106550821387602:=()
def tw5573234794528340608:=()
def tw8692149572348830796:=()
def tw15697183093571573035:=()
def tw13767787038217882353:=()
def tw3126461616487241029:=()
def tw330688986055202265:=()
def tw11645967468146130192:=()
def tw5503569614985803376:=()
def tw6212805334468602132:=()
def tw3772042389190473247:=()
def tw13715594351132896248:=()
def tw9348837461513386290:=()
def tw14644098001148559076:=()
def tw4295915868659644778:=()
def tw7703495580068258569:=()
def tw14272862049867239365:=()
def tw1182788825354720566:=()
def tw6219827957547159329:=()
def tw13485657606545472069:=()
def tw6674621112485771052:=()
end PySem.W.Fast
open PySem PySem.W PyProof.Rows
set_option maxRecDepth 100000 in
set_option maxHeartbeats 0 in
theorem PySem.Challenge.cw_fewnotes_k59_whole_cut_and_joined_holds : PySem.Challenge.rw_fewnotes_k59_whole_cut_and_joined.Holds := by
 w_on;o_law;k_head;(case hw=>w_witness2)
 k_fill
 refine Prf.walk (l:=PySem.Challenge.rw_fewnotes_k59_whole_cut_and_joined) rfl rfl (fun w h Y=>PySem.W.kIn_of Y) ?F
 case F=>
  intro w mg fa h KX G hmg
  replace hmg:mg (Str.ofString "law")=some (.ref fa):=hmg
  refine' Prf.all_mk KX G hmg ?a0 ?l0 ?c0 ?k0 ?a1 ?l1 ?c1 ?k1 ?a2 ?l2 ?c2 ?k2 ?a3 ?l3 ?c3 ?k3 ?a4 ?l4 ?c4 ?k4 ?a5 ?l5 ?c5 ?k5 ?a6 ?l6 ?c6 ?k6 ?a7 ?l7 ?c7 ?k7 ?a8 ?l8 ?c8 ?k8 ?a9 ?l9 ?c9 ?k9 ?a10 ?l10 ?c10 ?k10 ?a11 ?l11 ?c11 ?k11 ?a12 ?l12 ?c12 ?k12 ?a13 ?l13 ?c13 ?k13 ?a14 ?l14 ?c14 ?k14 ?a15 ?l15 ?c15 ?Xk ?a16 ?l16 ?c16 ?Xj ?a17 ?l17 ?c17 ?Xi ?a18 ?l18 ?c18 ?Xh ?a19 ?l19 ?c19 ?Xg ?a20 ?l20 ?c20 ?Xf ?a21 ?l21 ?c21 ?Xe ?a22 ?l22 ?c22 ?Xd ?a23 ?l23 ?c23 ?Xc ?a24 ?l24 ?c24 ?Xb ?a25 ?l25 ?c25 ?Xa ?a26 ?l26 ?c26 ?W_ ?a27 ?l27 ?c27 ?W6 ?a28 ?l28 ?c28 ?W4 ?a29 ?l29 ?c29 ?W3 ?a30 ?l30 ?c30 ?Nj ?a31 ?l31 ?c31 ?W2 ?a32 ?l32 ?c32 ?W0 ?a33 ?l33 ?c33 ?WY ?a34 ?l34 ?c34 ?k34 ?kE ?j4 ?Ik ?Aw ?lG ?Ij ?jZ ?Ii ?Av ?Ih ?Ig ?vX ?rK ?Ie ?vW ?Ib
  (case kE=>k_is)
  (case a0=>k_is)
  (case l0=>k_is)
  (case c0=>k_is)
  (case k0=>k_is)
  (case a1=>k_is)
  (case l1=>k_is)
  (case c1=>k_is)
  (case k1=>k_is)
  (case a2=>k_is)
  (case l2=>k_is)
  (case c2=>k_is)
  (case k2=>k_is)
  (case a3=>k_is)
  (case l3=>k_is)
  (case c3=>k_is)
  (case k3=>k_is)
  (case a4=>k_is)
  (case l4=>k_is)
  (case c4=>k_is)
  (case k4=>k_is)
  (case a5=>k_is)
  (case l5=>k_is)
  (case c5=>k_is)
  (case k5=>k_is)
  (case a6=>k_is)
  (case l6=>k_is)
  (case c6=>k_is)
  (case k6=>k_is)
  (case a7=>k_is)
  (case l7=>k_is)
  (case c7=>k_is)
  (case k7=>k_is)
  (case a8=>k_is)
  (case l8=>k_is)
  (case c8=>k_is)
  (case k8=>k_is)
  (case a9=>k_is)
  (case l9=>k_is)
  (case c9=>k_is)
  (case k9=>k_is)
  (case a10=>k_is)
  (case l10=>k_is)
  (case c10=>k_is)
  (case k10=>k_is)
  (case a11=>k_is)
  (case l11=>k_is)
  (case c11=>k_is)
  (case k11=>k_is)
  (case a12=>k_is)
  (case l12=>k_is)
  (case c12=>k_is)
  (case k12=>k_is)
  (case a13=>k_is)
  (case l13=>k_is)
  (case c13=>k_is)
  (case k13=>k_is)
  (case a14=>k_is)
  (case l14=>k_is)
  (case c14=>k_is)
  (case k14=>k_is)
  (case a15=>k_is)
  (case l15=>k_is)
  (case c15=>k_is)
  (case Xk=>k_is)
  (case a16=>k_is)
  (case l16=>k_is)
  (case c16=>k_is)
  (case Xj=>k_is)
  (case a17=>k_is)
  (case l17=>k_is)
  (case c17=>k_is)
  (case Xi=>k_is)
  (case a18=>k_is)
  (case l18=>k_is)
  (case c18=>k_is)
  (case Xh=>k_is)
  (case a19=>k_is)
  (case l19=>k_is)
  (case c19=>k_is)
  (case Xg=>k_is)
  (case a20=>k_is)
  (case l20=>k_is)
  (case c20=>k_is)
  (case Xf=>k_is)
  (case a21=>k_is)
  (case l21=>k_is)
  (case c21=>k_is)
  (case Xe=>k_is)
  (case a22=>k_is)
  (case l22=>k_is)
  (case c22=>k_is)
  (case Xd=>k_is)
  (case a23=>k_is)
  (case l23=>k_is)
  (case c23=>k_is)
  (case Xc=>k_is)
  (case a24=>k_is)
  (case l24=>k_is)
  (case c24=>k_is)
  (case Xb=>k_is)
  (case a25=>k_is)
  (case l25=>k_is)
  (case c25=>k_is)
  (case Xa=>k_is)
  (case a26=>k_is)
  (case l26=>k_is)
  (case c26=>k_is)
  (case W_=>k_is)
  (case a27=>k_is)
  (case l27=>k_is)
  (case c27=>k_is)
  (case W6=>k_is)
  (case a28=>k_is)
  (case l28=>k_is)
  (case c28=>k_is)
  (case W4=>k_is)
  (case a29=>k_is)
  (case l29=>k_is)
  (case c29=>k_is)
  (case W3=>k_is)
  (case a30=>k_is)
  (case l30=>k_is)
  (case c30=>k_is)
  (case Nj=>k_is)
  (case a31=>k_is)
  (case l31=>k_is)
  (case c31=>k_is)
  (case W2=>k_is)
  (case a32=>k_is)
  (case l32=>k_is)
  (case c32=>k_is)
  (case W0=>k_is)
  (case a33=>k_is)
  (case l33=>k_is)
  (case c33=>k_is)
  (case WY=>k_is)
  (case a34=>k_is)
  (case l34=>k_is)
  (case c34=>k_is)
  (case k34=>k_is)
  (case j4=>k_is)
  (case Ik=>k_is)
  (case Aw=>k_is)
  (case lG=>k_is)
  (case Ij=>k_is)
  (case jZ=>k_is)
  (case Ii=>k_is)
  (case Av=>k_is)
  (case Ih=>k_is)
  (case Ig=>k_is)
  (case vX=>k_is)
  (case rK=>k_is)
  (case Ie=>k_is)
  (case vW=>k_is)
  (case Ib=>k_is)
#print axioms PySem.Challenge.cw_fewnotes_k59_whole_cut_and_joined_holds
