import PyProof.Rows.All
import Wide.All
import OpenK.AllK
import Wide.FinOn
import Lean
import PyProof.EqAt
import PyProof.EqKinds
import PyProof.TupleCall
import PyProof.EqLayable
import PyProof.ExcArgsOwn
import PyProof.ExcAttrAll.Exception
import PyProof.RulesAs
import PyProof.ExcBaseAll.ValueError
import PyProof.NsDelKeeps
import KE.KRevSl
import OpenK.KOps
import OpenK.KWalk
import PyProof.TupleIter
import PyProof.ZipIter
import PyProof.InstNe
import PyProof.FactsAll.object_2
import PyProof.DictUpdate
import PyProof.DictTruth
import PyProof.DictDisplay
import KE.KLam
import KE.KNestM
import KE.KMinKey
import KE.KEqDict
import KE.KSortedM
import PyProof.NeKinds
import PySem.Challenge.RW_fewnotes_k13_twins_by_turns
set_option Elab.async false
set_option linter.all false
set_option maxRecDepth 100000
namespace L2
open PySem PySem.Spec PyProof.Rows
abbrev Key:=Sum Int Str
def Qf:Key->Value->Bool
 | .inl k,v=>Value.isInt k v
 | .inr x,v=>Value.isStrOf x v
def aaN (w:World):Key->Int
 | .inl k=>hashInt k
 | .inr x=>hashStr w x
theorem dJ:∀{k:Key} {v:Value},Qf k v=true->(∃i t,k=Sum.inl i/\v=Value.int i t)\/(∃x t,k=Sum.inr x/\v=Value.str x t)
 | .inl i,v,h=>by
   obtain ⟨t,e⟩:=Value.isInt_shape (k:=i) (v:=v) h;exact .inl ⟨i,t,rfl,e⟩
 | .inr x,v,h=>by
   obtain ⟨t,e⟩:=Value.isStrOf_shape (x:=x) (v:=v) h;exact .inr ⟨x,t,rfl,e⟩
theorem RX (a b:Int):decide ((Sum.inl a:Key)=Sum.inl b)=(a==b):=by
 by_cases e:a=b
 ·subst e;simp
 ·have h:¬(Sum.inl a:Key)=Sum.inl b:=fun q=>e (Sum.inl.inj q)
  rw [decide_eq_false h];exact (beq_eq_false_iff_ne.mpr e).symm
theorem RQ (a b:Str):decide ((Sum.inr a:Key)=Sum.inr b)=decide (a=b):=by
 by_cases e:a=b
 ·subst e;simp
 ·have h:¬(Sum.inr a:Key)=Sum.inr b:=fun q=>e (Sum.inr.inj q)
  rw [decide_eq_false h,decide_eq_false e]
theorem RW (a:Int) (b:Str):decide ((Sum.inl a:Key)=Sum.inr b)=false:=decide_eq_false (fun q=>nomatch q)
theorem RV (a:Str) (b:Int):decide ((Sum.inr a:Key)=Sum.inl b)=false:=decide_eq_false (fun q=>nomatch q)
def Eb (prog:Program) (w:World):PySem.KeyKind prog w Key where
 is:=Qf
 hash:=aaN w
 inj:=fun v a b ha hb=>by
  rcases dJ ha with ⟨i,t,rfl,rfl⟩|⟨x,t,rfl,rfl⟩
  ·rcases dJ hb with ⟨j,u,rfl,e⟩|⟨y,u,rfl,e⟩
   ·injection e with e1 _;rw [e1]
   ·exact nomatch e
  ·rcases dJ hb with ⟨j,u,rfl,e⟩|⟨y,u,rfl,e⟩
   ·exact nomatch e
   ·injection e with e1 _;rw [e1]
 byValue:=fun k v h=>by
  rcases dJ h with ⟨i,t,rfl,rfl⟩|⟨x,t,rfl,rfl⟩<;>rfl
 pyHash:=fun hv h=>by
  rcases dJ hv with ⟨i,t,rfl,rfl⟩|⟨x,t,rfl,rfl⟩
  ·exact wpAny_pyHash_int h
  ·exact wpAny_pyHash_str h
 eqBool:=fun hu hv h=>by
  rcases dJ hu with ⟨i,t,rfl,rfl⟩|⟨x,t,rfl,rfl⟩
  ·rcases dJ hv with ⟨j,u,rfl,rfl⟩|⟨y,u,rfl,rfl⟩
   ·rw [RX] at h;exact wpAny_eqBool_int h
   ·rw [RW] at h;exact SeqAt.EqAt.int_str i t y u _ _ _ _ h
  ·rcases dJ hv with ⟨j,u,rfl,rfl⟩|⟨y,u,rfl,rfl⟩
   ·rw [RV] at h;exact SeqAt.EqAt.str_int x t j u _ _ _ _ h
   ·rw [RQ] at h;exact wpAny_eqBool_str h
 «strs» :=fun k x t v h=>by
  rcases dJ h with ⟨i,u,rfl,e⟩|⟨y,u,rfl,e⟩
  ·exact nomatch e
  ·injection e with e1 _
   subst e1;cases v<;>rfl
end L2
namespace L2
open PySem PySem.Spec PyProof.Rows
inductive V where
 | non|bl (b:Bool)|int (i:Int)|str (x:Str)|GZ (b:Array UInt8)|flt (b:UInt64)|ref (a:Addr)|ty (n:String)
 deriving DecidableEq
def RelV:V->Value->Prop
 | .non,u=>u=Value.none
 | .bl b,u=>u=Value.bool b
 | .int i,u=>∃t,u=Value.int i t
 | .str x,u=>∃t,u=Value.str x t
 | .GZ b,u=>∃t,u=Value.bytes b t
 | .flt b,u=>∃t,u=Value.float b t
 | .ref a,u=>u=Value.ref a
 | .ty n,u=>u=Value.type n
abbrev Vals:List V->List Value->Prop:=Paired RelV
theorem Vals.length {xs:List V} {us:List Value} (r:Vals xs us):xs.length=us.length:=Paired.length r
theorem Vals.get:∀{xs:List V} {us:List Value} {i:Nat} {x:V},Vals xs us->xs[i]? = some x -> ∃u,us[i]? = some u/\RelV x u
 | _,_,_,_,.nil,e=>by simp at e
 | _,_,0,_,.cons r _,e=>by simp at e;subst e;exact ⟨_,rfl,r⟩
 | _,_,i+1,x,.cons _ t,e=>by
   obtain ⟨u,h1,h2⟩:=Vals.get (i:=i) (x:=x) t (by simpa using e);exact ⟨u,by simpa using h1,h2⟩
theorem Vals.set {x:V} {u:Value} (r:RelV x u):∀{xs:List V} {us:List Value} (i:Nat),Vals xs us->Vals (xs.set i x) (us.set i u)
 | _,_,_,.nil=> .nil
 | _,_,0,.cons _ t=> .cons r t
 | _,_,i+1,.cons q t=> .cons q (Vals.set r i t)
theorem Vals.append {xs ys:List V} {us ws:List Value} (h:Vals xs us) (s:Vals ys ws):Vals (xs++ys) (us++ws):=by
 induction h with
 | nil=>exact s
 | cons r t ih=>exact .cons r ih
theorem Vals.take:∀{xs:List V} {us:List Value} (n:Nat),Vals xs us->Vals (xs.take n) (us.take n)
 | _,_,0,_=> .nil
 | _,_,_+1,.nil=> .nil
 | _,_,n+1,.cons r t=> .cons r (Vals.take n t)
theorem Vals.drop:∀{xs:List V} {us:List Value} (n:Nat),Vals xs us->Vals (xs.drop n) (us.drop n)
 | _,_,0,r=>r
 | _,_,_+1,.nil=> .nil
 | _,_,n+1,.cons _ t=>Vals.drop n t
def vD:Option V->Option Value->Prop
 | some v,some u=>RelV v u
 | none,none=>True
 | _,_=>False
def KV {κ:Type}:List (κ×V)->List (κ×Value)->Prop:=Paired fun (p:κ×V) (q:κ×Value)=>p.1=q.1/\RelV p.2 q.2
def kV:Key->V
 | .inl i=> .int i
 | .inr x=> .str x
inductive HO where
 | lst (xs:List V)
 | tup (xs:List V)
 | dK (kvs:List (Key×V))|dT (kvs:List (List Key×V))
 | set (S:Int->Bool) (n:Nat)
 | ins (C dx:Addr) (fs:List (Str×V))
 | own (x:Addr)
 | xd (fs:List (Str×V))
 | met (f x:Addr)
 | rng (lo hi:Int)
 | Af (o:Obj) (u:HO)
 | Pj (ps:Array Value)
 | ext (φ:Heap->Prop)
abbrev Hp:=Addr->Option HO
def upd (H:Hp) (a:Addr) (o:HO):Hp:=fun b=>if b=a then some o else H b
theorem ao {H:Hp} {a:Addr} {o:HO}:upd H a o a=some o:=by unfold upd;rw [if_pos rfl]
theorem aD {H:Hp} {a b:Addr} {o:HO} (h:b≠a):upd H a o b=H b:=by unfold upd;rw [if_neg h]
theorem cG {H:Hp} {a b:Addr} {o u:HO} (h:H a=some o) (h':H b=some u) (d:o≠u):a≠b:=by
 intro e;subst e;rw [h] at h';exact d (Option.some.inj h')
theorem aC {H:Hp} {a b:Addr} {o:HO} (h:H a=some o) (h':H b=none):a≠b:=by
 intro e;subst e;rw [h] at h';cases h'
section
variable (P:Program) (w:World)
def fP (H:Hp) (h:Heap) (a:Addr):HO->Prop
 | .lst xs=>xs.length<=sizeLine /\ ∃(its:List Value) (n:Nat),Vals xs its/\h.get? a=some {cls:= .type "list",data:= .seq its.toArray n}
 | .tup xs=>xs.length<=sizeLine /\ ∃its:List Value,Vals xs its/\IsTup h a its.toArray
 | .dK kvs=>kvs.length<=sizeLine/\(a==sysModules)=false /\ ∃vs,KV kvs vs/\h.DictOf (Eb P w) a vs
 | .dT kvs=>kvs.length<=sizeLine/\(a==sysModules)=false /\ ∃xs:List (List Key×Addr×Value),
    Paired (fun (p:List Key×V) (q:List Key×Addr×Value)=>p.1=q.1/\H q.2.1=some (.tup (p.1.map kV))/\RelV p.2 q.2.2) kvs xs /\
    ∃o es ep,h.get? a=some o/\o.ExactDict/\o.data = .dict es ep/\es.toList=xs.map (entryOfKey (tupleKind (Eb P w)))/\(xs.map (·.1)).Nodup
 | .set S n=>h.SetOf (intKind P w) a S n
 | .ins C dx fs=>H dx=some (.own a)/\fs.length<=1000/\dx≠a/\h.get? a=some (PySem.W.instObj C dx) /\
    ∃mA,h.Ns1 dx mA/\(∀f,vD (fs.lookup f) (mA f))/\PySem.Within mA (fs.map (·.1))
 | .own _=>∃o,h.get? a=some o
 | .xd fs=>∃mA,h.Ns1 a mA /\ ∀f,vD (fs.lookup f) (mA f)
 | .rng lo hi=>∃t u v,h.get? a=some {cls:= .type "range",data:= .fields #[.int lo t,.int hi u,.int 1 v]}
 | .Af o u=>h.get? a=some o/\fP H h a u
 | .Pj ps=>h.get? a=some {cls:= .none,data:= .fields ps}
 | .met f x=>h.get? a=some (PySem.W.methodObj (.ref f) (.ref x))
 | .ext φ=>φ h/\(∃o,h.get? a=some o) /\ ∀h1 h2:Heap,φ h1->(∀o,h1.get? a=some o->h2.get? a=some o)->φ h2
def qp (H:Hp) (h:Heap):Prop:=∀a o,H a=some o->fP P w H h a o
end
section
variable {P:Program} {w:World} {H H':Hp} {h h':Heap} {a:Addr} {o:HO}
theorem fP.lt (x:fP P w H h a o):a<h.objs.size:=by
 cases o with
 | lst xs=>obtain ⟨_,_,_,_,e⟩:=x;exact Heap.lt_size e
 | tup xs=>obtain ⟨_,_,_,p⟩:=x;exact p.lt
 | dK kvs=>obtain ⟨_,_,_,_,o,_,_,e,_⟩:=x;exact Heap.lt_size e
 | dT kvs=>obtain ⟨_,_,_,_,o,_,_,e,_⟩:=x;exact Heap.lt_size e
 | set S n=>obtain ⟨o,_,_,_,e,_⟩:=x;exact Heap.lt_size e
 | ins C dx fs=>obtain ⟨_,_,_,e,_⟩:=x;exact Heap.lt_size e
 | own y=>obtain ⟨_,e⟩:=x;exact Heap.lt_size e
 | xd fs=>obtain ⟨_,⟨_,_,_,e,_⟩,_⟩:=x;exact Heap.lt_size e
 | rng lo hi=>obtain ⟨_,_,_,e⟩:=x;exact Heap.lt_size e
 | Af ob u=>obtain ⟨e,_⟩:=x;exact Heap.lt_size e
 | Pj ps=>exact Heap.lt_size (show h.get? a=some _ from x)
 | met f y=>exact Heap.lt_size (show h.get? a=some _ from x)
 | ext φ=>obtain ⟨_,⟨_,e⟩,_⟩:=x;exact Heap.lt_size e
theorem Paired.aaJ {α β:Type} {F G:α->β->Prop}:∀{l₁:List α} {l₂:List β},Paired F l₁ l₂->(∀a b,F a b->G a b)->Paired G l₁ l₂
 :=by
 intro l₁ l₂ h f
 induction h with
 | nil=>exact .nil
 | cons r t ih=>exact .cons (f _ _ r) ih
theorem fP.stay (x:fP P w H h a o) (k:∀b u,(b=a\/H b=some (.own a))->h.get? b=some u->h'.get? b=some u)
 (ho:∀b,H b=some (.own a)->H' b=some (.own a)) (ht:∀b xs,H b=some (.tup xs)->H' b=some (.tup xs)):fP P w H' h' a o:=by
 induction o with
 | lst xs=>obtain ⟨z,its,n,r,e⟩:=x;exact ⟨z,its,n,r,k _ _ (.inl rfl) e⟩
 | tup xs=>obtain ⟨z,its,r,ob,e,c⟩:=x;exact ⟨z,its,r,ob,k _ _ (.inl rfl) e,c⟩
 | dK kvs=>obtain ⟨z,y,vs,r,ob,es,ep,e,c⟩:=x;exact ⟨z,y,vs,r,ob,es,ep,k _ _ (.inl rfl) e,c⟩
 | dT kvs=>
   obtain ⟨z,y,xs,r,ob,es,ep,e,c⟩:=x;exact ⟨z,y,xs,Paired.aaJ r fun p q z=>⟨z.1,ht _ _ z.2.1,z.2.2⟩,ob,es,ep,k _ _ (.inl rfl) e,c⟩
 | set S n=>obtain ⟨ob,es,ep,t,e,c⟩:=x;exact ⟨ob,es,ep,t,k _ _ (.inl rfl) e,c⟩
 | ins C dx fs=>
   obtain ⟨d,z,ne,e,mA,⟨od,es,ep,e2,c⟩,r⟩:=x;exact ⟨ho _ d,z,ne,k _ _ (.inl rfl) e,mA,⟨od,es,ep,k _ _ (.inr d) e2,c⟩,r⟩
 | own y=>obtain ⟨ob,e⟩:=x;exact ⟨ob,k _ _ (.inl rfl) e⟩
 | xd fs=>obtain ⟨mA,⟨od,es,ep,e,c⟩,r⟩:=x;exact ⟨mA,⟨od,es,ep,k _ _ (.inl rfl) e,c⟩,r⟩
 | rng lo hi=>obtain ⟨t,u,v,e⟩:=x;exact ⟨t,u,v,k _ _ (.inl rfl) e⟩
 | Af ob u ih=>obtain ⟨e,q⟩:=x;exact ⟨k _ _ (.inl rfl) e,ih q⟩
 | Pj ps=>
   have e:h.get? a=some {cls:= .none,data:= .fields ps}:=x;show h'.get? a=some {cls:= .none,data:= .fields ps};exact k a _ (.inl rfl) e
 | met f y=>
   have e:h.get? a=some (PySem.W.methodObj (.ref f) (.ref y)):=x;show h'.get? a=some (PySem.W.methodObj (.ref f) (.ref y));exact k a _ (.inl rfl) e
 | ext φ=>obtain ⟨p,⟨o,e⟩,st⟩:=x;exact ⟨st _ _ p fun o q=>k _ _ (.inl rfl) q,⟨o,k _ _ (.inl rfl) e⟩,st⟩
theorem qp.lt (x:qp P w H h) (e:H a=some o):a<h.objs.size:=(x a o e).lt
theorem qp.fresh (x:qp P w H h) (e:h.objs.size<=a):H a=none:=by
 cases q:H a with
 | none=>rfl
 | some u=>exact absurd (Nat.lt_of_lt_of_le (x.lt q) e) (Nat.lt_irrefl _)
theorem qp.kept (x:qp P w H h) (k:∀b u,h.get? b=some u->h'.get? b=some u):qp P w H h':=fun a o e=>
 (x a o e).stay (fun b u _ q=>k b u q) (fun _ q=>q) fun _ _ q=>q
theorem qp.laid (x:qp P w H h) (k:∀b u,h.get? b=some u->h'.get? b=some u) (hp:h.objs.size<=a) (new:fP P w (upd H a o) h' a o):qp P w (upd H a o) h':=fun b u e=>by
 have hn:=x.fresh hp
 by_cases hb:b=a
 ·subst hb;rw [ao] at e;cases e;exact new
 ·rw [aD hb] at e
  exact (x b u e).stay (fun c v _ q=>k c v q) (fun c q=>by rw [aD (aC q hn)];exact q) fun c xs q=>by rw [aD (aC q hn)];exact q
end
def Rd (H:Hp) (a:Addr) (u:HO):Prop:=H a=some u \/ ∃o,H a=some (.Af o u)
theorem Rd.ok {P:Program} {w:World} {H:Hp} {h:Heap} {a:Addr} {u:HO} (r:Rd H a u) (x:qp P w H h):fP P w H h a u:=by
 rcases r with r|⟨o,r⟩
 ·exact x a u r
 ·obtain ⟨_,q⟩:=x a _ r
  exact q
def YS:Option HO->Prop
 | some (.lst _)=>True
 | some (.dK _)=>True
 | some (.dT _)=>True
 | some (.set _ _)=>True
 | some (.ins _ _ _)=>True
 | some (.ext _)=>True
 | _=>False
section
variable {P:Program} {w:World} {H:Hp} {h h':Heap} {x e:Addr} {o':HO}
theorem qp.write (ok:qp P w H h) (mu:YS (H x)) (he:e=x\/H e=some (.own x)) (k:∀b u,b≠e->h.get? b=some u->h'.get? b=some u) (heo:∃u,h'.get? e=some u)
 (new:fP P w (upd H x o') h' x o'):qp P w (upd H x o') h':=fun b u q=>by
 have V_:∀c y,H c=some (.own y)->c≠x:=fun c y r z=>by subst z;rw [r] at mu;exact mu
 have aav:∀c xs,H c=some (.tup xs)->c≠x:=fun c xs r z=>by subst z;rw [r] at mu;exact mu
 by_cases hb:b=x
 ·subst hb;rw [ao] at q;cases q;exact new
 ·rw [aD hb] at q
  by_cases hbe:b=e
  ·have q':H b=some (.own x):=by
    rcases he with z|z
    ·exact absurd (hbe.trans z) hb
    ·rw [hbe];exact z
   rw [q] at q';cases q';obtain ⟨v,hv⟩:=heo;exact ⟨v,by rw [hbe];exact hv⟩
  ·refine (ok b u q).stay (fun c v hc r=>k c v ?_ r) (fun c r=>by rw [aD (V_ c b r)];exact r) fun c xs r=>by rw [aD (aav c xs r)];exact r
   rcases hc with rfl|hc
   ·exact hbe
   ·rintro rfl
    rcases he with z|z
    ·exact V_ c b hc z
    ·rw [hc] at z;cases z;exact hb rfl
end
structure Un (fs ex:List Addr) (H H':Hp) (h h':Heap):Prop where
 keep:∀b o,h.get? b=some o->H b=none->b∉fs->b∉ex->h'.get? b=some o
 slot:∀b o,h.get? b=some o->H b=none->b∈fs->b∉ex -> ∃sl,h'.get? b=some {o with slots:=sl}
 free:∀b o,h.get? b=some o->H b=none->b∉ex->H' b=none
 there:∀b o,h.get? b=some o->b∉ex -> ∃o',h'.get? b=some o'
 tups:∀b xs,H b=some (.tup xs)->H' b=some (.tup xs)
 qU:∀b o u,H b=some (.Af o u)->H' b=some (.Af o u)
 rK:∀b ps,H b=some (.Pj ps) -> ∃more,H' b=some (.Pj (ps++more))
section
variable {fs fs' ex ex':List Addr} {H H1 H2:Hp} {h h1 h2 h':Heap} {a x e:Addr} {o:HO}
theorem Un.any (u:Un fs ex H H1 h h1) {b:Addr} {ob:Obj} (q:h.get? b=some ob) (n:H b=none) (hx:b∉ex):∃sl,h1.get? b=some {ob with slots:=sl}:=by
 by_cases hb:b∈fs
 ·exact u.slot b ob q n hb hx
 ·exact ⟨ob.slots,u.keep b ob q n hb hx⟩
theorem Un.kept (k:∀b u,h.get? b=some u->h'.get? b=some u):Un fs ex H H h h':=
 ⟨fun b ob q _ _ _=>k b ob q,fun b ob q _ _ _=>⟨ob.slots,k b ob q⟩,fun _ _ _ n _=>n,fun b ob q _=>⟨ob,k b ob q⟩,fun _ _ q=>q,fun _ _ _ q=>q,fun _ ps q=>⟨#[],by rw [q];simp⟩⟩
theorem Un.refl:Un fs ex H H h h:=Un.kept fun _ _ q=>q
theorem Un.laid (k:∀b u,h.get? b=some u->h'.get? b=some u) (hp:h.objs.size<=a) (hn:H a=none):Un fs ex H (upd H a o) h h' where
 keep:=fun b u q _ _ _=>k b u q
 slot:=fun b u q _ _ _=>⟨u.slots,k b u q⟩
 free:=fun b u q n _=>by rw [aD (Nat.ne_of_lt (Nat.lt_of_lt_of_le (Heap.lt_size q) hp))];exact n
 there:=fun b u q _=>⟨u,k b u q⟩
 tups:=fun b xs q=>by rw [aD (aC q hn)];exact q
 qU:=fun b u xs q=>by rw [aD (aC q hn)];exact q
 rK:=fun b ps q=>⟨#[],by rw [aD (aC q hn),q];simp⟩
theorem Un.write (mu:YS (H x)) (he:e=x\/H e=some (.own x)) (k:∀b u,b≠e->h.get? b=some u->h'.get? b=some u) (heo:∃u,h'.get? e=some u):Un fs ex H (upd H x o) h h':=by
 have hx:∀b,H b=none->b≠x:=fun b n z=>by subst z;rw [n] at mu;exact mu
 have hb:∀b,H b=none->b≠e:=fun b n z=>by
  subst z;rcases he with r|r
  ·exact hx b n r
  ·rw [n] at r;cases r
 have hm:∀b u,H b=some u -> ¬YS (some u)->b≠x:=fun b u q nm z=>by subst z;rw [q] at mu;exact nm mu
 refine ⟨fun b u q n _ _=>k b u (hb b n) q,fun b u q n _ _=>⟨u.slots,k b u (hb b n) q⟩,fun b u q n _=>by rw [aD (hx b n)];exact n,fun b u q _=> ?_,
  fun b xs q=>by rw [aD (hm b _ q fun z=>z)];exact q,fun b u xs q=>by rw [aD (hm b _ q fun z=>z)];exact q,fun b ps q=>⟨#[],by rw [aD (hm b _ q fun z=>z),q];simp⟩⟩
 by_cases hbe:b=e
 ·subst hbe;exact heo
 ·exact ⟨u,k b u hbe q⟩
end
def Bj (h:Heap) (H:Hp):List Addr:=(List.range h.objs.size).filter fun a=>(H a).isSome
def yC (h:Heap) (H:Hp):Heap:=PySem.W.hideAll h (Bj h H)
theorem Gx (h:Heap) (H:Hp):(yC h H).objs.size=h.objs.size:=PySem.W.hideAll_size _ _
theorem JH {h:Heap} {H:Hp} {b:Addr} {o:Obj} (e:h.get? b=some o) (n:H b=none):(yC h H).get? b=some o:=
 PySem.W.hideAll_get _ e fun hm=>by
  have q:(H b).isSome=true:=(List.mem_filter.mp hm).2;rw [n] at q;simp at q
theorem M5 {h:Heap} {H:Hp} {b:Addr} {o:Obj} (e:(yC h H).get? b=some o):h.get? b=some o/\H b=none:=by
 have e':h.get? b=some o:=PySem.W.of_hideAll (Bj h H) e;refine ⟨e', ?_⟩;cases q:H b with
 | none=>rfl
 | some x=>
   have hm:b∈Bj h H:=List.mem_filter.mpr ⟨List.mem_range.mpr (Heap.lt_size e'),by simp [q]⟩;have z:(yC h H).get? b=none:=PySem.W.hideAll_none (Bj h H) hm;rw [z] at e;cases e
def Ou (g h:Heap) (L:Addr):List (Addr×Obj):=(List.range h.objs.size).filterMap fun a=>if a=L\/(g.get? a).isSome=true then none else (h.get? a).map fun o=>(a,o)
def rest (g h:Heap) (L d:Addr):List (Addr×Obj):=(Ou g h L).filter fun p=>decide (p.1≠d)
end L2
namespace L2
open PySem PySem.Spec PyProof.Rows
structure Mod (K:PySem.W.Frag) (mg:Str->Option Value) (base:Heap):Prop where
 Ho:K.In base
 glob:base.Ns mainGlobals mg
 blt:∃mb,base.Ns builtinsNs mb /\ ∀x:Str,x ≠ "__name__" -> mb x=bootBuiltins x
 nolimit:base.NoLimit
structure Cx where
 prog:Program
 w:World
 K:PySem.W.Frag
 mg:Str->Option Value
 base:Heap
 A:Around
 N:List Str
 s₀:Shared
 H₀:Hp
 env:Env
 outer:List Env
 stack:List Env
 ex:List Addr
 fn:Str->Bool
 calm:Bool
 pn:List (Addr×Obj)
 xe:Value->Shared->Prop
def frs (l:List Env):List Addr:=l.filterMap (·.frame)
abbrev Cx.fs (X:Cx):List Addr:=frs X.outer
def Xk (sc:Scope) (x:Str):Prop:=sc.names.lookup x=some .local\/sc.names.lookup x=some .cell\/sc.names.lookup x=some .free
def Loc (sc:Scope) (x:Str):Prop:=sc.names.lookup x=some .local\/sc.names.lookup x=some .cell
def Look (env:Env) (h:Heap) (m:Str->Option Value) (x:Str) (u:Value):Prop:=
 (env.kindOf x=some .local/\m x=some u)\/((env.kindOf x=some .cell\/env.kindOf x=some .free) /\ ∃c,env.cells.lookup x=some c/\h.IsCell c (some u))
structure Cx.Ok (X:Cx):Prop where
 mod:Mod X.K X.mg X.base
 kind:X.env.scope.kind = .function
 glob:X.env.globals=mainGlobals
 blt:X.env.builtins=builtinsNs
 above:X.s₀.heap.objs.size<=X.env.locals
 inj:∀x y c,X.env.cells.lookup x=some c->X.env.cells.lookup y=some c->x=y
 has:∀x,(X.env.kindOf x=some .cell\/X.env.kindOf x=some .free) -> ∃c,X.env.cells.lookup x=some c
 cab:∀x c,X.fn x=true->X.env.cells.lookup x=some c->X.s₀.heap.objs.size<=c
 hd:X.calm=true->X.A.handled=none
 frames:X.A.frames=some X.stack
 stk:X.stack=X.outer\/(X.stack=X.env::X.outer/\X.env.frame=some X.env.locals)
 U4:∀b∈X.ex,b≠X.env.locals /\ ∀x c,X.env.cells.lookup x=some c->c≠b
 bs:∀b o,X.base.get? b=some o->X.s₀.heap.get? b=some o/\X.H₀ b=none
 CP:X.base.objs.size<=X.s₀.heap.objs.size
 yh:∀b o,X.base.get? b=some o->b∉X.ex
 Ah:∀b∈X.ex,b∉X.fs
 mj:X.s₀.heap.FunFrames X.base X.outer
 Hr:∀b∈X.fs,X.H₀ b=none
structure Inv (X:Cx) (pins:List (Addr×Obj)) (σ:List (Option V)) (H:Hp) (s:Shared):Prop where
 ok:X.Ok
 os:s.os=X.s₀.os
 bare:AllBare s.gens
 base:Un X.fs X.ex X.H₀ H X.s₀.heap s.heap
 loc:∃m,s.heap.Ns X.env.locals m /\ ∀(i:Nat) (x:Str) (v:V),X.N[i]? = some x->σ[i]? = some (some v)->Xk X.env.scope x -> ∃u,RelV v u/\Look X.env s.heap m x u
 cell:∀x c,X.env.cells.lookup x=some c -> ∃v,s.heap.IsCell c v
 free:H X.env.locals=none
 iB:∀x c,X.env.cells.lookup x=some c->H c=none
 pin:∀p∈X.pn++pins,s.heap.get? p.1=some p.2/\H p.1=none/\p.1≠X.env.locals/\p.1∉X.fs /\ ∀v,p.2.data ≠ .cell v
 hok:qp X.prog X.w H s.heap
 len:σ.length=X.N.length
section
variable {X:Cx} {pins:List (Addr×Obj)} {σ:List (Option V)} {H H':Hp} {s:Shared} {h':Heap}
theorem Cx.Ok.aaz (ok:X.Ok) {b:Addr} {o:Obj} (e:X.base.get? b=some o):b∉X.fs:=fun hb=>by
 have:=(ok.mj.mem hb).1;rw [e] at this;cases this
theorem Inv.bs (I:Inv X pins σ H s):∀b o,X.base.get? b=some o->s.heap.get? b=some o/\H b=none:=fun b o e=>
 ⟨I.base.keep b o (I.ok.bs b o e).1 (I.ok.bs b o e).2 (I.ok.aaz e) (I.ok.yh b o e),I.base.free b o (I.ok.bs b o e).1 (I.ok.bs b o e).2 (I.ok.yh b o e)⟩
theorem Inv.bk (I:Inv X pins σ H s):∀b o,X.base.get? b=some o->s.heap.get? b=some o:=fun b o e=>(I.bs b o e).1
theorem Inv.mod (I:Inv X pins σ H s):Mod X.K X.mg X.base:=I.ok.mod
theorem Inv.mZ (I:Inv X pins σ H s):X.K.In s.heap:=I.ok.mod.Ho.keeps I.bk
theorem Inv.fr (I:Inv X pins σ H s):∃m,Fr X.base X.env.locals s.heap m:=
 let ⟨m,hn,_⟩:=I.loc
 ⟨m,hn,I.bk,Nat.le_trans I.ok.CP I.ok.above⟩
theorem Inv.lt (I:Inv X pins σ H s):X.env.locals<s.heap.objs.size:=let ⟨_,hn,_⟩:=I.loc;hn.lt
theorem Inv.sz (I:Inv X pins σ H s):X.s₀.heap.objs.size<=s.heap.objs.size:=Nat.le_trans I.ok.above (Nat.le_of_lt I.lt)
theorem Inv.aay (I:Inv X pins σ H s) {a:Addr} (h:s.heap.objs.size<=a):a∉X.fs:=fun hb=>by
 obtain ⟨_,o,ho,_⟩:=I.ok.mj.mem hb;exact absurd (Nat.lt_of_lt_of_le (Heap.lt_size ho) (Nat.le_trans I.sz h)) (Nat.lt_irrefl _)
theorem Inv.Ql (I:Inv X pins σ H s):∀x c,X.env.cells.lookup x=some c->c≠X.env.locals:=fun x c e z=>by
 obtain ⟨v,o,ho,hd⟩:=I.cell x c e;obtain ⟨m,⟨o',es,ep,ho',hd',_⟩,_⟩:=I.loc;rw [z,ho'] at ho;cases ho;rw [hd'] at hd;cases hd
theorem Inv.mj (I:Inv X pins σ H s):s.heap.FunFrames X.base X.outer:=by
 have all:∀(l:List Env),(∀b∈frs l,b∈X.fs)->X.s₀.heap.FunFrames X.base l->s.heap.FunFrames X.base l:=by
  intro l
  induction l with
  | nil=>intro _ _;trivial
  | cons env r ih=>
    intro hs hl;obtain ⟨hk,⟨L,o,hf,hn,ho,hd⟩,hr⟩:=hl;have hL:L∈X.fs:=hs L (by unfold frs;rw [List.filterMap_cons,hf];exact List.mem_cons_self);obtain ⟨sl,e⟩:=I.base.slot L o ho (I.ok.Hr L hL) hL fun z=>I.ok.Ah L z hL;exact ⟨hk,⟨L,_,hf,hn,e,hd⟩,ih (fun b hb=>hs b (by unfold frs;rw [List.filterMap_cons,hf];exact List.mem_cons_of_mem _ hb)) hr⟩
 exact all X.outer (fun _ hb=>hb) I.ok.mj
theorem Inv.stack (I:Inv X pins σ H s):s.heap.FunFrames X.base X.stack:=by
 rcases I.ok.stk with e|⟨e,hf⟩
 ·rw [e];exact I.mj
 ·rw [e]
  obtain ⟨m,hn,_⟩:=I.loc;refine .cons (by rw [I.ok.kind];decide) hf hn ?_ I.mj;exact Heap.get?_none_of_le (Nat.le_trans I.ok.CP I.ok.above)
theorem Inv.tD (I:Inv X pins σ H s):∀b∈frs X.stack,b∈X.env.locals::X.fs:=fun b hb=>by
 rcases I.ok.stk with e|⟨e,hf⟩
 ·rw [e] at hb;exact List.mem_cons_of_mem _ hb
 ·rw [e] at hb
  unfold frs at hb;rw [List.filterMap_cons,hf] at hb;exact hb
theorem Inv.wM (I:Inv X pins σ H s):∀b∈frs X.stack,H b=none:=fun b hb=>by
 rcases List.mem_cons.mp (I.tD b hb) with e|hb
 ·rw [e];exact I.free
 ·obtain ⟨_,o,ho,_⟩:=I.ok.mj.mem hb
  exact I.base.free b o ho (I.ok.Hr b hb) fun z=>I.ok.Ah b z hb
theorem Inv.step {g':Array GenState} {t':Nat} {d':Drawn} {ch:List Addr} (I:Inv X pins σ H s)
 (hch:∀b∈ch,(b∈X.ex\/X.s₀.heap.objs.size<=b)/\b≠X.env.locals/\(∀x c,X.env.cells.lookup x=some c->c≠b) /\ ∀p∈X.pn++pins,p.1≠b)
 (keep:∀b o,b≠X.env.locals->b∉X.fs->b∉ch->s.heap.get? b=some o->H b=none->h'.get? b=some o)
 (slot:∀b o,b≠X.env.locals->b∈X.fs->b∉ch->s.heap.get? b=some o->H b=none -> ∃sl,h'.get? b=some {o with slots:=sl}) (free:∀b o,b∉ch->s.heap.get? b=some o->H b=none->H' b=none)
 (there:∀b o,b∉ch->s.heap.get? b=some o -> ∃o',h'.get? b=some o')
 (tups:∀b xs,H b=some (.tup xs)->H' b=some (.tup xs)) (qU:∀b o u,H b=some (.Af o u)->H' b=some (.Af o u)) (rK:∀b ps,H b=some (.Pj ps) -> ∃more,H' b=some (.Pj (ps++more)))
 (ns:∀m,s.heap.Ns X.env.locals m->h'.Ns X.env.locals m) (hok:qp X.prog X.w H' h') (hg:AllBare g'):
 Inv X pins σ H' {s with heap:=h',gens:=g',drawn:=d',toks:=t'}:=by
 have Qa:∀b o,X.s₀.heap.get? b=some o->b≠X.env.locals:=fun b o e=>Nat.ne_of_lt (Nat.lt_of_lt_of_le (Heap.lt_size e) I.ok.above)
 have Yq:∀b o,X.s₀.heap.get? b=some o->b∉X.ex->b∉ch:=fun b o e hx hb=>by
  rcases (hch b hb).1 with z|z
  ·exact hx z
  ·exact absurd (Nat.lt_of_lt_of_le (Heap.lt_size e) z) (Nat.lt_irrefl _)
 have cellK:∀x c,X.env.cells.lookup x=some c -> ∀v,s.heap.IsCell c v->h'.IsCell c v:=fun x c e v ⟨o,ho,hd⟩=>by
  have Wd:c∉ch:=fun z=>(hch c z).2.2.1 x c e rfl
  by_cases hc:c∈X.fs
  ·obtain ⟨sl,q⟩:=slot c o (I.Ql x c e) hc Wd ho (I.iB x c e)
   exact ⟨_,q,hd⟩
  ·exact ⟨o,keep c o (I.Ql x c e) hc Wd ho (I.iB x c e),hd⟩
 refine ⟨I.ok,I.os,hg,⟨fun b o e n hb hx=> ?_,fun b o e n hb hx=> ?_,fun b o e n hx=> ?_,fun b o e hx=> ?_,fun b xs e=>tups b xs (I.base.tups b xs e),fun b o xs e=>qU b o xs (I.base.qU b o xs e),fun b ps e=> ?_⟩, ?_,fun x c e=> ?_, ?_,fun x c e=> ?_,fun p hp=> ?_,hok,I.len⟩
 ·exact keep b o (Qa b o e) hb (Yq b o e hx) (I.base.keep b o e n hb hx) (I.base.free b o e n hx)
 ·obtain ⟨sl,e1⟩:=I.base.slot b o e n hb hx
  obtain ⟨sl',e2⟩:=slot b _ (Qa b o e) hb (Yq b o e hx) e1 (I.base.free b o e n hx);exact ⟨sl',e2⟩
 ·obtain ⟨o',e1⟩:=I.base.there b o e hx
  exact free b o' (Yq b o e hx) e1 (I.base.free b o e n hx)
 ·obtain ⟨o',e1⟩:=I.base.there b o e hx
  exact there b o' (Yq b o e hx) e1
 ·obtain ⟨m1,e1⟩:=I.base.rK b ps e
  obtain ⟨m2,e2⟩:=rK b _ e1;exact ⟨m1++m2,by rw [e2,Array.append_assoc]⟩
 ·obtain ⟨m,hn,hl⟩:=I.loc
  refine ⟨m,ns m hn,fun i x v e1 e2 e3=> ?_⟩;obtain ⟨u,r,l⟩:=hl i x v e1 e2 e3;refine ⟨u,r, ?_⟩;rcases l with l|⟨k,c,e,z⟩
  ·exact .inl l
  ·exact .inr ⟨k,c,e,cellK x c e _ z⟩
 ·obtain ⟨v,z⟩:=I.cell x c e
  exact ⟨v,cellK x c e v z⟩
 ·obtain ⟨m,⟨o,_,_,ho,_⟩,_⟩:=I.loc
  exact free _ o (fun z=>(hch _ z).2.1 rfl) ho I.free
 ·obtain ⟨v,o,ho,hd⟩:=I.cell x c e
  exact free c o (fun z=>(hch c z).2.2.1 x c e rfl) ho (I.iB x c e)
 ·obtain ⟨e,n,ne,nf,d⟩:=I.pin p hp
  have Wd:p.1∉ch:=fun z=>(hch p.1 z).2.2.2 p hp rfl;exact ⟨keep p.1 p.2 ne nf Wd e n,free p.1 p.2 Wd e n,ne,nf,d⟩
theorem Inv.un {t':Nat} (I:Inv X pins σ H s) (u:Un X.fs [] H H' s.heap h') (hok:qp X.prog X.w H' h'):Inv X pins σ H' {s with heap:=h',toks:=t'}:=by
 obtain ⟨m,⟨o,es,ep,ho,r⟩,_⟩:=id I.loc;obtain ⟨sl,hL⟩:=u.any ho I.free (by simp)
 exact I.step (g':=s.gens) (d':=s.drawn) (ch:=[]) (fun _ z=>nomatch z) (fun b o _ hb _ e n=>u.keep b o e n hb (by simp)) (fun b o _ hb _ e n=>u.slot b o e n hb (by simp)) (fun b o _ e n=>u.free b o e n (by simp)) (fun b o _ e=>u.there b o e (by simp)) u.tups u.qU u.rK (fun m' hm=>by
  obtain ⟨o',es',ep',ho',r'⟩:=hm;rw [ho] at ho';cases ho';exact ⟨_,es',ep',hL,r'⟩) hok I.bare
theorem Inv.call {g':Array GenState} {t':Nat} {d':Drawn} {ch:List Addr} (I:Inv X pins σ H s) (u:Un (frs X.stack) ch H H' s.heap h') (hok:qp X.prog X.w H' h') (hg:AllBare g')
 (hch:∀b∈ch,(b∈X.ex\/X.s₀.heap.objs.size<=b)/\b≠X.env.locals/\(∀x c,X.env.cells.lookup x=some c->c≠b) /\ ∀p∈X.pn++pins,p.1≠b):
 Inv X pins σ H' {s with heap:=h',gens:=g',drawn:=d',toks:=t'}:=by
 obtain ⟨m,⟨o,es,ep,ho,r⟩,_⟩:=id I.loc;obtain ⟨sl,hL⟩:=u.any ho I.free fun z=>(hch _ z).2.1 rfl
 exact I.step (ch:=ch) hch (fun b o hL hb hc e n=>u.keep b o e n (fun z=>(List.mem_cons.mp (I.tD b z)).elim hL hb) hc) (fun b o _ _ hc e n=>u.any e n hc) (fun b o hc e n=>u.free b o e n hc) (fun b o hc e=>u.there b o e hc) u.tups u.qU u.rK (fun m' hm=>by
  obtain ⟨o',es',ep',ho',r'⟩:=hm;rw [ho] at ho';cases ho';exact ⟨_,es',ep',hL,r'⟩) hok hg
theorem Inv.turned {t':Nat} {it:Addr} (I:Inv X pins σ H s) (k:∀b o,b≠it->s.heap.get? b=some o->h'.get? b=some o) (hn:H it=none) (hL:it≠X.env.locals)
 (h1:it∈X.ex\/X.s₀.heap.objs.size<=it) (h2:∀x c,X.env.cells.lookup x=some c->c≠it) (h3:∀p∈X.pn++pins,p.1≠it):Inv X pins σ H {s with heap:=h',toks:=t'}:=by
 have Wc:∀b u,H b=some u->b≠it:=fun b u e z=>by rw [z,hn] at e;cases e
 refine I.step (g':=s.gens) (d':=s.drawn) (ch:=[it]) (fun b hb=> ?_) (fun b o _ _ hc e _=>k b o (fun z=>hc (by simp [z])) e) (fun b o _ _ hc e _=>⟨o.slots,k b o (fun z=>hc (by simp [z])) e⟩) (fun _ _ _ _ n=>n)
  (fun b o hc e=>⟨o,k b o (fun z=>hc (by simp [z])) e⟩) (fun _ _ e=>e) (fun _ _ _ e=>e) (fun b ps e=>⟨#[],by rw [e];simp⟩) (fun m hm=> ?_) (fun b u e=> ?_) I.bare
 ·have e:b=it:=by simpa using hb
  subst e;exact ⟨h1,hL,h2,h3⟩
 ·obtain ⟨o,es,ep,ho,r⟩:=hm
  exact ⟨o,es,ep,k _ o (Ne.symm hL) ho,r⟩
 ·refine (I.hok b u e).stay (fun c v hc q=>k c v ?_ q) (fun _ q=>q) fun _ _ q=>q
  rcases hc with z|z
  ·rw [z];exact Wc b u e
  ·exact Wc c _ z
theorem Inv.tok (I:Inv X pins σ H s) (t:Nat):Inv X pins σ H {s with toks:=t}:=I.un (h':=s.heap) (t':=t) Un.refl I.hok
theorem Inv.kept {t':Nat} (I:Inv X pins σ H s) (k:∀b u,s.heap.get? b=some u->h'.get? b=some u):Inv X pins σ H {s with heap:=h',toks:=t'}:=I.un (Un.kept k) (I.hok.kept k)
theorem Inv.laid {a:Addr} {o:HO} {t':Nat} (I:Inv X pins σ H s) (k:∀b u,s.heap.get? b=some u->h'.get? b=some u) (hp:s.heap.objs.size<=a) (new:fP X.prog X.w (upd H a o) h' a o):
 Inv X pins σ (upd H a o) {s with heap:=h',toks:=t'}:=I.un (Un.laid k hp (I.hok.fresh hp)) (I.hok.laid k hp new)
theorem Inv.write {x e:Addr} {o:HO} {t':Nat} (I:Inv X pins σ H s) (mu:YS (H x)) (he:e=x\/H e=some (.own x)) (k:∀b u,b≠e->s.heap.get? b=some u->h'.get? b=some u) (heo:∃u,h'.get? e=some u)
 (new:fP X.prog X.w (upd H x o) h' x o):Inv X pins σ (upd H x o) {s with heap:=h',toks:=t'}:=I.un (Un.write mu he k heo) (I.hok.write mu he k heo new)
theorem Inv.DP {lO:List (Addr×Obj)} (I:Inv X pins σ H s) (h:∀p∈lO,s.heap.get? p.1=some p.2/\H p.1=none/\p.1≠X.env.locals/\p.1∉X.fs /\ ∀v,p.2.data ≠ .cell v):Inv X lO σ H s:=
 ⟨I.ok,I.os,I.bare,I.base,I.loc,I.cell,I.free,I.iB,fun p hp=>(List.mem_append.mp hp).elim (fun z=>I.pin p (List.mem_append_left _ z)) (h p),I.hok,I.len⟩
theorem uz {N:List Str} (hN:N.Nodup) {i j:Nat} {x:Str} (a:N[i]? = some x) (b:N[j]? = some x):i=j:=by
 obtain ⟨h1,e1⟩:=List.getElem?_eq_some_iff.mp a;obtain ⟨h2,e2⟩:=List.getElem?_eq_some_iff.mp b;exact (List.getElem_inj hN).mp (e1.trans e2.symm)
theorem vL {M:Model} {A:Around} {E:Value->Shared->Prop} {i:Nat} {x:Str} {v:V} {u:Value} {Q:Unit->Shared->Prop} (I:Inv X pins σ H s) (hN:X.N.Nodup) (hi:X.N[i]? = some x) (hx:Loc X.env.scope x) (r:RelV v u)
 (h:∀s',Inv X pins (σ.set i (some v)) H s'->(∃a,Heap.SameBut a s.heap s'.heap/\(a=X.env.locals\/X.env.cells.lookup x=some a))->Q () s') (hf:X.fn x=true\/X.env.scope.names.lookup x=some .local:=by first |exact .inl rfl|exact .inr rfl|assumption):wpAny M A (storeName X.env x u) Q E s:=by
 obtain ⟨m,hn,hl⟩:=id I.loc;have hcls:(X.env.scope.kind == .class||(X.env.scope.kind == .module&&X.env.locals != X.env.globals))=false:=by rw [I.ok.kind];rfl
 have acT:i<σ.length:=by rw [I.len];exact (List.getElem?_eq_some_iff.mp hi).1
 have Ql:=I.Ql
 have tracked:∀{a:Addr} {h':Heap},(∃o,s.heap.get? a=some o/\H a=none)->Heap.SameBut a s.heap h'->qp X.prog X.w H h':=fun {a h'} ha hs b ob e=>by
  obtain ⟨_,_,hfree⟩:=ha;refine (I.hok b ob e).stay (fun c w' hc q=>(hs.2 c ?_).trans q) (fun _ q=>q) fun _ _ q=>q;rintro rfl;rcases hc with rfl|hc
  ·rw [hfree] at e;cases e
  ·rw [hfree] at hc;cases hc
 rcases hx with hk|hk
 ·refine wpAny_storeName_local hk hn (fun h' hn' hs=> ?_) hcls
  obtain ⟨oL,_,_,hoL,_⟩:=id hn;refine h _ ⟨I.ok,I.os,I.bare,⟨fun b o e n hb hx=> ?_,fun b o e n hb hx=> ?_,I.base.free,fun b o e hx=> ?_,I.base.tups,I.base.qU,I.base.rK⟩,⟨_,hn',fun j y v' e1 e2 e3=> ?_⟩,fun y c e=> ?_,I.free,I.iB,fun p hp=> ?_,tracked ⟨oL,hoL,I.free⟩ hs,by simpa using I.len⟩ ⟨_,hs,.inl rfl⟩
  ·exact (hs.2 b (Nat.ne_of_lt (Nat.lt_of_lt_of_le (Heap.lt_size e) I.ok.above))).trans (I.base.keep b o e n hb hx)
  ·obtain ⟨sl,e1⟩:=I.base.slot b o e n hb hx
   exact ⟨sl,(hs.2 b (Nat.ne_of_lt (Nat.lt_of_lt_of_le (Heap.lt_size e) I.ok.above))).trans e1⟩
  ·obtain ⟨o',e1⟩:=I.base.there b o e hx
   exact ⟨o',(hs.2 b (Nat.ne_of_lt (Nat.lt_of_lt_of_le (Heap.lt_size e) I.ok.above))).trans e1⟩
  ·by_cases hj:j=i
   ·subst hj
    rw [hi] at e1;cases e1;rw [List.getElem?_set_self acT] at e2;cases e2;exact ⟨u,r,.inl ⟨hk,by simp⟩⟩
   ·rw [List.getElem?_set_ne (Ne.symm hj)] at e2
    obtain ⟨u',r',q⟩:=hl j y v' e1 e2 e3;refine ⟨u',r', ?_⟩;rcases q with ⟨k,e⟩|⟨k,c,e,z⟩
    ·refine .inl ⟨k, ?_⟩
     have:y≠x:=fun e=>hj (uz hN e1 (e▸hi));simp [this,e]
    ·exact .inr ⟨k,c,e,z.sameBut hs (Ql y c e)⟩
  ·obtain ⟨w',z⟩:=I.cell y c e
   exact ⟨w',z.sameBut hs (Ql y c e)⟩
  ·obtain ⟨e,n,ne,nf,d⟩:=I.pin p hp
   exact ⟨(hs.2 p.1 ne).trans e,n,ne,nf,d⟩
 ·have hfn:X.fn x=true:=by
   rcases hf with z|z
   ·exact z
   ·rw [z] at hk;cases hk
  obtain ⟨c,hc⟩:=I.ok.has x (.inl hk);obtain ⟨w',z⟩:=I.cell x c hc;refine wpAny_storeName_cell I.ok.kind hk hc z (fun h' hc' hs=> ?_);obtain ⟨oc,hoc,aaW⟩:=id z;refine h {s with heap:=h'} ⟨I.ok,I.os,I.bare,⟨fun b o e n hb hx=> ?_,fun b o e n hb hx=> ?_,I.base.free,fun b o e hx=> ?_,I.base.tups,I.base.qU,I.base.rK⟩,⟨m,hn.sameBut hs (Ne.symm (Ql x c hc)),fun j y v' e1 e2 e3=> ?_⟩,fun y c' e=> ?_,I.free,I.iB,fun p hp=> ?_,tracked ⟨oc,hoc,I.iB x c hc⟩ hs,by simpa using I.len⟩ ⟨c,hs,.inr hc⟩
  ·exact (hs.2 b (Nat.ne_of_lt (Nat.lt_of_lt_of_le (Heap.lt_size e) (I.ok.cab x c hfn hc)))).trans (I.base.keep b o e n hb hx)
  ·obtain ⟨sl,e1⟩:=I.base.slot b o e n hb hx
   exact ⟨sl,(hs.2 b (Nat.ne_of_lt (Nat.lt_of_lt_of_le (Heap.lt_size e) (I.ok.cab x c hfn hc)))).trans e1⟩
  ·obtain ⟨o',e1⟩:=I.base.there b o e hx
   exact ⟨o',(hs.2 b (Nat.ne_of_lt (Nat.lt_of_lt_of_le (Heap.lt_size e) (I.ok.cab x c hfn hc)))).trans e1⟩
  ·by_cases hj:j=i
   ·subst hj
    rw [hi] at e1;cases e1;rw [List.getElem?_set_self acT] at e2;cases e2;exact ⟨u,r,.inr ⟨.inl hk,c,hc,hc'⟩⟩
   ·rw [List.getElem?_set_ne (Ne.symm hj)] at e2
    obtain ⟨u',r',q⟩:=hl j y v' e1 e2 e3;refine ⟨u',r', ?_⟩;rcases q with q|⟨k,c',e,z'⟩
    ·exact .inl q
    ·refine .inr ⟨k,c',e,z'.sameBut hs ?_⟩
     rintro rfl;exact hj (uz hN e1 (I.ok.inj _ _ _ e hc▸hi))
  ·by_cases hcc:c'=c
   ·subst hcc;exact ⟨_,hc'⟩
   ·obtain ⟨w2,z2⟩:=I.cell y c' e
    exact ⟨w2,z2.sameBut hs hcc⟩
  ·obtain ⟨e,n,ne,nf,d⟩:=I.pin p hp
   refine ⟨(hs.2 p.1 ?_).trans e,n,ne,nf,d⟩;intro q;rw [q,hoc] at e;have q':oc=p.2:=Option.some.inj e;exact d w' (by rw [←q'];exact aaW)
theorem pO {M:Model} {A:Around} {E:Value->Shared->Prop} {i:Nat} {x:Str} {v:V} {u:Value} {Q:Unit->Shared->Prop} (I:Inv X pins σ H s) (hN:X.N.Nodup) (hi:X.N[i]? = some x) (hx:Loc X.env.scope x) (r:RelV v u)
 (h:∀s',Inv X pins (σ.set i (some v)) H s'->Q () s') (hf:X.fn x=true\/X.env.scope.names.lookup x=some .local:=by first |exact .inl rfl|exact .inr rfl|assumption):wpAny M A (storeName X.env x u) Q E s:=
 vL I hN hi hx r (fun s' I' _=>h s' I') hf
theorem Inv.call' {s':Shared} {ch:List Addr} (I:Inv X pins σ H s) (ho:s'.os=s.os) (u:Un (frs X.stack) ch H H' s.heap s'.heap) (hok:qp X.prog X.w H' s'.heap) (hg:AllBare s'.gens)
 (hch:∀b∈ch,(b∈X.ex\/X.s₀.heap.objs.size<=b)/\b≠X.env.locals/\(∀x c,X.env.cells.lookup x=some c->c≠b) /\ ∀p∈X.pn++pins,p.1≠b):Inv X pins σ H' s':=by
 obtain ⟨h',g',d',t',o'⟩:=s';have e:o'=s.os:=ho;subst e;exact I.call (g':=g') (t':=t') (d':=d') u hok hg hch
end
abbrev XK:=Value->Option Addr->Hp->Prop
abbrev St:=List (Option V)
abbrev VK:=V->Hp->Prop
abbrev TE:=St->Hp->VK->Prop
abbrev TT:=St->Hp->(Bool->Hp->Prop)->Prop
abbrev TA:=St->Hp->(List V->Hp->Prop)->Prop
structure Ends where
 nx:St->Hp->Prop
 rt:VK
 bk:St->Hp->Prop:=fun _ _=>False
 ct:St->Hp->Prop:=fun _ _=>False
abbrev TS:=Ends->St->Hp->Prop
def EP (X:Cx) (pins:List (Addr×Obj)) (σ:St) (Q:VK) (u:Value) (s':Shared):Prop:=∃v H',Inv X pins σ H' s'/\RelV v u/\Q v H'
def TP (X:Cx) (pins:List (Addr×Obj)) (σ:St) (Q:Bool->Hp->Prop) (b:Bool) (s':Shared):Prop:=∃H',Inv X pins σ H' s'/\Q b H'
def AP (X:Cx) (pins:List (Addr×Obj)) (σ:St) (Q:List V->Hp->Prop) (us:List Value) (s':Shared):Prop:=∃vs H',Inv X pins σ H' s'/\Vals vs us/\Q vs H'
def SP (X:Cx) (pins:List (Addr×Obj)) (D:Ends) (f:Flow) (s':Shared):Prop:=
 match f with
 | .next=>∃σ' H',Inv X pins σ' H' s'/\D.nx σ' H'
 | .brk=>∃σ' H',Inv X pins σ' H' s'/\D.bk σ' H'
 | .cont=>∃σ' H',Inv X pins σ' H' s'/\D.ct σ' H'
 | .ret u=>∃v σ' H',Inv X pins σ' H' s'/\RelV v u/\D.rt v H'
def PE (X:Cx) (e:Expr) (t:TE):Prop:=
 ∀(pins:List (Addr×Obj)) (s:Shared) (σ:St) (H:Hp) (Q:VK),Inv X pins σ H s->t σ H Q->wpAny (model X.prog X.w) X.A (eval e X.env) (EP X pins σ Q) X.xe s
def PT (X:Cx) (e:Expr) (t:TT):Prop:=
 ∀(pins:List (Addr×Obj)) (s:Shared) (σ:St) (H:Hp) (Q:Bool->Hp->Prop),Inv X pins σ H s->t σ H Q->wpAny (model X.prog X.w) X.A (isTrue e X.env (eval e X.env)) (TP X pins σ Q) X.xe s
def PW (X:Cx) (e:Expr) (t:TT):Prop:=
 ∀(whole:Sem Value) (pins:List (Addr×Obj)) (s:Shared) (σ:St) (H:Hp) (Q:Bool->Hp->Prop),Inv X pins σ H s->t σ H Q->wpAny (model X.prog X.w) X.A (isTrue e X.env whole) (TP X pins σ Q) X.xe s
theorem PW.pt {X:Cx} {e:Expr} {t:TT} (h:PW X e t):PT X e t:=h _
def PA (X:Cx) (es:List Expr) (t:TA):Prop:=
 ∀(pos:Pos) (pins:List (Addr×Obj)) (s:Shared) (σ:St) (H:Hp) (Q:List V->Hp->Prop),Inv X pins σ H s->t σ H Q->wpAny (model X.prog X.w) X.A (spliced (backTo pos (starEach es X.env))) (AP X pins σ Q) X.xe s
def PS (X:Cx) (st:Stmt) (t:TS):Prop:=
 ∀(pins:List (Addr×Obj)) (s:Shared) (σ:St) (H:Hp) (D:Ends),Inv X pins σ H s->t D σ H->wpAny (model X.prog X.w) X.A (exec st X.env) (SP X pins D) X.xe s
def Ay (X:Cx) (st:List Stmt) (t:TS):Prop:=
 ∀(pins:List (Addr×Obj)) (s:Shared) (σ:St) (H:Hp) (D:Ends),Inv X pins σ H s->t D σ H->wpAny (model X.prog X.w) X.A (execs st X.env) (SP X pins D) X.xe s
theorem dH {α:Type} {t:Sem α} {Q Q':α->Shared->Prop} {M:Model} {A:Around} {E:Value->Shared->Prop} {s:Shared} (h:wpAny M A t Q E s) (hQ:∀a s,Q a s->Q' a s):wpAny M A t Q' E s:=wpAny_mono h hQ fun _ _ x=>x
end L2
namespace L2
open PySem PySem.Spec PyProof.Rows
section
variable {X:Cx}
def kh (i:Nat):TE:=fun σ H Q=>∃v,σ[i]? = some (some v)/\Q v H
def tC (v:V):TE:=fun _ H Q=>Q v H
theorem Rf {i:Nat} {x:Str} {pos:Pos} (hN:X.N[i]? = some x) (hv:Xk X.env.scope x) (hd:(x==("__debug__" :Str))=false:=by decide) (hcd:(x==("__classdict__" :Str))=false:=by decide):PE X (.Name x pos) (kh i):=by
 intro pins s σ H Q I h;obtain ⟨v,e,h⟩:=h;obtain ⟨m,hn,hl⟩:=I.loc;obtain ⟨u,r,l⟩:=hl i x v hN e hv;have fin:EP X pins σ Q u s:=⟨v,H,I,r,h⟩;rcases l with ⟨hk,hm⟩|⟨hk,c,hc,hcell⟩
 ·exact wpAny_Name (wpAny_loadName_local I.ok.kind hk hn hm fin) hd
 ·rcases hk with hk|hk
  ·exact wpAny_Name (wpAny_loadName_cell I.ok.kind hk hc hcell fin) hd
  ·exact wpAny_Name (wpAny_loadName_free I.ok.kind hk hc hcell fin hcd) hd
theorem aA {i j pos}:PE X (.Constant (.int i) j pos) (tC (.int i)):=fun _ _ _ H _ I h=>wpAny_Constant_int ⟨.int i,H,I.tok _,⟨_,rfl⟩,h⟩
theorem gH {b j pos}:PE X (.Constant (.bool b) j pos) (tC (.bl b)):=fun _ _ _ H _ I h=>Constant_bool ⟨.bl b,H,I,rfl,h⟩
theorem eF {j pos}:PE X (.Constant .none j pos) (tC .non):=fun _ _ _ H _ I h=>Constant_none ⟨.non,H,I,rfl,h⟩
theorem bD {x j pos}:PE X (.Constant (.str x) j pos) (tC (.str x)):=fun _ _ _ H _ I h=>Calls.Constant_str ⟨.str x,H,I.tok _,⟨_,rfl⟩,h⟩
def Gl (X:Cx) (x:Str):Prop:=X.env.kindOf x=some .globalImplicit
theorem lu {E:Value->Shared->Prop} {pins:List (Addr×Obj)} {s:Shared} {σ:St} {H:Hp} {x:Str} {u:Value} {pos:Pos} {Q:Value->Shared->Prop} (I:Inv X pins σ H s) (hg:Gl X x) (hm:X.mg x=some u) (h:Q u s)
 (hd:(x==("__debug__" :Str))=false:=by decide):wpAny (model X.prog X.w) X.A (eval (.Name x pos) X.env) Q E s:=
 Calls.Name_function_global I.ok.kind hg (Calls.loadGlobal_global (by rw [I.ok.glob];exact I.mod.glob.keeps I.bk) hm h) hd
theorem qP {E:Value->Shared->Prop} {pins:List (Addr×Obj)} {s:Shared} {σ:St} {H:Hp} {x:Str} {u:Value} {pos:Pos} {Q:Value->Shared->Prop} (I:Inv X pins σ H s) (hg:Gl X x) (hm:X.mg x=none) (hv:bootBuiltins x=some u) (h:Q u s)
 (hn:x ≠ "__name__" :=by decide) (hd:(x==("__debug__" :Str))=false:=by decide):wpAny (model X.prog X.w) X.A (eval (.Name x pos) X.env) Q E s:=by
 obtain ⟨mb,h1,h2⟩:=I.mod.blt;exact Calls.Name_function_global I.ok.kind hg (Calls.loadGlobal_builtin (by rw [I.ok.glob];exact I.mod.glob.keeps I.bk) hm (by rw [I.ok.blt];exact h1.keeps I.bk) ((h2 x hn).trans hv) h) hd
theorem h_ {x:Str} {v:V} {u:Value} {pos:Pos} (hg:Gl X x) (hm:X.mg x=some u) (r:RelV v u) (hd:(x==("__debug__" :Str))=false:=by decide):PE X (.Name x pos) (tC v):=
 fun _ _ _ H _ I h=>lu I hg hm ⟨v,H,I,r,h⟩ hd
theorem d8 {x:Str} {v:V} {u:Value} {pos:Pos} (hg:Gl X x) (hm:X.mg x=none) (hv:bootBuiltins x=some u) (r:RelV v u) (hn:x ≠ "__name__" :=by decide) (hd:(x==("__debug__" :Str))=false:=by decide):PE X (.Name x pos) (tC v):=
 fun _ _ _ H _ I h=>qP I hg hm hv ⟨v,H,I,r,h⟩ hn hd
variable {a b:Expr} {ta tb:TE} {pos:Pos}
def tB (t:TE):TT:=fun σ H Q=>t σ H fun x H1=>∃c,x = .bl c/\Q c H1
theorem dR {e:Expr} {t:TE} (h:PE X e t) (he:∀whole,isTrue e X.env whole=(do let v ←whole;standAt e.pos;holding [v] (truthy v)):=by intro _;rfl):PT X e (tB t):=by
 intro pins s σ H Q I hw;refine isTrue_plain (dH (h pins s σ H _ I hw) fun v s1 ⟨x,H1,I1,r1,q1⟩=> ?_) (he _);obtain ⟨d,rfl,q⟩:=q1;cases r1;exact wpAny_truthy_bool ⟨H1,I1,q⟩
variable {tA X7:TT} {rest:List Expr}
def Zi (t u:TT):TT:=fun σ H Q=>t σ H fun c H1=>if c=true then u σ H1 Q else Q false H1
def tOr (t u:TT):TT:=fun σ H Q=>t σ H fun c H1=>if c=true then Q true H1 else u σ H1 Q
def Zd (t:TT):TT:=fun σ H Q=>t σ H fun c H1=>Q (!c) H1
theorem i_ (ha:PT X a tA):PW X (.BoolOp .And [a] pos) tA:=by
 intro wh pins s σ H Q I h;refine isTrue_and (dH (ha pins s σ H Q I h) fun c s1 e=> ?_);cases c with
 | true=>exact isTrue_and_nil e
 | false=>exact e
theorem iM (ha:PT X a tA):PW X (.BoolOp .Or [a] pos) tA:=by
 intro wh pins s σ H Q I h;refine isTrue_or (dH (ha pins s σ H Q I h) fun c s1 e=> ?_);cases c with
 | false=>exact isTrue_or_nil e
 | true=>exact e
theorem jN (ha:PT X a tA) (hb:PW X (.BoolOp .And (b::rest) pos) X7):PW X (.BoolOp .And (a::b::rest) pos) (Zi tA X7):=by
 intro wh pins s σ H Q I h;refine isTrue_and (dH (ha pins s σ H _ I h) fun c s1 ⟨H1,I1,q1⟩=> ?_);cases c with
 | true=>exact hb wh pins s1 σ H1 Q I1 q1
 | false=>exact ⟨H1,I1,q1⟩
theorem lN (ha:PT X a tA) (hb:PW X (.BoolOp .Or (b::rest) pos) X7):PW X (.BoolOp .Or (a::b::rest) pos) (tOr tA X7):=by
 intro wh pins s σ H Q I h;refine isTrue_or (dH (ha pins s σ H _ I h) fun c s1 ⟨H1,I1,q1⟩=> ?_);cases c with
 | true=>exact ⟨H1,I1,q1⟩
 | false=>exact hb wh pins s1 σ H1 Q I1 q1
theorem fD (ha:PT X a tA):PT X (.UnaryOp .Not a pos) (Zd tA):=by
 intro pins s σ H Q I h;exact isTrue_not (ha pins s σ H (fun c H1=>Q (!c) H1) I h)
def Pr (ta tb:TE):TE:=fun σ H Q=>ta σ H fun x H1=>∃c,x = .bl c/\if c=true then tb σ H1 Q else Q (.bl false) H1
def Vn (ta:TE):TE:=fun σ H Q=>ta σ H fun x H1=>∃c,x = .bl c/\Q (.bl (!c)) H1
theorem o7 {op} {t:TE} (h:PE X a t):PE X (.BoolOp op [a] pos) t:=fun pins s σ H Q I hw=>BoolOp_one (h pins s σ H Q I hw)
theorem mV (ha:PE X a ta) (hb:PE X (.BoolOp .And (b::rest) pos) tb):PE X (.BoolOp .And (a::b::rest) pos) (Pr ta tb):=by
 intro pins s σ H Q I h;refine BoolOp_and (dH (ha pins s σ H _ I h) fun v s1 ⟨x,H1,I1,r1,q1⟩=> ?_);obtain ⟨c,rfl,q1⟩:=q1;cases r1;refine wpAny_truthy_bool ?_;cases c with
 | true=>exact hb pins s1 σ H1 Q I1 q1
 | false=>exact ⟨.bl false,H1,I1,rfl,q1⟩
theorem Iw (ha:PE X a ta):PE X (.UnaryOp .Not a pos) (Vn ta):=by
 intro pins s σ H Q I h;refine UnaryOp_ (dH (ha pins s σ H _ I h) fun v s1 ⟨x,H1,I1,r1,q1⟩=> ?_);obtain ⟨c,rfl,q1⟩:=q1;cases r1;exact not_of (wpAny_truthy_bool ⟨.bl (!c),H1,I1,rfl,q1⟩)
def tIf (t:TT) (ta tb:TE):TE:=fun σ H Q=>t σ H fun c H1=>if c=true then ta σ H1 Q else tb σ H1 Q
theorem ju {c:Expr} (hc:PT X c tA) (ha:PE X a ta) (hb:PE X b tb):PE X (.IfExp c a b pos) (tIf tA ta tb):=by
 intro pins s σ H Q I h;refine wpAny_IfExp (dH (hc pins s σ H _ I h) fun d s1 ⟨H1,I1,q1⟩=> ?_);cases d with
 | true=>exact ha pins s1 σ H1 Q I1 q1
 | false=>exact hb pins s1 σ H1 Q I1 q1
end
end L2
namespace L2
open PySem PySem.Spec PyProof.Rows
def aY (K:PySem.W.Frag) (H:Hp) (a:Addr) (xs:List V):Prop:=
 Rd H a (.lst xs) \/
  ∃(o:Obj) (its:Array Value) (n:Nat),K.lookup a=some o/\o.cls = .type "list" /\ o.dict=none/\o.data = .seq its n/\its.size<=sizeLine/\Vals xs its.toList
def cu (K:PySem.W.Frag) (H:Hp) (a:Addr) (xs:List V):Prop:=
 Rd H a (.tup xs) \/
  ∃(o:Obj) (its:Array Value) (n:Nat),K.lookup a=some o/\o.cls = .type "tuple" /\ o.data = .seq its n/\its.size<=sizeLine/\Vals xs its.toList
def abF:Value->Option V
 | .none=>some .non
 | .bool b=>some (.bl b)
 | .int i _=>some (.int i)
 | .str x _=>some (.str x)
 | .bytes b _=>some (.GZ b)
 | .float b _=>some (.flt b)
 | .ref a=>some (.ref a)
 | .type n=>some (.ty n)
 | _=>none
theorem RelV.abs {x:V} {u:Value} (r:RelV x u):abF u=some x:=by
 cases x with
 | non=>cases r;rfl
 | bl _=>cases r;rfl
 | int _=>obtain ⟨t,rfl⟩:=r;rfl
 | str _=>obtain ⟨t,rfl⟩:=r;rfl
 | GZ _=>obtain ⟨t,rfl⟩:=r;rfl
 | flt _=>obtain ⟨t,rfl⟩:=r;rfl
 | ref _=>cases r;rfl
 | ty _=>cases r;rfl
theorem RelV.inj {x y:V} {u:Value} (r:RelV x u) (q:RelV y u):x=y:=Option.some.inj (r.abs.symm.trans q.abs)
theorem Vals.inj {xs ys:List V} {us:List Value} (h:Vals xs us) (h':Vals ys us):xs=ys:=by
 induction h generalizing ys with
 | nil=>cases h';rfl
 | cons r t ih=>cases h' with
   | cons r' t'=>rw [r.inj r',ih t']
section
variable {X:Cx} {pins:List (Addr×Obj)} {σ:St} {H:Hp} {s:Shared} {a:Addr} {xs ys:List V}
theorem aY.of {K:PySem.W.Frag} (h:H a=some (.lst xs)):aY K H a xs:= .inl (.inl h)
theorem cu.of {K:PySem.W.Frag} (h:H a=some (.tup xs)):cu K H a xs:= .inl (.inl h)
theorem Inv.list (I:Inv X pins σ H s) (h:aY X.K H a xs):∃its:List Value,Vals xs its/\PlainL s.heap a its.toArray/\xs.length<=sizeLine:=by
 rcases h with h|⟨o,its,n,hk,hc,hd,hs,hz,r⟩
 ·obtain ⟨z,its,n,r,e⟩:=h.ok I.hok
  exact ⟨its,r,⟨_,n,e,rfl,rfl,rfl⟩,z⟩
 ·refine ⟨its.toList,r,⟨o,n,I.mZ a o hk,hc,hd,by simpa using hs⟩, ?_⟩
  have e:=r.length;simp only [Array.length_toList] at e;omega
theorem Inv.tuple (I:Inv X pins σ H s) (h:cu X.K H a xs):∃its:List Value,Vals xs its/\IsTup s.heap a its.toArray/\xs.length<=sizeLine:=by
 rcases h with h|⟨o,its,n,hk,hc,hs,hz,r⟩
 ·obtain ⟨z,its,r,p⟩:=h.ok I.hok
  exact ⟨its,r,p,z⟩
 ·refine ⟨its.toList,r,⟨o,I.mZ a o hk,hc,n,by simpa using hs⟩, ?_⟩
  have e:=r.length;simp only [Array.length_toList] at e;omega
theorem Inv.uG (I:Inv X pins σ H s) (h:aY X.K H a xs) (h':aY X.K H a ys):xs=ys:=by
 obtain ⟨its,r,⟨o,n,e,_,_,d⟩,_⟩:=I.list h;obtain ⟨its',r',⟨o',n',e',_,_,d'⟩,_⟩:=I.list h';rw [e] at e';cases e';rw [d] at d';injection d' with d1 _
 have:its=its':=by simpa using congrArg Array.toList d1
 subst this;exact r.inj r'
theorem Inv.vK (I:Inv X pins σ H s) (h:cu X.K H a xs) (h':cu X.K H a ys):xs=ys:=by
 obtain ⟨its,r,⟨o,e,_,n,d⟩,_⟩:=I.tuple h;obtain ⟨its',r',⟨o',e',_,n',d'⟩,_⟩:=I.tuple h';rw [e] at e';cases e';rw [d] at d';injection d' with d1 _
 have:its=its':=by simpa using congrArg Array.toList d1
 subst this;exact r.inj r'
end
abbrev Cx.wish (X:Cx) (E:Value->Shared->Prop):Cx:={X with xe:=E}
abbrev Cx.Yp (X:Cx):Cx:=X.wish fun _ _=>False
theorem Cx.Ok.wish {X:Cx} (ok:X.Ok) (E:Value->Shared->Prop):(X.wish E).Ok:=
 ⟨ok.mod,ok.kind,ok.glob,ok.blt,ok.above,ok.inj,ok.has,ok.cab,ok.hd,ok.frames,ok.stk,ok.U4,ok.bs,ok.CP,ok.yh,ok.Ah,ok.mj,ok.Hr⟩
theorem Cx.Ok.mH {X:Cx} {E:Value->Shared->Prop} (ok:(X.wish E).Ok):X.Ok:=
 ⟨ok.mod,ok.kind,ok.glob,ok.blt,ok.above,ok.inj,ok.has,ok.cab,ok.hd,ok.frames,ok.stk,ok.U4,ok.bs,ok.CP,ok.yh,ok.Ah,ok.mj,ok.Hr⟩
section
variable {X:Cx} {pins:List (Addr×Obj)} {σ:St} {H:Hp} {s:Shared} {E:Value->Shared->Prop}
theorem Inv.wish (I:Inv X pins σ H s) (E:Value->Shared->Prop):Inv (X.wish E) pins σ H s:=⟨I.ok.wish E,I.os,I.bare,I.base,I.loc,I.cell,I.free,I.iB,I.pin,I.hok,I.len⟩
theorem Inv.mH (I:Inv (X.wish E) pins σ H s):Inv X pins σ H s:=⟨I.ok.mH,I.os,I.bare,I.base,I.loc,I.cell,I.free,I.iB,I.pin,I.hok,I.len⟩
theorem SP.mH {D:Ends} {f:Flow} {s':Shared} (h:SP (X.wish E) pins D f s'):SP X pins D f s':=by
 cases f with
 | next=>obtain ⟨σ',H',I,q⟩:=h;exact ⟨σ',H',I.mH,q⟩
 | brk=>obtain ⟨σ',H',I,q⟩:=h;exact ⟨σ',H',I.mH,q⟩
 | cont=>obtain ⟨σ',H',I,q⟩:=h;exact ⟨σ',H',I.mH,q⟩
 | ret u=>obtain ⟨v,σ',H',I,r,q⟩:=h;exact ⟨v,σ',H',I.mH,r,q⟩
theorem Ay.Yp {st:List Stmt} {t:TS} (h:Ay X.Yp st t):Ay X st t:=fun pins s σ H D I hw=>
 wpAny_mono (h pins s σ H D (I.wish _) hw) (fun _ _ q=>q.mH) fun _ _ z=>False.elim z
end
section
variable {X:Cx} {st:Stmt} {rest:List Stmt} {t u:TS} {e:Expr} {te:TE} {pos:Pos}
def zA:TS:=fun D σ H=>D.nx σ H
def Fv (t u:TS):TS:=fun D σ H=>t {D with nx:=u D} σ H
theorem bw:Ay X [] zA:=fun _ _ σ H _ I h=>wpAny_execs_nil ⟨σ,H,I,h⟩
theorem aB (h1:PS X st t) (h2:Ay X rest u):Ay X (st::rest) (Fv t u):=by
 intro pins s σ H D I h;refine wpAny_execs_cons (dH (h1 pins s σ H {D with nx:=u D} I h) fun f s1 q=> ?_);cases f with
 | next=>
   obtain ⟨σ',H',I',q⟩:=q;exact h2 pins s1 σ' H' D I' q
 | ret v=>exact q
 | brk=>exact q
 | cont=>exact q
theorem aG (h1:PS X st t):Ay X [st] t:=by
 intro pins s σ H D I h;refine wpAny_execs_cons (dH (h1 pins s σ H D I h) fun f s1 q=> ?_);cases f with
 | next=>exact wpAny_execs_nil q
 | ret v=>exact q
 | brk=>exact q
 | cont=>exact q
theorem Inv.quiet {pins:List (Addr×Obj)} {σ:St} {H:Hp} {s:Shared} (I:Inv X pins σ H s):interactive X.env=false:=by simp [interactive,I.ok.kind]
def Pq (te:TE):TS:=fun D σ H=>te σ H fun _ H1=>D.nx σ H1
theorem cH (he:PE X e te) (hs:swapsWith e none pos.line X.env=pure false:=by rfl):PS X (.Expr e pos) (Pq te):=by
 intro pins s σ H D I h;exact wpAny_Expr_any (dH (he pins s σ H _ I h) fun v s1 ⟨x,H1,I1,r1,q1⟩=>⟨σ,H1,I1,q1⟩) I.quiet hs
def Vl (te:TE):TS:=fun D σ H=>te σ H D.rt
theorem aV (he:PE X e te):PS X (.Return (some e) pos) (Vl te):=by
 intro pins s σ H D I h;exact wpAny_Return_some (dH (he pins s σ H _ I h) fun v s1 ⟨x,H1,I1,r1,q1⟩=>⟨x,σ,H1,I1,r1,q1⟩)
def Vk:TS:=fun D _ H=>D.rt .non H
theorem DN:PS X (.Return none pos) Vk:=fun _ _ σ H _ I h=>wpAny_Return_none ⟨.non,σ,H,I,rfl,h⟩
def Vq (c:TT) (t u:TS):TS:=fun D σ H=>c σ H fun b H1=>if b=true then t D σ H1 else u D σ H1
theorem bL {c:Expr} {a b:List Stmt} {tc:TT} (hc:PT X c tc) (ha:Ay X a t) (hb:Ay X b u):PS X (.If c a b pos) (Vq tc t u):=by
 intro pins s σ H D I h;refine wpAny_If (dH (hc pins s σ H _ I h) fun d s1 ⟨H1,I1,q1⟩=> ?_);cases d with
 | true=>exact ha pins s1 σ H1 D I1 q1
 | false=>exact hb pins s1 σ H1 D I1 q1
end
abbrev TG:=V->St->Hp->(St->Hp->Prop)->Prop
abbrev K7:=List V->St->Hp->(St->Hp->Prop)->Prop
def PG (X:Cx) (target:Expr) (t:TG):Prop:=
 ∀(pins:List (Addr×Obj)) (s:Shared) (σ:St) (H:Hp) (v:V) (u:Value) (Q:St->Hp->Prop),Inv X pins σ H s->RelV v u->t v σ H Q ->
  wpAny (model X.prog X.w) X.A (assign target X.env u) (fun _ s'=>∃σ' H',Inv X pins σ' H' s'/\Q σ' H') X.xe s
def U9 (X:Cx) (ts:List Expr) (t:K7):Prop:=
 ∀(pins:List (Addr×Obj)) (s:Shared) (σ:St) (H:Hp) (vs:List V) (us:List Value) (Q:St->Hp->Prop),Inv X pins σ H s->Vals vs us->t vs σ H Q ->
  wpAny (model X.prog X.w) X.A (assignInOrder ((assignEach ts X.env).map (·.2)) us) (fun _ s'=>∃σ' H',Inv X pins σ' H' s'/\Q σ' H') X.xe s
abbrev TF:=V->V->V->Hp->(Hp->Prop)->Prop
def Xx (X:Cx) (t:TF):Prop:=
 ∀(pins:List (Addr×Obj)) (s:Shared) (σ:St) (H:Hp) (o i v:V) (ov iv u:Value) (Q:Hp->Prop),Inv X pins σ H s->RelV o ov->RelV i iv->RelV v u->t o i v H Q ->
  wpAny (model X.prog X.w) X.A (setItem ov iv u) (fun _ s'=>∃H',Inv X pins σ H' s'/\Q H') X.xe s
abbrev YM:=V->V->Hp->VK->Prop
def PIp (X:Cx) (op:Operator) (t:YM):Prop:=
 ∀(pins:List (Addr×Obj)) (s:Shared) (σ:St) (H:Hp) (x y:V) (v u:Value) (Q:VK),Inv X pins σ H s->RelV x v->RelV y u->t x y H Q ->
  wpAny (model X.prog X.w) X.A (inplaceOp op v u) (EP X pins σ Q) X.xe s
section
variable {X:Cx} {pos:Pos}
def bV (i:Nat):TG:=fun v σ H Q=>Q (σ.set i (some v)) H
theorem bI {i:Nat} {x:Str} (hN:X.N.Nodup) (hi:X.N[i]? = some x) (hx:Loc X.env.scope x) (hf:X.fn x=true\/X.env.scope.names.lookup x=some .local:=by first |exact .inl rfl|exact .inr rfl|assumption):PG X (.Name x pos) (bV i):=by
 intro pins s σ H v u Q I r h;exact wpAny_assign_Name (pO I hN hi hx r (fun s' I'=>⟨_,H,I',h⟩) hf)
def S5:K7:=fun vs σ H Q=>vs=[]/\Q σ H
def Ae (t:TG) (u:K7):K7:=fun vs σ H Q=>∃v r,vs=v::r/\t v σ H fun σ' H'=>u r σ' H' Q
theorem sG:U9 X [] S5:=by
 intro pins s σ H vs us Q I r h;obtain ⟨e,h⟩:=h;subst e;cases r;exact assignInOrder_nil ⟨σ,H,I,h⟩
theorem iy {e:Expr} {es:List Expr} {t:TG} {u:K7} (h1:PG X e t) (h2:U9 X es u)
 (hs:(assignEach (e::es) X.env).map (·.2)=assign e X.env::(assignEach es X.env).map (·.2):=by rfl):U9 X (e::es) (Ae t u):=by
 intro pins s σ H vs us Q I r h;obtain ⟨v,vr,e1,h⟩:=h;subst e1;cases r with
 | cons r rr=>
   rw [hs];refine assignInOrder_cons (dH (h1 pins s σ H _ _ _ I r h) fun _ s1 ⟨σ1,H1,I1,q1⟩=> ?_);exact h2 pins s1 σ1 H1 _ _ Q I1 rr q1
def NK (K:PySem.W.Frag) (n:Nat) (t:K7):TG:=fun v σ H Q=>∃a xs,v = .ref a/\cu K H a xs/\xs.length=n/\t xs σ H Q
theorem Rc {es:List Expr} {k:Nat} {t:K7} {n:Nat} (hc:X.calm=true) (h:U9 X es t)
 (hn:(assignEach es X.env).length=n:=by rfl) (hst:(assignEach es X.env).findIdx? (·.1)=none:=by rfl):PG X (.Tuple es k pos) (NK X.K n t):=by
 intro pins s σ H v u Q I r hw;obtain ⟨a,xs,e1,hq,hl,hw⟩:=hw;subst e1;cases r;obtain ⟨its,rv,ht,hz⟩:=I.tuple hq;refine assign_Tuple_tuple (I.ok.hd hc) ht (by simp [hn,←hl,rv.length]) hst fun h' hx=> ?_;have I1:Inv X pins σ H {s with heap:=h'}:=I.kept (t':=s.toks) fun b o e=>hx b o (Nat.ne_of_lt (Heap.lt_size e)) e;exact h pins _ σ H xs _ Q I1 (by simpa using rv) hw
def SX (to ti:TE) (t:TF):TG:=fun v σ H Q=>to σ H fun o H1=>ti σ H1 fun i H2=>t o i v H2 fun H3=>Q σ H3
theorem gB {o i:Expr} {to ti:TE} {t:TF} (ho:PE X o to) (hi:PE X i ti) (hs:Xx X t)
 (ha:∀v,assign (.Subscript o i pos) X.env v=(do
   let ov ←holding [v] (eval o X.env)
   let iv ←holding [v,ov] (eval i X.env)
   standAt pos
   holding [v,ov,iv] (setItem ov iv v)
   release [v,ov,iv] []):=by intro _;rfl):PG X (.Subscript o i pos) (SX to ti t):=by
 intro pins s σ H v u Q I r h;rw [ha];refine wpAny_bind (wpAny_holding (dH (ho pins s σ H _ I h) fun ov s1 ⟨x,H1,I1,r1,q1⟩=> ?_));refine wpAny_bind (wpAny_holding (dH (hi pins s1 σ H1 _ I1 q1) fun iv s2 ⟨y,H2,I2,r2,q2⟩=> ?_));refine wpAny_bind (wpAny_standAt (wpAny_bind (wpAny_holding (dH (hs pins s2 σ H2 x y v ov iv u _ I2 r1 r2 r q2) fun _ s3 ⟨H3,I3,q3⟩=> ?_))));exact wpAny_release ⟨σ,H3,I3,q3⟩
def Fw (te:TE) (g:TG):TS:=fun D σ H=>te σ H fun x H1=>g x σ H1 D.nx
theorem fQ {tg e:Expr} {te:TE} {g:TG} (he:PE X e te) (hg:PG X tg g) (hs:swapsWithSole [tg] e pos.line X.env=pure false:=by rfl) (hw:swappedStores [tg] e X.env=pure none:=by rfl)
 (h1:(assignEach [tg] X.env).map (·.2)=[assign tg X.env]:=by rfl):PS X (.Assign [tg] e pos) (Fw te g):=by
 intro pins s σ H D I h;refine wpAny_Assign_stores (dH (he pins s σ H _ I h) fun v s1 ⟨x,H1,I1,r1,q1⟩=> ?_) hs hw;rw [h1];exact dH (hg pins s1 σ H1 x v _ I1 r1 q1) fun _ s2 q=>q
theorem aW {i:Nat} {x:Str} {e:Expr} {te:TE} {pos':Pos} (hN:X.N.Nodup) (hi:X.N[i]? = some x) (hx:Loc X.env.scope x) (he:PE X e te) (hs:swapsWith e (some (.Name x pos')) pos.line X.env=pure false:=by rfl) (hf:X.fn x=true\/X.env.scope.names.lookup x=some .local:=by first |exact .inl rfl|exact .inr rfl|assumption):
 PS X (.Assign [.Name x pos'] e pos) (Fw te (bV i)):=by
 intro pins s σ H D I h;refine wpAny_Assign_Name (dH (he pins s σ H _ I h) fun v s1 ⟨y,H1,I1,r1,q1⟩=> ?_) hs;exact pO I1 hN hi hx r1 (fun s2 I2=>⟨_,H1,I2,q1⟩) hf
def Zh (i:Nat) (te:TE) (ti:YM):TS:=fun D σ H=>∃x,σ[i]? = some (some x)/\te σ H fun y H1=>ti x y H1 fun z H2=>D.nx (σ.set i (some z)) H2
theorem Q9 {i:Nat} {x:Str} {e:Expr} {te:TE} {op:Operator} {ti:YM} {pos':Pos} (hN:X.N.Nodup) (hi:X.N[i]? = some x) (hx:Loc X.env.scope x) (he:PE X e te) (ho:PIp X op ti) (hf:X.fn x=true\/X.env.scope.names.lookup x=some .local:=by first |exact .inl rfl|exact .inr rfl|assumption):
 PS X (.AugAssign (.Name x pos') op e pos) (Zh i te ti):=by
 intro pins s σ H D I h;obtain ⟨v,e1,h⟩:=h;obtain ⟨m,hn,hl⟩:=I.loc;have vis:Xk X.env.scope x:=by rcases hx with k|k;exact .inl k;exact .inr (.inl k)
 obtain ⟨u,r,l⟩:=hl i x v hi e1 vis;refine wpAny_AugAssign_Name ?_
 have go:wpAny (model X.prog X.w) X.A (eval e X.env) (fun w s₂=>wpAny (model X.prog X.w) X.A (inplaceOp op u w) (fun r s₃=>wpAny (model X.prog X.w) X.A (storeName X.env x r) (fun _=>SP X pins D .next) X.xe s₃) X.xe s₂) X.xe s:=by
  refine dH (he pins s σ H _ I h) fun w s1 ⟨y,H1,I1,r1,q1⟩=> ?_;refine dH (ho pins s1 σ H1 v y u w _ I1 r r1 q1) fun z s2 ⟨zv,H2,I2,r2,q2⟩=> ?_;exact pO I2 hN hi hx r2 (fun s3 I3=>⟨_,H2,I3,q2⟩) hf
 rcases l with ⟨hk,hm⟩|⟨hk,c,hc,hcell⟩
 ·exact wpAny_loadName_local I.ok.kind hk hn hm go
 ·rcases hk with hk|hk
  ·exact wpAny_loadName_cell I.ok.kind hk hc hcell go
  ·rcases hx with k|k
   ·have:X.env.scope.names.lookup x=some .free:=hk
    rw [k] at this;cases this
   ·have:X.env.scope.names.lookup x=some .free:=hk
    rw [k] at this;cases this
def ipI (f:Int->Int->Int):YM:=fun x y H Q=>∃i j,x = .int i/\y = .int j/\Q (.int (f i j)) H
theorem Cu:PIp X .Add (ipI fun i j=>i+j):=by
 intro pins s σ H x y v u Q I r1 r2 h;obtain ⟨i,j,e1,e2,q⟩:=h;subst e1;subst e2;obtain ⟨t,rfl⟩:=r1;obtain ⟨t',rfl⟩:=r2;exact iadd_int ⟨.int _,H,I.tok _,⟨_,rfl⟩,q⟩
end
section
variable {X:Cx} {pos:Pos}
def QC (c:TT) (tb:TS):TS:=fun D σ H=>∃W:Nat->St->Hp->Prop,(∃m,W m σ H) /\ ∀m σ H,W m σ H ->
 c σ H fun b H1=>if b=true then ∃N:St->Hp->Prop,(∀σ' H',N σ' H' -> ∃m',m'<m/\W m' σ' H')/\tb {D with nx:=N,ct:=N,bk:=D.nx} σ H1 else D.nx σ H1
theorem zQ {c:Expr} {body:List Stmt} {tc:TT} {tb:TS} (hp:PassesOwn (model X.prog X.w) X.A X.env X.xe) (hc:PT X c tc) (hb:Ay X body tb):PS X (.While c body [] pos) (QC tc tb):=by
 intro pins s σ H D I h;obtain ⟨W,⟨m0,w0⟩,turn⟩:=h;refine wpAny_While (codeAny_whileLoop (fun n s'=>∃σ' H',Inv X pins σ' H' s'/\W n σ' H') ?_ m0 ⟨σ,H,I,w0⟩);rintro n s1 ⟨σ1,H1,I1,w1⟩;refine wpAny_passesOwn hp (dH (hc pins s1 σ1 H1 _ I1 (turn n σ1 H1 w1)) fun b s2 ⟨H2,I2,q2⟩=> ?_);cases b with
 | true=>
   obtain ⟨N,hN,q2⟩:=q2;rw [if_pos rfl];refine wpAny_passesOwn hp (dH (hb pins s2 σ1 H2 _ I2 q2) fun f s3 q3=> ?_);cases f with
   | next=>
     obtain ⟨σ3,H3,I3,n3⟩:=q3;obtain ⟨m',hm,w3⟩:=hN σ3 H3 n3;exact ⟨m',hm,σ3,H3,I3,w3⟩
   | cont=>
     obtain ⟨σ3,H3,I3,n3⟩:=q3;obtain ⟨m',hm,w3⟩:=hN σ3 H3 n3;exact ⟨m',hm,σ3,H3,I3,w3⟩
   | brk=>exact q3
   | ret v=>exact q3
 | false=>
   rw [if_neg Bool.false_ne_true];exact wpAny_execs_nil ⟨σ1,H2,I2,q2⟩
end
structure It where
 go:Nat->Hp->Prop
 Ui:Nat->Hp->V->Hp->Prop
 stop:Nat->Hp->Prop
def nY (X:Cx) (pins:List (Addr×Obj)) (H:Hp) (b:Addr):Prop:=
 H b=none/\b≠X.env.locals/\b∉X.fs/\(b∈X.ex\/X.s₀.heap.objs.size<=b)/\(∀x c,X.env.cells.lookup x=some c->c≠b) /\ ∀p∈X.pn++pins,p.1≠b
theorem Inv.yG {X:Cx} {pins:List (Addr×Obj)} {σ:St} {H H':Hp} {s:Shared} {b:Addr} (I:Inv X pins σ H s) (hb:s.heap.objs.size<=b) (hn:H' b=none):nY X pins H' b:=by
 refine ⟨hn,Nat.ne_of_gt (Nat.lt_of_lt_of_le I.lt hb),I.aay hb,.inr (Nat.le_trans I.sz hb),fun x c e z=> ?_,fun p hp z=> ?_⟩
 ·obtain ⟨v,q⟩:=I.cell x c e
  exact absurd (Nat.lt_of_lt_of_le q.lt (by rw [z];exact hb)) (Nat.lt_irrefl _)
 ·exact absurd (Nat.lt_of_lt_of_le (Heap.lt_size (I.pin p hp).1) (by rw [z];exact hb)) (Nat.lt_irrefl _)
structure Turn (P:Program) (w:World) (K:PySem.W.Frag) (tg:Expr) (J:It) (fp:List Addr) (it:Addr) (tn:Nat->Heap->Prop):Prop where
 mem:it∈fp
 obj:∀i h,tn i h -> ∀b∈fp,∃o,h.get? b=some o /\ ∀v,o.data ≠ .cell v
 keep:∀i h h',tn i h->(∀b∈fp,∀o,h.get? b=some o->h'.get? b=some o)->tn i h'
 item:∀(X:Cx),X.prog=P->X.w=w->X.K=K->X.calm=true -> ∀(i:Nat) (pins:List (Addr×Obj)) (s:Shared) (σ:St) (H:Hp) (E:Value->Shared->Prop),Inv X pins σ H s->(∀b∈fp,nY X pins H b)->tn i s.heap->J.go i H ->
  wpAny (model P w) X.A (pyNext (.ref it)) (fun r s1=>∃u,r=some u /\
   wpAny (model P w) X.A (letOwnedTupleGo tg (.ref it) u) (fun _ s2=>∃x H',Inv X pins σ H' s2/\RelV x u/\J.Ui i H x H'/\tn (i+1) s2.heap /\ ∀b∈fp,H' b=none) E s1) E s
 done:∀(X:Cx),X.prog=P->X.w=w->X.K=K->X.calm=true -> ∀(i:Nat) (pins:List (Addr×Obj)) (s:Shared) (σ:St) (H:Hp) (E:Value->Shared->Prop),Inv X pins σ H s->(∀b∈fp,nY X pins H b)->tn i s.heap->J.stop i H ->
  wpAny (model P w) X.A (pyNext (.ref it)) (fun r s1=>r=none/\Inv X pins σ H s1) E s
 self:∀(A:Around) (i:Nat) (s:Shared) (Q:Value->Shared->Prop) (E:Value->Shared->Prop),tn i s.heap->Q (.ref it) s->wpAny (model P w) A (pyIter (.ref it)) Q E s
abbrev TI:=St->Hp->(It->Hp->Prop)->Prop
def PIE (X:Cx) (pins:List (Addr×Obj)) (σ:St) (tg:Expr) (R:It->Hp->Prop) (itv:Value) (s2:Shared):Prop:=
 ∃(it:Addr) (fp:List Addr) (tn:Nat->Heap->Prop) (J:It) (H':Hp),itv = .ref it/\Inv X pins σ H' s2/\Turn X.prog X.w X.K tg J fp it tn/\tn 0 s2.heap/\(∀b∈fp,nY X pins H' b)/\R J H'
def PI (X:Cx) (tg iter:Expr) (wi:TI):Prop:=
 ∀(pins:List (Addr×Obj)) (s:Shared) (σ:St) (H:Hp) (R:It->Hp->Prop),Inv X pins σ H s->wi σ H R ->
  wpAny (model X.prog X.w) X.A (eval iter X.env) (fun v s1=>wpAny (model X.prog X.w) X.A (pyIter v) (PIE X pins σ tg R) X.xe s1) X.xe s
theorem Ej {M:Model} {A:Around} {E:Value->Shared->Prop} {s:Shared} {tg:Expr} {it:Addr} {u:Value} {o:Obj} {n:String} {vs:Array Value} {Q:Unit->Shared->Prop} (ho:s.heap.get? it=some o) (hc:o.cls = .type n) (hd:o.data = .fields vs)
 (hn:["enumerate","zip","dict_itemiterator","dict_reverseitemiterator","odict_iterator","itertools.zip_longest","itertools.pairwise"].contains n=false) (hQ:Q () s):wpAny M A (letOwnedTupleGo tg (.ref it) u) Q E s:=by
 unfold letOwnedTupleGo
 cases tg<;>first
  | exact wpAny_pure hQ
  | (cases u<;>first
      | exact wpAny_pure hQ
      | (refine wpAny_bind (wpAny_load ho ?_)
         rw [hc,hd];show wpAny M A (if (["enumerate","zip","dict_itemiterator","dict_reverseitemiterator","odict_iterator","itertools.zip_longest","itertools.pairwise"].contains n&&vs[0]? == some (rawInt _))=true then _ else _) Q E s;rw [if_neg (by intro h;rw [hn,Bool.false_and] at h;cases h)];exact wpAny_pure hQ))
def K9 (K:PySem.W.Frag) (a:Addr):It:=
 ⟨fun i H=>∃xs x,aY K H a xs/\xs[i]? = some x,fun i H x H'=>H'=H /\ ∀xs,aY K H a xs->xs[i]? = some x,fun i H=>∃xs,aY K H a xs/\xs.length<=i⟩
def Oz (lo:Int) (n:Nat):It:=⟨fun i _=>i<n,fun i H x H'=>H'=H/\x = .int (lo+i),fun i _=>n<=i⟩
theorem Fo {P:Program} {w:World} {K:PySem.W.Frag} {tg:Expr} (a it:Addr):Turn P w K tg (K9 K a) [it] it (fun i h=>h.IsListIter it a i) where
 mem:=by simp
 obj:=fun i h st b hb=>by
  have e:b=it:=by simpa using hb
  subst e;obtain ⟨o,e,c,d⟩:=st;exact ⟨o,e,fun v z=>by rw [d] at z;cases z⟩
 keep:=fun i h h' st k=>st.at fun o e=>k it (by simp) o e
 item:=by
  intro X hP hw hK hc i pins s σ H E I hf st hg;subst hP hw hK;obtain ⟨xs,x,hq,hx⟩:=hg;obtain ⟨its,rv,p,hz⟩:=I.list hq;obtain ⟨u,hu,ru⟩:=rv.get hx;obtain ⟨f0,f1,f2,f3,f4,f5⟩:=hf it (by simp);refine wpAny_pyNext_list_item st p.isList (x:=u) (by simpa using hu) fun h' st' sb=> ?_;have I1:Inv X pins σ H {s with heap:=h'}:=I.turned (t':=s.toks) (fun b o hb e=>(sb.2 b hb).trans e) f0 f1 f3 f4 f5;obtain ⟨o,e,c,d⟩:=id st';exact ⟨u,rfl,Ej (s:={s with heap:=h'}) e c d (by decide) ⟨x,H,I1,ru,⟨rfl,fun ys hy=>by rw [I.uG hy hq];exact hx⟩,st',fun b hb=>(hf b hb).1⟩⟩
 done:=by
  intro X hP hw hK hc i pins s σ H E I hf st hg;subst hP hw hK;obtain ⟨xs,hq,hx⟩:=hg;obtain ⟨its,rv,p,hz⟩:=I.list hq;obtain ⟨f0,f1,f2,f3,f4,f5⟩:=hf it (by simp);have hl:=rv.length;exact wpAny_pyNext_list_end (I.ok.hd hc) st p.isList (by simp;omega) fun h' eb=>⟨rfl,I.turned (t':=s.toks) (fun b o hb e=>eb b o hb e) f0 f1 f3 f4 f5⟩
 self:=fun _ _ _ _ _ st h=>wpAny_pyIter_listiter st h
theorem Bh {P:Program} {w:World} {K:PySem.W.Frag} {tg:Expr} (it:Addr) (lo:Int) (n:Nat):Turn P w K tg (Oz lo n) [it] it (fun i h=>IsRangeIter h it (lo+(i:Nat)*1) ((n:Int) - (i:Nat)) 1) where
 mem:=by simp
 obj:=fun i h st b hb=>by
  have e:b=it:=by simpa using hb
  subst e
  exact ⟨_,st,fun v z=>by
   have z':Data.fields _=Data.cell v:=z;cases z'⟩
 keep:=fun i h h' st k=>k it (by simp) _ st
 item:=by
  intro X hP hw hK hc i pins s σ H E I hf st hg;subst hP hw hK;obtain ⟨f0,f1,f2,f3,f4,f5⟩:=hf it (by simp);have W:=Walks.range (prog:=X.prog) (w:=X.w) (I.ok.hd hc) it lo 1 n;refine W.item i s _ _ hg st fun v h' tk hv st' kk=> ?_;obtain ⟨t,rfl⟩:=hv;have I1:Inv X pins σ H {s with heap:=h',toks:=tk}:=I.turned (fun b o hb e=>kk b o (by simpa using hb) e) f0 f1 f3 f4 f5;refine ⟨_,rfl,Ej (s:={s with heap:=h',toks:=tk}) (n:= "range_iterator") st' rfl rfl (by decide) ⟨.int (lo+i),H,I1,⟨t, ?_⟩,⟨rfl,rfl⟩,st',fun b hb=>(hf b hb).1⟩⟩;rw [Int.mul_one]
 done:=by
  intro X hP hw hK hc i pins s σ H E I hf st hg;subst hP hw hK;obtain ⟨f0,f1,f2,f3,f4,f5⟩:=hf it (by simp);exact wpAny_pyNext_range_end (I.ok.hd hc) st (by have:n<=i:=hg;omega) fun h' eb=>⟨rfl,I.turned (t':=s.toks) (fun b o hb e=>eb b o hb e) f0 f1 f3 f4 f5⟩
 self:=fun _ _ _ _ _ st h=>wpAny_pyIter_rangeiter st h
end L2
namespace L2
open PySem PySem.Spec PyProof.Rows
section
variable {X:Cx} {tg:Expr}
def Qg (K:PySem.W.Frag) (tl:TE):TI:=fun σ H R=>tl σ H fun x H1=>∃a,x = .ref a/\(∃xs,aY K H1 a xs)/\R (K9 K a) H1
theorem Ma {l:Expr} {tl:TE} (hl:PE X l tl):PI X tg l (Qg X.K tl):=by
 intro pins s σ H R I h;refine dH (hl pins s σ H _ I h) fun v s1 ⟨x,H1,I1,r1,q1⟩=> ?_;obtain ⟨a,e,⟨xs,hq⟩,q⟩:=q1;subst e;cases r1;obtain ⟨its,rv,p,hz⟩:=I1.list hq;refine wpAny_pyIter_list p.isList ?_;refine ⟨s1.heap.objs.size,[s1.heap.objs.size],_,_,H1,rfl,I1.kept (t':=s1.toks) fun b o e=>Heap.get?_push_of_some _ e,Fo a _,⟨_,Heap.get?_push_size _ rfl,rfl,rfl⟩,fun b hb=> ?_,q⟩;have e:b=s1.heap.objs.size:=by simpa using hb
 subst e;exact I1.yG (Nat.le_refl _) (I1.hok.fresh (Nat.le_refl _))
theorem Io {pins:List (Addr×Obj)} {σ:St} {H:Hp} {s:Shared} {R:It->Hp->Prop} {E:Value->Shared->Prop} {lo hi:Int} {t u v:Tok} {tk:Nat} (I:Inv X pins σ H s) (h1: -(2 ^ 62)<=lo) (h2:lo<2 ^ 62) (h3: -(2 ^ 62)<=hi) (h4:hi<2 ^ 62)
 (q:R (Oz lo (hi - lo).toNat) H):wpAny (model X.prog X.w) X.A (pyIter (.ref s.heap.objs.size)) (PIE X pins σ tg R) E {s with heap:=s.heap.push {cls:= .type "range",data:= .fields #[.int lo t,.int hi u,.int 1 v]},toks:=tk}:=by
 refine wpAny_pyIter_range (IsRange.new ..) (small_one h1 h2 h3 h4) ?_;have I1:Inv X pins σ H {s with heap:=s.heap.push {cls:= .type "range",data:= .fields #[.int lo t,.int hi u,.int 1 v]},toks:=tk}:=I.kept fun b o e=>Heap.get?_push_of_some _ e
 refine ⟨(s.heap.push {cls:= .type "range",data:= .fields #[.int lo t,.int hi u,.int 1 v]}).objs.size,[(s.heap.push {cls:= .type "range",data:= .fields #[.int lo t,.int hi u,.int 1 v]}).objs.size],_,_,H,rfl,
  I1.kept (t':=tk) fun b o e=>Heap.get?_push_of_some _ e,Bh _ lo (hi - lo).toNat, ?_,fun b hb=> ?_,q⟩
 ·have e1:lo+((0:Nat):Int)*1=lo:=by simp
  have e2:(((hi - lo).toNat:Nat):Int) - ((0:Nat):Int)=Builtin.Range.rangeSize lo hi 1:=by rw [rangeSize_one];split<;>omega
  show IsRangeIter _ _ (lo+((0:Nat):Int)*1) ((((hi - lo).toNat:Nat):Int) - ((0:Nat):Int)) 1;rw [e1,e2];exact Heap.get?_push_size _ rfl
 ·have e:b=(s.heap.push {cls:= .type "range",data:= .fields #[.int lo t,.int hi u,.int 1 v]}).objs.size:=by simpa using hb
  subst e;exact I1.yG (Nat.le_refl _) (I1.hok.fresh (Nat.le_refl _))
def Wt (ta:TA):TI:=fun σ H R=>ta σ H fun vs H1=>∃j:Int,vs=[.int j] /\ -(2 ^ 62)<=j/\j<2 ^ 62/\R (Oz 0 j.toNat) H1
theorem dj {a:Expr} {ta:TA} {p pos:Pos} (hg:Gl X "range") (hm:X.mg "range" = none) (ha:PA X [a] ta) (hs:starEach [a] X.env=[(false,eval a X.env)]:=by rfl):PI X tg (.Call (.Name "range" p) [a] [] pos) (Wt ta):=by
 intro pins s σ H R I h;refine Call_ (qP I hg hm boot_range (PyProof.Rows.callWith_type1 (dH (ha pos pins s σ H _ I h) fun us s1 ⟨vs,H1,I1,r1,q1⟩=> ?_) hs rfl));obtain ⟨j,e,q1,q2,q⟩:=q1;subst e;cases r1 with
 | cons r rr=>
   cases rr;obtain ⟨t,rfl⟩:=r;exact call_range_1 (Io I1 (by omega) (by omega) q1 q2 (by simpa using q))
def Zf (wi:TI) (g:TG) (tb:TS):TS:=fun D σ H=>wi σ H fun J H1=>∃W:Nat->Nat->St->Hp->Prop,(∃m,W 0 m σ H1) /\ ∀i m σ H,W i m σ H ->
 (J.stop i H/\D.nx σ H)\/(J.go i H /\ ∃N:St->Hp->Prop,(∀σ' H',N σ' H' -> ∃m',m'<m/\W (i+1) m' σ' H') /\ ∀x H',J.Ui i H x H'->g x σ H' fun σ2 H2=>tb {D with nx:=N,ct:=N,bk:=D.nx} σ2 H2)
def ux (fp:List Addr) (h:Heap):List (Addr×Obj):=fp.filterMap fun b=>(h.get? b).map fun o=>(b,o)
theorem kZ {fp:List Addr} {h:Heap} {b:Addr} {o:Obj} (hb:b∈fp) (e:h.get? b=some o):(b,o)∈ux fp h:=List.mem_filterMap.mpr ⟨b,hb,by rw [e];rfl⟩
theorem Gk {fp:List Addr} {h:Heap} {p:Addr×Obj} (hp:p∈ux fp h):p.1∈fp/\h.get? p.1=some p.2:=by
 obtain ⟨b,hb,e⟩:=List.mem_filterMap.mp hp;cases q:h.get? b with
 | none=>rw [q] at e;cases e
 | some o=>
   rw [q] at e;have e':(b,o)=p:=Option.some.inj e;subst e';exact ⟨hb,q⟩
theorem Inv.pinned {pins:List (Addr×Obj)} {σ:St} {H:Hp} {s:Shared} {fp:List Addr} (I:Inv X pins σ H s) (hf:∀b∈fp,nY X pins H b) (ho:∀b∈fp,∃o,s.heap.get? b=some o /\ ∀v,o.data ≠ .cell v):Inv X (pins++ux fp s.heap) σ H s:=
 I.DP fun p hp=>(List.mem_append.mp hp).elim (fun z=>I.pin p (List.mem_append_right _ z)) fun z=>by
  obtain ⟨hb,e⟩:=Gk z;obtain ⟨f0,f1,f2,_⟩:=hf p.1 hb;obtain ⟨o,e',d⟩:=ho p.1 hb;rw [e] at e';cases e';exact ⟨e,f0,f1,f2,d⟩
theorem Inv.pN {pins pl:List (Addr×Obj)} {σ:St} {H:Hp} {s:Shared} (I:Inv X (pins++pl) σ H s):Inv X pins σ H s:=I.DP fun p hp=>I.pin p (List.mem_append_right _ (List.mem_append_left _ hp))
theorem jO {iter:Expr} {body:List Stmt} {wi:TI} {g:TG} {tb:TS} {pos:Pos} (hp:PassesOwn (model X.prog X.w) X.A X.env X.xe) (hc:X.calm=true) (hi:PI X tg iter wi) (hg:PG X tg g) (hb:Ay X body tb)
 (hs:∀x,foldedSetIterable iter X.env x=pure x:=by intro _;rfl):PS X (.For tg iter body [] pos) (Zf wi g tb):=by
 intro pins s σ H D I h;refine wpAny_For (dH (hi pins s σ H _ I h) fun v s1 h1=>dH h1 fun itv s2 h2=> ?_) hs;obtain ⟨it,fp,tn,J,H2,e,I2,T,st2,f2,W,⟨m0,w0⟩,turn⟩:=h2;subst e;have stat:∀{H':Hp},(∀b∈fp,H' b=none) -> ∀b∈fp,nY X pins H' b:=fun hn b hb=>⟨hn b hb,(f2 b hb).2⟩;refine codeAny_forLoop_any (fun n s'=>∃i σ' H',Inv X pins σ' H' s'/\tn i s'.heap/\(∀b∈fp,H' b=none)/\W i n σ' H') ?_ m0 ⟨0,σ,H2,I2,st2,fun b hb=>(f2 b hb).1,w0⟩;rintro n s3 ⟨i,σ3,H3,I3,st3,W0,w3⟩;rcases turn i n σ3 H3 w3 with ⟨stop,qn⟩|⟨go,N,hN,step⟩
 ·refine wpAny_passesOwn hp (dH (T.done X rfl rfl rfl hc i pins s3 σ3 H3 X.xe I3 (stat W0) st3 stop) fun r s4 ⟨hr,I4⟩=> ?_)
  subst hr;exact wpAny_execs_nil ⟨σ3,H3,I4,qn⟩
 ·refine wpAny_passesOwn hp (dH (T.item X rfl rfl rfl hc i pins s3 σ3 H3 X.xe I3 (stat W0) st3 go) fun r s4 ⟨u,hr,h4⟩=> ?_)
  subst hr;refine wpAny_passesOwn hp (dH h4 fun _ s5 ⟨x,H5,I5,r5,y5,vm,fr5⟩=> ?_);have I5':=I5.pinned (stat fr5) (T.obj _ _ vm);refine wpAny_passesOwn hp (dH (hg _ s5 σ3 H5 x u _ I5' r5 (step x H5 y5)) fun _ s6 ⟨σ6,H6,I6,q6⟩=> ?_);refine wpAny_passesOwn hp (dH (hb _ s6 σ6 H6 _ I6 q6) fun f s7 q7=> ?_)
  have again:∀{σ7:St} {H7:Hp},Inv X (pins++ux fp s5.heap) σ7 H7 s7->N σ7 H7 -> ∃m,m<n /\ ∃i σ' H',Inv X pins σ' H' s7/\tn i s7.heap/\(∀b∈fp,H' b=none)/\W i m σ' H':=fun {σ7 H7} I7 n7=>by
   obtain ⟨m',hm,w7⟩:=hN σ7 H7 n7;refine ⟨m',hm,i+1,σ7,H7,I7.pN,T.keep _ _ _ vm fun b hb o e=>(I7.pin (b,o) (List.mem_append_right _ (List.mem_append_right _ (kZ hb e)))).1,fun b hb=> ?_,w7⟩;obtain ⟨o,e,d⟩:=T.obj _ _ vm b hb;exact (I7.pin (b,o) (List.mem_append_right _ (List.mem_append_right _ (kZ hb e)))).2.1
  cases f with
  | next=>obtain ⟨σ7,H7,I7,n7⟩:=q7;exact again I7 n7
  | cont=>obtain ⟨σ7,H7,I7,n7⟩:=q7;exact again I7 n7
  | brk=>obtain ⟨σ7,H7,I7,q7⟩:=q7;exact ⟨σ7,H7,I7.pN,q7⟩
  | ret v=>obtain ⟨x7,σ7,H7,I7,r7,q7⟩:=q7;exact ⟨x7,σ7,H7,I7.pN,r7,q7⟩
end
theorem m7 {K:PySem.W.Frag} {a:Addr} {xs:List V} {g:TG} {tb:TS} {D:Ends} {σ:St} {H:Hp} (Pv:Nat->St->Hp->Prop) (h0:Pv 0 σ H) (hl:∀i σ H,i<=xs.length->Pv i σ H->aY K H a xs)
 (hs:∀i x σ H,xs[i]? = some x->Pv i σ H->g x σ H fun σ2 H2=>tb {D with nx:=Pv (i+1),ct:=Pv (i+1),bk:=D.nx} σ2 H2) (hd:∀σ H,Pv xs.length σ H->D.nx σ H):
 ∃W:Nat->Nat->St->Hp->Prop,(∃m,W 0 m σ H) /\ ∀i m σ H,W i m σ H ->
  ((K9 K a).stop i H/\D.nx σ H)\/((K9 K a).go i H /\ ∃N:St->Hp->Prop,(∀σ' H',N σ' H' -> ∃m',m'<m/\W (i+1) m' σ' H') /\ ∀x H',(K9 K a).Ui i H x H'->g x σ H' fun σ2 H2=>tb {D with nx:=N,ct:=N,bk:=D.nx} σ2 H2):=by
 refine ⟨fun i m σ H=>m=xs.length - i/\i<=xs.length/\Pv i σ H,⟨xs.length,by simp,Nat.zero_le _,h0⟩, ?_⟩;rintro i m σ H ⟨rfl,hi,p⟩;have q:=hl i σ H hi p
 by_cases hlt:i<xs.length
 ·refine .inr ⟨⟨xs,xs[i],q,by simp [hlt]⟩,Pv (i+1),fun σ' H' p'=>⟨xs.length - (i+1),by omega,rfl,hlt,p'⟩,fun x H' y=> ?_⟩
  obtain ⟨e,y⟩:=y;subst e;exact hs i x σ _ (y xs q) p
 ·have e:i=xs.length:=by omega
  subst e;exact .inl ⟨⟨xs,q,Nat.le_refl _⟩,hd σ H p⟩
theorem nQ {lo:Int} {n:Nat} {g:TG} {tb:TS} {D:Ends} {σ:St} {H:Hp} (Pv:Nat->St->Hp->Prop) (h0:Pv 0 σ H)
 (hs:∀i σ H,i<n->Pv i σ H->g (.int (lo+i)) σ H fun σ2 H2=>tb {D with nx:=Pv (i+1),ct:=Pv (i+1),bk:=D.nx} σ2 H2) (hd:∀σ H,Pv n σ H->D.nx σ H):
 ∃W:Nat->Nat->St->Hp->Prop,(∃m,W 0 m σ H) /\ ∀i m σ H,W i m σ H ->
  ((Oz lo n).stop i H/\D.nx σ H)\/((Oz lo n).go i H /\ ∃N:St->Hp->Prop,(∀σ' H',N σ' H' -> ∃m',m'<m/\W (i+1) m' σ' H') /\ ∀x H',(Oz lo n).Ui i H x H'->g x σ H' fun σ2 H2=>tb {D with nx:=N,ct:=N,bk:=D.nx} σ2 H2):=by
 refine ⟨fun i m σ H=>m=n - i/\i<=n/\Pv i σ H,⟨n,by simp,Nat.zero_le _,h0⟩, ?_⟩;rintro i m σ H ⟨rfl,hi,p⟩
 by_cases hlt:i<n
 ·refine .inr ⟨hlt,Pv (i+1),fun σ' H' p'=>⟨n - (i+1),by omega,rfl,hlt,p'⟩,fun x H' y=> ?_⟩
  obtain ⟨e,y⟩:=y;subst e y;exact hs i σ _ hlt p
 ·have e:i=n:=by omega
  subst e;exact .inl ⟨Nat.le_refl _,hd σ H p⟩
end L2
namespace L2
open PySem PySem.Spec PyProof.Rows
abbrev R2:=V->V->Hp->VK->Prop
def nU (X:Cx) (f:Value->Value->Sem Value) (r:R2):Prop:=
 ∀(pins:List (Addr×Obj)) (s:Shared) (σ:St) (H:Hp) (x y:V) (v u:Value) (Q:VK),Inv X pins σ H s->RelV x v->RelV y u->r x y H Q ->
  wpAny (model X.prog X.w) X.A (f v u) (EP X pins σ Q) X.xe s
def UnR (X:Cx) (f:Value->Sem Value) (r:V->Hp->VK->Prop):Prop:=
 ∀(pins:List (Addr×Obj)) (s:Shared) (σ:St) (H:Hp) (x:V) (v:Value) (Q:VK),Inv X pins σ H s->RelV x v->r x H Q ->
  wpAny (model X.prog X.w) X.A (f v) (EP X pins σ Q) X.xe s
def iZ (X:Cx) (f:Value) (r:List V->Hp->VK->Prop):Prop:=
 ∀(pins:List (Addr×Obj)) (s:Shared) (σ:St) (H:Hp) (xs:List V) (us:List Value) (Q:VK),Inv X pins σ H s->Vals xs us->r xs H Q ->
  wpAny (model X.prog X.w) X.A (call f us) (EP X pins σ Q) X.xe s
def Bl (r:R2) (ta tb:TE):TE:=fun σ H Q=>ta σ H fun x H1=>tb σ H1 fun y H2=>r x y H2 Q
def tUn (r:V->Hp->VK->Prop) (ta:TE):TE:=fun σ H Q=>ta σ H fun x H1=>r x H1 Q
def rI (C:Int->Int->Prop) (g:Int->Int->V):R2:=fun x y H Q=>∃i j,x = .int i/\y = .int j/\C i j/\Q (g i j) H
def Lx (g:Int->Int->V):R2:=fun x y H Q=>∃i j,x = .int i/\y = .int j/\Q (g i j) H
def rU (g:Int->V):V->Hp->VK->Prop:=fun x H Q=>∃i,x = .int i/\Q (g i) H
section
variable {X:Cx} {a b c:Expr} {ta tb tc:TE} {pos:Pos}
theorem Tt (ha:PE X a ta) (hb:PE X b tb) {pins:List (Addr×Obj)} {s:Shared} {σ:St} {H:Hp} {R:V->V->Hp->Prop} (I:Inv X pins σ H s)
 (h:ta σ H fun x H1=>tb σ H1 fun y H2=>R x y H2) {Q:Value->Shared->Prop} {f:Value->Value->Sem Value}
 (hf:∀v u s2 x y H2,Inv X pins σ H2 s2->RelV x v->RelV y u->R x y H2->wpAny (model X.prog X.w) X.A (f v u) Q X.xe s2):
 wpAny (model X.prog X.w) X.A (eval a X.env) (fun v s₁=>wpAny (model X.prog X.w) X.A (eval b X.env) (fun u s₂=>wpAny (model X.prog X.w) X.A (f v u) Q X.xe s₂) X.xe s₁) X.xe s:=by
 refine dH (ha pins s σ H _ I h) fun v s1 ⟨x,H1,I1,r1,q1⟩=> ?_;refine dH (hb pins s1 σ H1 _ I1 q1) fun u s2 ⟨y,H2,I2,r2,q2⟩=> ?_;exact hf v u s2 x y H2 I2 r1 r2 q2
theorem bQ {op:Operator} {r:R2} (ho:nU X (binaryOp op) r) (ha:PE X a ta) (hb:PE X b tb):PE X (.BinOp a op b pos) (Bl r ta tb):=by
 intro pins s σ H Q I h;exact wpAny_BinOp (Tt ha hb I h fun v u s2 x y H2 I2 rx ry q=>ho pins s2 σ H2 x y v u Q I2 rx ry q)
theorem DR {op:UnaryOp} {r:V->Hp->VK->Prop} (ho:UnR X (unaryOp op) r) (ha:PE X a ta):PE X (.UnaryOp op a pos) (tUn r ta):=by
 intro pins s σ H Q I h;exact UnaryOp_ (dH (ha pins s σ H _ I h) fun v s1 ⟨x,H1,I1,r1,q1⟩=>ho pins s1 σ H1 x v Q I1 r1 q1)
theorem V4 {f:Value->Value->Sem Value} {C:Int->Int->Prop} {g:Int->Int->Int}
 (rule:∀(i j:Int) (t u:Tok) (s:Shared) (Q:Value->Shared->Prop) (E:Value->Shared->Prop),C i j->Q (.int (g i j) s.toks) {s with toks:=s.toks+1}->wpAny (model X.prog X.w) X.A (f (.int i t) (.int j u)) Q E s):
 nU X f (rI C fun i j=> .int (g i j)):=by
 intro pins s σ H x y v u Q I rx ry h;obtain ⟨i,j,rfl,rfl,hc,q⟩:=h;obtain ⟨t,rfl⟩:=rx;obtain ⟨t',rfl⟩:=ry;exact rule i j t t' s _ _ hc ⟨.int (g i j),H,I.tok _,⟨_,rfl⟩,q⟩
theorem V3 {f:Value->Value->Sem Value} {g:Int->Int->Int}
 (rule:∀(i j:Int) (t u:Tok) (s:Shared) (Q:Value->Shared->Prop) (E:Value->Shared->Prop),Q (.int (g i j) s.toks) {s with toks:=s.toks+1}->wpAny (model X.prog X.w) X.A (f (.int i t) (.int j u)) Q E s):
 nU X f (Lx fun i j=> .int (g i j)):=by
 intro pins s σ H x y v u Q I rx ry h;obtain ⟨i,j,rfl,rfl,q⟩:=h;obtain ⟨t,rfl⟩:=rx;obtain ⟨t',rfl⟩:=ry;exact rule i j t t' s _ _ ⟨.int (g i j),H,I.tok _,⟨_,rfl⟩,q⟩
theorem Mj {f:Value->Value->Sem Value} {g:Int->Int->Bool}
 (rule:∀(i j:Int) (t u:Tok) (s:Shared) (Q:Value->Shared->Prop) (E:Value->Shared->Prop),Q (.bool (g i j)) s->wpAny (model X.prog X.w) X.A (f (.int i t) (.int j u)) Q E s):
 nU X f (Lx fun i j=> .bl (g i j)):=by
 intro pins s σ H x y v u Q I rx ry h;obtain ⟨i,j,rfl,rfl,q⟩:=h;obtain ⟨t,rfl⟩:=rx;obtain ⟨t',rfl⟩:=ry;exact rule i j t t' s _ _ ⟨.bl (g i j),H,I,rfl,q⟩
def Ba (i j:Int):Prop:=0<=j/\j<=1000000/\i.natAbs<2 ^ 64
def Ud (i j:Int):Prop:=(-(2 ^ 64)<i/\i<2 ^ 64)\/(-(2 ^ 64)<j/\j<2 ^ 64)
theorem Ud.ok {i j:Int} (h:Ud i j):IntMulOk i j:=by
 rcases h with ⟨h1,h2⟩|⟨h1,h2⟩
 ·exact .of_left (intBits_le_64 h1 h2)
 ·exact .of_right (intBits_le_64 h1 h2)
theorem eG:nU X (binaryOp .Add) (Lx fun i j=> .int (i+j)):=V3 fun _ _ _ _ _ _ _ q=>add_int q
theorem mW:nU X (binaryOp .Sub) (Lx fun i j=> .int (i - j)):=V3 fun _ _ _ _ _ _ _ q=>sub_int q
theorem yc:nU X (binaryOp .Mult) (rI Ud fun i j=> .int (i*j)):=V4 fun _ _ _ _ _ _ _ hc q=>mul_int q hc.ok
theorem iQ:nU X (binaryOp .Mod) (rI (fun _ j=>0<j) fun i j=> .int (i % j)):=V4 fun i j _ _ _ _ _ hc q=>by
 have h1:(0:Int)<j:=hc;exact mod_int' (by omega) (by rw [Int.fmod_eq_emod_of_nonneg i (by omega)];exact q)
theorem mX:nU X (binaryOp .Pow) (rI Ba fun i j=> .int (i ^ j.toNat)):=V4 fun _ _ _ _ _ _ _ hc q=>pow_int_small hc.1 hc.2.1 hc.2.2 q
theorem unI {f:Value->Sem Value} {g:Int->Int}
 (rule:∀(i:Int) (t:Tok) (s:Shared) (Q:Value->Shared->Prop) (E:Value->Shared->Prop),Q (.int (g i) s.toks) {s with toks:=s.toks+1}->wpAny (model X.prog X.w) X.A (f (.int i t)) Q E s):
 UnR X f (rU fun i=> .int (g i)):=by
 intro pins s σ H x v Q I rx h;obtain ⟨i,rfl,q⟩:=h;obtain ⟨t,rfl⟩:=rx;exact rule i t s _ _ ⟨.int (g i),H,I.tok _,⟨_,rfl⟩,q⟩
theorem wL:UnR X (unaryOp .USub) (rU fun i=> .int (-i)):=unI fun _ _ _ _ _ q=>neg_int q
end
def Vw:V->V->Bool
 | .non,.non=>true | .non,.int _=>true | .int _,.non=>true | .non,.bl _=>true | .bl _,.non=>true | .non,.str _=>true | .str _,.non=>true
 | .int _,.int _=>true | .bl _,.bl _=>true | .str _,.str _=>true | .GZ _,.GZ _=>true
 | .int _,.str _=>true | .str _,.int _=>true | .bl _,.str _=>true | .str _,.bl _=>true
 | _,_=>false
def rEq:R2:=fun x y H Q=>Vw x y=true/\Q (.bl (decide (x=y))) H
def rNe:R2:=fun x y H Q=>Vw x y=true/\Q (.bl (!decide (x=y))) H
theorem Ep {i j:Int}:decide (V.int i=V.int j)=(i==j):=by
 rw [Bool.eq_iff_iff];simp
theorem J8 {i j:Bool}:decide (V.bl i=V.bl j)=(i==j):=by
 rw [Bool.eq_iff_iff];simp
theorem Eo {i j:Str}:decide (V.str i=V.str j)=(i==j):=by
 rw [Bool.eq_iff_iff];simp
theorem Es {i j:Array UInt8}:decide (V.GZ i=V.GZ j)=(i.toList==j.toList):=by
 rw [Bool.eq_iff_iff];cases i;cases j;simp
section
variable {X:Cx} {a b c:Expr} {ta tb tc:TE} {pos:Pos}
theorem cJ {pins:List (Addr×Obj)} {σ:St} {H:Hp} {s:Shared} {Q:VK} {k k':Bool} (I:Inv X pins σ H s) (q:Q (.bl k) H) (e:k=k'):EP X pins σ Q (.bool k') s:=by
 subst e;exact ⟨.bl k,H,I,rfl,q⟩
theorem cA:nU X (compareOp .Eq) rEq:=by
 intro pins s σ H x y v u Q I rx ry h;obtain ⟨hs,q⟩:=h;cases x with
 | non=>
   cases rx;cases y with
   | non=>cases ry;exact PySem.EqNone.eq_none_none (cJ I q (by simp))
   | bl j=>cases ry;exact PySem.EqNone.eq_none_bool (cJ I q (by simp))
   | int j=>obtain ⟨t',rfl⟩:=ry;exact PySem.EqNone.eq_none_int (cJ I q (by simp))
   | str j=>obtain ⟨t',rfl⟩:=ry;exact PySem.EqNone.eq_none_str (cJ I q (by simp))
   | _=>exact absurd (show false=true from hs) Bool.false_ne_true
 | bl i=>
   cases rx;cases y with
   | non=>cases ry;exact PySem.EqNone.eq_bool_none (cJ I q (by simp))
   | bl j=>cases ry;exact eq_bool (cJ I q J8)
   | str j=>obtain ⟨t',rfl⟩:=ry;exact PySem.EqMixed.eq_bool_str (cJ I q (by simp))
   | _=>exact absurd (show false=true from hs) Bool.false_ne_true
 | int i=>
   obtain ⟨t,rfl⟩:=rx;cases y with
   | non=>cases ry;exact PySem.EqNone.eq_int_none (cJ I q (by simp))
   | int j=>obtain ⟨t',rfl⟩:=ry;exact eq_int (cJ I q Ep)
   | str j=>obtain ⟨t',rfl⟩:=ry;exact PySem.EqMixed.eq_int_str (cJ I q (by simp))
   | _=>exact absurd (show false=true from hs) Bool.false_ne_true
 | str i=>
   obtain ⟨t,rfl⟩:=rx;cases y with
   | non=>cases ry;exact PySem.EqNone.eq_str_none (cJ I q (by simp))
   | bl j=>cases ry;exact PySem.EqMixed.eq_str_bool (cJ I q (by simp))
   | int j=>obtain ⟨t',rfl⟩:=ry;exact PySem.EqMixed.eq_str_int (cJ I q (by simp))
   | str j=>obtain ⟨t',rfl⟩:=ry;exact eq_str (cJ I q Eo)
   | _=>exact absurd (show false=true from hs) Bool.false_ne_true
 | GZ i=>
   obtain ⟨t,rfl⟩:=rx;cases y with
   | GZ j=>obtain ⟨t',rfl⟩:=ry;exact PySem.W.eq_bytes (cJ I q Es)
   | _=>exact absurd (show false=true from hs) Bool.false_ne_true
 | _=>cases y<;>exact absurd (show false=true from hs) Bool.false_ne_true
theorem lQ:nU X (compareOp .NotEq) rNe:=by
 intro pins s σ H x y v u Q I rx ry h;obtain ⟨hs,q⟩:=h;cases x with
 | non=>
   cases rx;cases y with
   | non=>cases ry;exact PySem.EqNone.ne_none_none (cJ I q (by simp))
   | bl j=>cases ry;exact PySem.EqNone.ne_none_bool (cJ I q (by simp))
   | int j=>obtain ⟨t',rfl⟩:=ry;exact PySem.EqNone.ne_none_int (cJ I q (by simp))
   | str j=>obtain ⟨t',rfl⟩:=ry;exact PySem.EqNone.ne_none_str (cJ I q (by simp))
   | _=>exact absurd (show false=true from hs) Bool.false_ne_true
 | bl i=>
   cases rx;cases y with
   | non=>cases ry;exact PySem.EqNone.ne_bool_none (cJ I q (by simp))
   | bl j=>cases ry;exact ne_bool (cJ I q (congrArg not J8))
   | str j=>obtain ⟨t',rfl⟩:=ry;exact PySem.EqMixed.ne_bool_str (cJ I q (by simp))
   | _=>exact absurd (show false=true from hs) Bool.false_ne_true
 | int i=>
   obtain ⟨t,rfl⟩:=rx;cases y with
   | non=>cases ry;exact PySem.EqNone.ne_int_none (cJ I q (by simp))
   | int j=>obtain ⟨t',rfl⟩:=ry;exact ne_int (cJ I q (congrArg not Ep))
   | str j=>obtain ⟨t',rfl⟩:=ry;exact PySem.EqMixed.ne_int_str (cJ I q (by simp))
   | _=>exact absurd (show false=true from hs) Bool.false_ne_true
 | str i=>
   obtain ⟨t,rfl⟩:=rx;cases y with
   | non=>cases ry;exact PySem.EqNone.ne_str_none (cJ I q (by simp))
   | bl j=>cases ry;exact PySem.EqMixed.ne_str_bool (cJ I q (by simp))
   | int j=>obtain ⟨t',rfl⟩:=ry;exact PySem.EqMixed.ne_str_int (cJ I q (by simp))
   | str j=>obtain ⟨t',rfl⟩:=ry;exact ne_str (cJ I q (congrArg not Eo))
   | _=>exact absurd (show false=true from hs) Bool.false_ne_true
 | GZ i=>
   obtain ⟨t,rfl⟩:=rx;cases y with
   | GZ j=>obtain ⟨t',rfl⟩:=ry;exact PySem.W.ne_bytes (cJ I q (congrArg not Es))
   | _=>exact absurd (show false=true from hs) Bool.false_ne_true
 | _=>cases y<;>exact absurd (show false=true from hs) Bool.false_ne_true
theorem iY:nU X (compareOp .Lt) (Lx fun i j=> .bl (decide (i<j))):=Mj fun _ _ _ _ _ _ _ q=>lt_int q
theorem V2:nU X (compareOp .LtE) (Lx fun i j=> .bl (decide (i<=j))):=Mj fun _ _ _ _ _ _ _ q=>le_int q
theorem I_:nU X (compareOp .Gt) (Lx fun i j=> .bl (decide (j<i))):=Mj fun _ _ _ _ _ _ _ q=>gt_int q
theorem PX:nU X (compareOp .GtE) (Lx fun i j=> .bl (decide (j<=i))):=Mj fun _ _ _ _ _ _ _ q=>ge_int q
theorem o_:nU X (compareOp .Is) (fun x y H Q=>y = .non/\Q (.bl (decide (x = .non))) H):=by
 intro pins s σ H x y v u Q I rx ry h;obtain ⟨rfl,q⟩:=h;cases ry;refine is_none_gen (cJ I q ?_)
 cases x<;>first
  | (cases rx;rfl)
  | (obtain ⟨t,rfl⟩:=rx;rfl)
theorem xY:nU X (compareOp .IsNot) (fun x y H Q=>y = .non/\Q (.bl (!decide (x = .non))) H):=by
 intro pins s σ H x y v u Q I rx ry h;obtain ⟨rfl,q⟩:=h;cases ry;refine isnot_none_gen (cJ I q ?_)
 cases x<;>first
  | (cases rx;rfl)
  | (obtain ⟨t,rfl⟩:=rx;rfl)
def isObj:HO->Bool
 | .lst _=>true
 | .ins _ _ _=>true
 | _=>false
theorem aR (b:Expr) {op:CmpOp} (h:op ≠ .In:=by decide) (h2:op ≠ .NotIn:=by decide):behindInMarks op b=false:=by
 have e1:(op==CmpOp.In)=false:=by cases op<;>first |rfl|exact absurd rfl h
 have e2:(op==CmpOp.NotIn)=false:=by cases op<;>first |rfl|exact absurd rfl h2
 cases b<;>simp [behindInMarks,e1,e2]
theorem cT {op:CmpOp} {r:R2} (ho:nU X (compareOp op) r) (ha:PE X a ta) (hb:PE X b tb) (hm:behindInMarks op b=false):PE X (.Compare a [op] [b] pos) (Bl r ta tb):=by
 intro pins s σ H Q I h;exact wpAny_Compare1 (Tt ha hb I h fun v u s2 x y H2 I2 rx ry q=>ho pins s2 σ H2 x y v u Q I2 rx ry q) hm
def Pk (t:TE):TT:=fun σ H Q=>t σ H fun x H'=>∃k,x = .bl k/\Q k H'
theorem aQ {op:CmpOp} {r:R2} (ho:nU X (compareOp op) r) (ha:PE X a ta) (hb:PE X b tb) (hm:behindInMarks op b=false):PT X (.Compare a [op] [b] pos) (Pk (Bl r ta tb)):=by
 intro pins s σ H Q I h
 refine wpAny_isTrue_Compare1 (dH (ha pins s σ H _ I h) fun v s1 ⟨x,H1,I1,r1,q1⟩=>dH (hb pins s1 σ H1 _ I1 q1) fun u s2 ⟨y,H2,I2,r2,q2⟩=>
  dH (ho pins s2 σ H2 x y v u _ I2 r1 r2 q2) fun c s3 ⟨z,H3,I3,r3,k,e,q3⟩=> ?_) hm
 subst e;cases r3;exact wpAny_truthy_bool ⟨H3,I3,q3⟩
def QJ (r r':R2) (ta tb tc:TE):TE:=fun σ H Q=>ta σ H fun x H1=>tb σ H1 fun y H2=>r x y H2 fun z H3=>∃k,z = .bl k /\
 (if k=true then tc σ H3 fun w' H4=>r' y w' H4 Q else Q (.bl false) H3)
theorem IW {op op':CmpOp} {r r':R2} (ho:nU X (compareOp op) r) (ho':nU X (compareOp op') r') (ha:PE X a ta) (hb:PE X b tb) (hc:PE X c tc)
 (hm:lastMarks [op,op'] [b,c]=false:=by with_unfolding_all rfl):PE X (.Compare a [op,op'] [b,c] pos) (QJ r r' ta tb tc):=by
 intro pins s σ H Q I h
 refine Compare_chain (dH (ha pins s σ H _ I h) fun v s1 ⟨x,H1,I1,r1,q1⟩=>chain_link (dH (hb pins s1 σ H1 _ I1 q1) fun u s2 ⟨y,H2,I2,r2,q2⟩=>
  dH (ho pins s2 σ H2 x y v u _ I2 r1 r2 q2) fun d s3 ⟨z,H3,I3,r3,k,e,q3⟩=> ?_)) hm
 subst e;cases r3;refine wpAny_truthy_bool ?_;cases k with
 | false=>exact ite_ff ⟨.bl false,H3,I3,rfl,q3⟩
 | true=>exact ite_tt (chain_last (dH (hc pins s3 σ H3 _ I3 q3) fun w' s4 ⟨z',H4,I4,r4,q4⟩=>ho' pins s4 σ H4 y z' u w' Q I4 r2 r4 q4))
theorem qO:(sizeLine:Nat)<2 ^ 63:=by rw [sizeLine_eq];decide
theorem vals1 {x:V} {us:List Value} (r:Vals [x] us):∃u,us=[u]/\RelV x u:=by
 cases r with
 | cons r1 r2=>cases r2;exact ⟨_,rfl,r1⟩
theorem vals2 {x y:V} {us:List Value} (r:Vals [x,y] us):∃u w',us=[u,w']/\RelV x u/\RelV y w':=by
 cases r with
 | cons r1 r2=>
   cases r2 with
   | cons r3 r4=>cases r4;exact ⟨_,_,rfl,r1,r3⟩
theorem wz (hc:X.calm=true):iZ X (.builtin "max") (fun xs H Q=>∃i j,xs=[.int i,.int j]/\Q (.int (if j>i then j else i)) H):=by
 intro pins s σ H xs us Q I r h;obtain ⟨i,j,rfl,q⟩:=h;obtain ⟨u,w',rfl,⟨t,rfl⟩,⟨t',rfl⟩⟩:=vals2 r;refine max_two_ints (I.ok.hd hc) fun h' tk k=>⟨_,H,I.kept k, ?_,q⟩
 by_cases hj:j>i
 ·rw [if_pos hj,if_pos hj];exact ⟨_,rfl⟩
 ·rw [if_neg hj,if_neg hj];exact ⟨_,rfl⟩
theorem GX (hc:X.calm=true):iZ X (.builtin "min") (fun xs H Q=>∃i j,xs=[.int i,.int j]/\Q (.int (if j<i then j else i)) H):=by
 intro pins s σ H xs us Q I r h;obtain ⟨i,j,rfl,q⟩:=h;obtain ⟨u,w',rfl,⟨t,rfl⟩,⟨t',rfl⟩⟩:=vals2 r;refine min_two_ints (I.ok.hd hc) fun h' tk k=>⟨_,H,I.kept k, ?_,q⟩
 by_cases hj:j<i
 ·rw [if_pos hj,if_pos hj];exact ⟨_,rfl⟩
 ·rw [if_neg hj,if_neg hj];exact ⟨_,rfl⟩
theorem j6:iZ X (.type "int") (fun xs H Q=>(∃i,xs=[.int i]/\Q (.int i) H) \/ ∃k,xs=[.bl k]/\Q (.int (if k then 1 else 0)) H):=by
 intro pins s σ H xs us Q I r h;rcases h with ⟨i,rfl,q⟩|⟨k,rfl,q⟩
 ·obtain ⟨u,rfl,t,rfl⟩:=vals1 r
  exact call_int_int ⟨.int i,H,I,⟨_,rfl⟩,q⟩
 ·obtain ⟨u,rfl,r1⟩:=vals1 r
  cases r1;exact call_int_bool ⟨.int (if k then 1 else 0),H,I.tok _,⟨_,rfl⟩,q⟩
end
end L2
namespace L2
open PySem PySem.Spec PyProof.Rows
structure CQ (h:Heap) (x dx C:Addr) (mA:Str->Option Value):Prop where
 obj:h.get? x=some (PySem.W.instObj C dx)
 ns:h.Ns1 dx mA
 ne:dx≠x
theorem Gq {h:Heap} {dx:Addr} {mA:Str->Option Value} (n:h.Ns1 dx mA):∃od,h.get? dx=some od /\ ∀name,PySem.W.lookIn name od=some (mA name):=by
 obtain ⟨o,es,ep,ho,hd,hk,_,hm⟩:=n;refine ⟨o,ho,fun name=> ?_⟩;have e:=hm name;unfold nsFind findBy at e;rw [←Array.find?_toList] at e;unfold PySem.W.lookIn;rw [hd];dsimp only;split
 ·rename_i y q
  rw [q] at e;exact congrArg some e
 ·rename_i q
  rw [q] at e
  have a:es.toList.any (·.refKey)=false:=by
   rw [List.any_eq_false];intro y hy;obtain ⟨z,t,hkey⟩:=hk y (Array.mem_toList_iff.mp hy);simp [DictEntry.refKey,hkey]
  have a':¬es.toList.any (·.refKey)=true:=by rw [a];exact Bool.false_ne_true
  rw [if_neg a'];exact congrArg some e
theorem CQ.look {h:Heap} {x dx C:Addr} {mA:Str->Option Value} (I:CQ h x dx C mA):∃od,PySem.W.InstAt h x (PySem.W.instObj C dx) C (some od) /\ ∀name,PySem.W.lookIn name od=some (mA name):=
 let ⟨od,ho,hl⟩:=Gq I.ns
 ⟨od,⟨I.obj,rfl,rfl,ho⟩,hl⟩
section
variable {prog:Program} {w:World} {A:Around} {E:Value->Shared->Prop} {s:Shared} {K:PySem.W.Frag} {x dx C f:Addr} {mA:Str->Option Value} {name:Str} {v:Value}
theorem get_map {expr:Bool} {Q:Value->Shared->Prop} (X:K.In s.heap) (I:CQ s.heap x dx C mA) (hg:PySem.W.plainGet K C name=true) (hh:PySem.W.hasDictIn K C=true)
 (ha:PySem.W.findIn K (.ref C) name=some none) (hv:mA name=some v) (hv':PySem.W.handedIn v=true) (h:Q v {s with toks:=s.toks+1}):
 wpAny (model prog w) A (getAttr (.ref x) name expr) Q E s:=by
 obtain ⟨od,J,hl⟩:=I.look;exact PySem.W.get_value X J (PySem.W.plainGet_of hg).1 (PySem.W.findObj_own hh ha rfl (by rw [hl,hv])) hv' h
theorem JM {pl:Sem Bool} {Q:Value×List Value->Shared->Prop} (X:K.In s.heap) (I:CQ s.heap x dx C mA) (hg:PySem.W.plainGet K C name=true)
 (hf:PySem.W.findIn K (.ref C) name=some (some (.ref f))) (ht:PySem.W.isFn K (.ref f)=true) (hv:mA name=none) (h:Q (.ref f,[.ref x]) s):
 wpAny (model prog w) A (getMethod (.ref x) name pl) Q E s:=by
 obtain ⟨od,J,hl⟩:=I.look;exact PySem.W.method_fn X J (PySem.W.plainGet_of hg).1 (PySem.W.plainGet_of hg).2 hf (beq_iff_eq.mp ht) (by show (PySem.W.lookIn name od).map (·.isSome)=some false;rw [hl,hv];rfl) h
theorem Lk {ns:List Str} {Q:Unit->Shared->Prop} (X:K.In s.heap) (I:CQ s.heap x dx C mA)
 (hs:PySem.W.findIn K (.ref C) "__setattr__" = some (some (.builtin "object.__setattr__"))) (hp:PySem.W.plainOver K C=true) (ht:PySem.W.takerIn K C name=some none) (hh:PySem.W.hasDictIn K C=true)
 (hw:PySem.Within mA ns) (hsz:ns.length<=sizeLine)
 (h:∀h',CQ h' x dx C (fun y=>if y=name then some v else mA y)->Heap.SameBut dx s.heap h'->Q () {s with heap:=h',toks:=s.toks+2}):
 wpAny (model prog w) A (setAttr (.ref x) name v) Q E s:=by
 obtain ⟨od,J,hl⟩:=I.look;refine PySem.W.set_plain X J hs (PySem.W.osa_open (s:={s with toks:=s.toks+1}) (r:=none) X J hp ht fun b=> ?_);obtain ⟨cd,hc,hd'⟩:=PySem.W.any_some hh;have hx:s.heap.get? x=some ⟨.ref C,some dx,.plain, #[]⟩:=I.obj;refine wpAny_bind (wpAny_pure (wpAny_bind (wpAny_bind (wpAny_loadPart hx (wpAny_bind (PySem.W.Looks.here (s:={s with toks:=s.toks+1}) (PySem.W.looks_clsIn X hc) ?_))))));rw [hd'];refine wpAny_pure (a:=some dx) (wpAny_bind (wpAny_pure (wpAny_bind ?_)));refine wpAny_nsSet1 (s:={s with toks:=s.toks+1}) I.ns fun h' hn2 hs2=> ?_;obtain ⟨oD,esD,epD,hoD,hdD,hcD⟩:=hn2.count (PySem.Within.cons name v hw);refine wpAny_bind (wpAny_lookBehind hoD (by rw [hdD];exact pastItsLine_dict (Nat.le_trans hcD (by rw [List.length_cons];omega))) ?_);exact wpAny_pure (h _ ⟨(hs2.2 _ (Ne.symm I.ne)).trans I.obj,hn2,I.ne⟩ hs2)
theorem z_ {R:Result->Shared->Prop} {vs:List Value} {kw:List (Str×Value)} (X:K.In s.heap) (hm:PySem.W.makesIn K C=true)
 (hi:PySem.W.findIn K (.ref C) "__init__" = some (some (.ref f))) (hf:PySem.W.typeIn K (.ref f)=some (.type "function"))
 (h:codeAny (model prog w) (A.under (.builtin "type.__call__" ⟨.ref C::vs,kw⟩)) (.call (.ref f) ⟨.ref (s.heap.objs.size+1)::vs,kw⟩) (PySem.W.InitBack (s.heap.objs.size+1) R)
   {s with heap:=(s.heap.push PySem.W.emptyDict).push (PySem.W.instObj C s.heap.objs.size)}):
 codeAny (model prog w) A (.call (.ref C) ⟨vs,kw⟩) R s:=by
 obtain ⟨hh,g,d,t,os⟩:=s;exact PySem.W.make_core (PySem.W.makes_of X hm) (PySem.W.looks_findIn X hi) (fun self=>PySem.W.bind_fn X self hf) (.inl rfl) h
end
def cX (f:Str) (v:V):List (Str×V)->List (Str×V)
 | []=>[(f,v)]
 | (g,x)::r=>if g=f then (g,v)::r else (g,x)::cX f v r
theorem rC (f g:Str) (v:V):∀fs:List (Str×V),(cX f v fs).lookup g=if g=f then some v else fs.lookup g
 | []=>by
   show List.lookup g [(f,v)]=_
   by_cases h:g=f
   ·have hb:(g==f)=true:=beq_iff_eq.mpr h
    simp only [List.lookup,hb,if_pos h]
   ·have hb:(g==f)=false:=beq_eq_false_iff_ne.mpr h
    simp only [List.lookup,hb,if_neg h]
 | (k,x)::r=>by
   have ih:=rC f g v r;rw [show cX f v ((k,x)::r)=(if k=f then (k,v)::r else (k,x)::cX f v r) from rfl]
   by_cases hk:k=f
   ·rw [if_pos hk]
    by_cases h:g=k
    ·have hb:(g==k)=true:=beq_iff_eq.mpr h
     simp only [List.lookup,hb,if_pos (h.trans hk)]
    ·have hb:(g==k)=false:=beq_eq_false_iff_ne.mpr h
     simp only [List.lookup,hb,if_neg (fun e:g=f=>h (e.trans hk.symm))]
   ·rw [if_neg hk]
    by_cases h:g=k
    ·have hb:(g==k)=true:=beq_iff_eq.mpr h
     simp only [List.lookup,hb,if_neg (fun e:g=f=>hk (h.symm.trans e))]
    ·have hb:(g==k)=false:=beq_eq_false_iff_ne.mpr h
     simp only [List.lookup,hb];exact ih
theorem qQ (f:Str) (v:V):∀fs:List (Str×V),f∈(cX f v fs).map (·.1) /\ ∀g,g∈fs.map (·.1)->g∈(cX f v fs).map (·.1)
 | []=>⟨by simp [cX],fun g h=>by simp at h⟩
 | (k,x)::r=>by
   obtain ⟨i1,i2⟩:=qQ f v r;rw [show cX f v ((k,x)::r)=(if k=f then (k,v)::r else (k,x)::cX f v r) from rfl]
   by_cases hk:k=f
   ·rw [if_pos hk]
    subst hk;exact ⟨by simp,fun g h=>by simpa using h⟩
   ·rw [if_neg hk]
    refine ⟨?_,fun g h=> ?_⟩
    ·rw [List.map_cons]
     exact List.mem_cons_of_mem _ i1
    ·rw [List.map_cons] at h ⊢
     rcases List.mem_cons.mp h with e|e
     ·exact List.mem_cons.mpr (.inl e)
     ·exact List.mem_cons_of_mem _ (i2 g e)
theorem rD (f:Str) (v:V):∀fs:List (Str×V),(cX f v fs).length<=fs.length+1
 | []=>by simp [cX]
 | (k,x)::r=>by
   have ih:=rD f v r;rw [show cX f v ((k,x)::r)=(if k=f then (k,v)::r else (k,x)::cX f v r) from rfl]
   by_cases hk:k=f
   ·rw [if_pos hk,List.length_cons,List.length_cons];omega
   ·rw [if_neg hk,List.length_cons,List.length_cons];omega
theorem vD.some_of {v:V} {o:Option Value} (r:vD (some v) o):∃u,o=some u/\RelV v u:=by
 cases o with
 | none=>exact (show False from r).elim
 | some u=>exact ⟨u,rfl,r⟩
theorem vD.none_of {o:Option Value} (r:vD none o):o=none:=by
 cases o with
 | none=>rfl
 | some u=>exact (show False from r).elim
theorem Gy {v:V} {u:Value} (r:RelV v u):PySem.W.handedIn u=true:=by
 cases v with
 | non=>cases (show u=Value.none from r);rfl
 | bl b=>cases (show u=Value.bool b from r);rfl
 | int i=>obtain ⟨t,e⟩:=(show ∃t,u=Value.int i t from r);cases e;rfl
 | str x=>obtain ⟨t,e⟩:=(show ∃t,u=Value.str x t from r);cases e;rfl
 | GZ b=>obtain ⟨t,e⟩:=(show ∃t,u=Value.bytes b t from r);cases e;rfl
 | flt b=>obtain ⟨t,e⟩:=(show ∃t,u=Value.float b t from r);cases e;rfl
 | ref a=>cases (show u=Value.ref a from r);rfl
 | ty n=>cases (show u=Value.type n from r);rfl
section
variable {P:Program} {w:World} {H H':Hp} {h h':Heap} {a C dx:Addr} {fs fs':List (Str×V)}
theorem jc (hok:qp P w H h) (e:H a=some (.ins C dx fs)):∃mA,CQ h a dx C mA/\(∀f,vD (fs.lookup f) (mA f))/\PySem.Within mA (fs.map (·.1))/\fs.length<=1000/\H dx=some (.own a):=by
 obtain ⟨d,z,ne,ob,mA,n,r,q⟩:=(show fP P w H h a (.ins C dx fs) from hok a _ e);exact ⟨mA,⟨ob,n,ne⟩,r,q,z,d⟩
end
structure Cls (K:PySem.W.Frag) (C:Addr):Prop where
 pg:PySem.W.plainGet K C Str.empty=true
 hd:PySem.W.hasDictIn K C=true
 po:PySem.W.plainOver K C=true
 sa:PySem.W.findIn K (.ref C) "__setattr__" = some (some (.builtin "object.__setattr__"))
theorem Cls.get {K:PySem.W.Frag} {C:Addr} (c:Cls K C) (f:Str):PySem.W.plainGet K C f=true:=c.pg
def fU (K:PySem.W.Frag) (C:Addr) (f:Str):Prop:=PySem.W.findIn K (.ref C) f=some none
theorem fU.taker {K:PySem.W.Frag} {C:Addr} {f:Str} (n:fU K C f):PySem.W.takerIn K C f=some none:=by
 unfold PySem.W.takerIn;rw [show PySem.W.findIn K (.ref C) f=some none from n];rfl
structure Meth (K:PySem.W.Frag) (C:Addr) (m:Str) (f:Addr):Prop where
 at_:PySem.W.findIn K (.ref C) m=some (some (.ref f))
 fn:PySem.W.isFn K (.ref f)=true
 kp:PySem.W.keepIn K (.ref f)=true
section
variable {X:Cx} {pins:List (Addr×Obj)} {σ:St} {H:Hp} {s:Shared} {a C dx:Addr} {fs:List (Str×V)} {f:Str} {v:V} {A:Around} {E:Value->Shared->Prop}
theorem uJ {b:Bool} {Q:Value->Shared->Prop} (I:Inv X pins σ H s) (e:H a=some (.ins C dx fs)) (c:Cls X.K C) (n:fU X.K C f) (l:fs.lookup f=some v)
 (h:∀u s',Inv X pins σ H s'->RelV v u->Q u s'):wpAny (model X.prog X.w) A (getAttr (.ref a) f b) Q E s:=by
 obtain ⟨mA,O,r,_,_,_⟩:=jc I.hok e;obtain ⟨u,hu,ru⟩:=vD.some_of (v:=v) (o:=mA f) (by rw [←l];exact r f);exact get_map I.mZ O (c.get f) c.hd n hu (Gy ru) (h u _ (I.tok _) ru)
theorem pG {m:Str} {g:Addr} {pl:Sem Bool} {Q:Value×List Value->Shared->Prop} (I:Inv X pins σ H s) (e:H a=some (.ins C dx fs)) (c:Cls X.K C) (k:Meth X.K C m g) (l:fs.lookup m=none)
 (h:Q (.ref g,[.ref a]) s):wpAny (model X.prog X.w) A (getMethod (.ref a) m pl) Q E s:=by
 obtain ⟨mA,O,r,_,_,_⟩:=jc I.hok e;have hn:mA m=none:=vD.none_of (by rw [←l];exact r m);exact JM I.mZ O (c.get m) k.at_ k.fn hn h
theorem tW {y:V} {u:Value} {Q:Unit->Shared->Prop} (I:Inv X pins σ H s) (e:H a=some (.ins C dx fs)) (c:Cls X.K C) (n:fU X.K C f) (hl:fs.length<1000) (ry:RelV y u)
 (h:∀s',Inv X pins σ (upd H a (.ins C dx (cX f y fs))) s'->Q () s'):wpAny (model X.prog X.w) A (setAttr (.ref a) f u) Q E s:=by
 obtain ⟨mA,O,r,wi,_,ho⟩:=jc I.hok e;have hz:(fs.map (·.1)).length<=sizeLine:=by rw [List.length_map,sizeLine_eq];omega
 refine Lk I.mZ O c.sa c.po n.taker c.hd wi hz fun h' O' sb=>h _ ?_;have hd:∃o,h'.get? dx=some o:=let ⟨o,_,_,e',_⟩:=O'.ns;⟨o,e'⟩
 refine I.write (x:=a) (e:=dx) (by rw [e];exact True.intro) (.inr ho) (fun b q hb z=>(sb.2 b hb).trans z) hd ?_;refine ⟨by rw [aD O.ne];exact ho, ?_,O.ne,O'.obj,_,O'.ns,fun g=> ?_,fun g hg=> ?_⟩
 ·have:=rD f y fs;omega
 ·show vD ((cX f y fs).lookup g) (if g=f then some u else mA g)
  rw [rC]
  by_cases q:g=f
  ·rw [if_pos q,if_pos q];exact ry
  ·rw [if_neg q,if_neg q];exact r g
 ·by_cases q:g=f
  ·rw [q];exact (qQ f y fs).1
  ·refine (qQ f y fs).2 g (wi g fun z=>hg ?_)
   show (if g=f then some u else mA g)=none;rw [if_neg q];exact z
theorem Inv.made (I:Inv X pins σ H s):Inv X pins σ (upd (upd H s.heap.objs.size (.own (s.heap.objs.size+1))) (s.heap.objs.size+1) (.ins C s.heap.objs.size []))
 {s with heap:=(s.heap.push PySem.W.emptyDict).push (PySem.W.instObj C s.heap.objs.size)}:=by
 have e1:(s.heap.push PySem.W.emptyDict).get? s.heap.objs.size=some PySem.W.emptyDict:=Heap.get?_push_size s.heap rfl
 have e2:((s.heap.push PySem.W.emptyDict).push (PySem.W.instObj C s.heap.objs.size)).get? (s.heap.objs.size+1)=some (PySem.W.instObj C s.heap.objs.size):=by
  have:=Heap.get?_push_size (s.heap.push PySem.W.emptyDict) (o:=PySem.W.instObj C s.heap.objs.size) rfl;rwa [Heap.size_push] at this
 have e3:(s.heap.push PySem.W.emptyDict).Ns s.heap.objs.size (fun _=>none):=⟨PySem.W.emptyDict, #[],_,e1,rfl,(fun e he=>absurd he (by simp)),fun _=>rfl⟩;have I1:=I.laid (a:=s.heap.objs.size) (o:= .own (s.heap.objs.size+1)) (h':=s.heap.push PySem.W.emptyDict) (t':=s.toks) (fun b u q=>Heap.get?_push_of_some _ q) (Nat.le_refl _) ⟨_,e1⟩;refine I1.laid (a:=s.heap.objs.size+1) (o:= .ins C s.heap.objs.size []) (t':=s.toks) (fun b u q=>Heap.get?_push_of_some _ q) (Nat.le_of_eq (Heap.size_push _ _)) ?_;have ne:s.heap.objs.size≠s.heap.objs.size+1:=Nat.ne_of_lt (Nat.lt_succ_self _);refine ⟨by rw [aD ne,ao],Nat.zero_le _,ne,e2,fun _=>none,(Heap.Ns1.of_empty e3).at fun o q=>Heap.get?_push_of_some _ q,fun _=>True.intro,fun y hy=>absurd rfl hy⟩
theorem Ot {prog:Program} {w:World} {env:Env} {e:Expr} {f:Str} {pos:Pos} {s:Shared} {Q:Value->Shared->Prop} (hb:attributeBase e f env (eval e env)=eval e env)
 (h:wpAny (model prog w) A (eval e env) (fun o s₁=>wpAny (model prog w) A (getAttr o f true) Q E s₁) E s):wpAny (model prog w) A (eval (.Attribute e f pos) env) Q E s:=
 Attribute_any_ h (by rw [arm_eval_Attribute,hb])
end
def Vr (K:PySem.W.Frag) (ta:TE) (f:Str):TE:=fun σ H Q=>ta σ H fun x H1=>∃a C dx fs v,x = .ref a/\H1 a=some (.ins C dx fs)/\Cls K C/\fU K C f/\fs.lookup f=some v/\Q v H1
def Vx (K:PySem.W.Frag) (ta tv:TE) (f:Str):TS:=fun D σ H=>tv σ H fun y H1=>ta σ H1 fun x H2=>∃a C dx fs,x = .ref a/\H2 a=some (.ins C dx fs)/\Cls K C/\fU K C f/\fs.length<1000 /\
 D.nx σ (upd H2 a (.ins C dx (cX f y fs)))
def XF (X:Cx) (op:Operator) (rd:V->V->Hp->VK->Prop):Prop:=
 ∀(pins:List (Addr×Obj)) (s:Shared) (σ:St) (H:Hp) (x y:V) (u v:Value) (Q:VK),Inv X pins σ H s->RelV x u->RelV y v->rd x y H Q->wpAny (model X.prog X.w) X.A (inplaceOp op u v) (EP X pins σ Q) X.xe s
def Dy (K:PySem.W.Frag) (ta tv:TE) (rd:V->V->Hp->VK->Prop) (f:Str):TS:=fun D σ H=>ta σ H fun x H1=>∃a C dx fs v,x = .ref a/\H1 a=some (.ins C dx fs)/\Cls K C/\fU K C f/\fs.lookup f=some v /\
 tv σ H1 fun y H2=>rd v y H2 fun z H3=>∃Tf fs',H3 a=some (.ins C Tf fs')/\fs'.length<1000/\D.nx σ (upd H3 a (.ins C Tf (cX f z fs')))
section
variable {X:Cx} {o e value:Expr} {f:Str} {pos pos' tpos:Pos} {ta tv:TE}
theorem Rg (he:PE X e ta) (hb:attributeBase e f X.env (eval e X.env)=eval e X.env):PE X (.Attribute e f pos) (Vr X.K ta f):=by
 intro pins s σ H Q I h;refine Ot hb (dH (he pins s σ H _ I h) fun u s1 ⟨x,H1,I1,rx,a,C,dx,fs,v,ex,ea,c,n,l,q⟩=> ?_);subst ex;obtain rfl:u=Value.ref a:=rx;exact uJ I1 ea c n l fun u' s2 I2 ru=>⟨v,H1,I2,ru,q⟩
theorem Q7 (ha:PE X o ta) (hv:PE X value tv) (hs:swapsWith value (some (.Attribute o f pos')) pos.line X.env=pure false):PS X (.Assign [.Attribute o f pos'] value pos) (Vx X.K ta tv f):=by
 intro pins s σ H D I h;refine plainObj_wpAny_Assign_Attribute (dH (hv pins s σ H _ I h) fun u s1 ⟨y,H1,I1,ry,q⟩=>dH (ha pins s1 σ H1 _ I1 q) fun ov s2 ⟨x,H2,I2,rx,a,C,dx,fs,ex,ea,c,n,l,q2⟩=> ?_) hs;subst ex;obtain rfl:ov=Value.ref a:=rx;exact tW I2 ea c n l ry fun s3 I3=>⟨σ,_,I3,q2⟩
theorem FT {op:Operator} {rd:V->V->Hp->VK->Prop} (ha:PE X o ta) (hv:PE X value tv) (hop:XF X op rd):PS X (.AugAssign (.Attribute o f tpos) op value pos) (Dy X.K ta tv rd f):=by
 intro pins s σ H D I h;refine wpAny_AugAssign_AttributeAny (dH (ha pins s σ H _ I h) fun ov s1 ⟨x,H1,I1,rx,a,C,dx,fs,v,ex,ea,c,n,l,q⟩=> ?_);subst ex;obtain rfl:ov=Value.ref a:=rx;refine uJ I1 ea c n l fun u s2 I2 ru=>dH (hv pins s2 σ H1 _ I2 q) fun w3 s3 ⟨y,H2,I3,ry,q3⟩=>dH (hop pins s3 σ H2 v y u w3 _ I3 ru ry q3) fun w4 s4 ⟨z,H3,I4,rz,Tf,fs',ea',l',q4⟩=> ?_;exact tW I4 ea' c n l' rz fun s5 I5=>⟨σ,_,I5,q4⟩
end
section
variable {X:Cx} {pins:List (Addr×Obj)} {σ:St} {H:Hp} {s:Shared} {A:Around} {E:Value->Shared->Prop} {Q:Value->Shared->Prop} {c:Value} {b:Bool}
inductive pJ (K:PySem.W.Frag) (H:Hp):V->Value->Prop where
 | non:pJ K H .non (.type "NoneType")
 | bl (x:Bool):pJ K H (.bl x) (.type "bool")
 | int (i:Int):pJ K H (.int i) (.type "int")
 | str (x:Str):pJ K H (.str x) (.type "str")
 | flt (x:UInt64):pJ K H (.flt x) (.type "float")
 | lst {a:Addr} {xs:List V} (e:H a=some (.lst xs)):pJ K H (.ref a) (.type "list")
 | Af {a:Addr} {o:Obj} {xs:List V} (e:H a=some (.Af o (.lst xs))):pJ K H (.ref a) (.type "list")
 | tup {a:Addr} {xs:List V} (e:H a=some (.tup xs)):pJ K H (.ref a) (.type "tuple")
 | dK {a:Addr} {kvs:List (Key×V)} (e:H a=some (.dK kvs)):pJ K H (.ref a) (.type "dict")
 | dT {a:Addr} {kvs:List (List Key×V)} (e:H a=some (.dT kvs)):pJ K H (.ref a) (.type "dict")
 | ins {a C dx:Addr} {fs:List (Str×V)} (e:H a=some (.ins C dx fs)) (cl:Cls K C) (ha:PySem.W.findIn K (.ref C) "__class__" = some (some (.builtin "object.__class__")))
    (hn:PySem.W.specialIn K (.builtin "object.__class__") "__get__" = some (some (.builtin "getset_descriptor.__get__"))) (htk:PySem.W.takesIn K (.builtin "object.__class__")=some true)
    (hm:PySem.W.mroIn K C (.type "object")=some true):pJ K H (.ref a) (.ref C)
theorem Gr {x:V} {u t:Value} (I:Inv X pins σ H s) (rx:RelV x u) (ty:pJ X.K H x t) (e:PySem.W.kitOne X.K t c=some b) (h:∀tk,Q (.bool b) {s with toks:=tk}):
 wpAny (model X.prog X.w) A (call (.builtin "isinstance") [u,c]) Q E s:=by
 cases ty with
 | non=>cases (show u=Value.none from rx);exact PySem.W.kia_one PySem.W.kitx_none I.mZ True.intro e (fun z=>nomatch z) h
 | bl y=>cases (show u=Value.bool y from rx);exact PySem.W.kia_one PySem.W.kitx_bool I.mZ True.intro e (fun z=>nomatch z) h
 | int i=>obtain ⟨t,q⟩:=(show ∃t,u=Value.int i t from rx);cases q;exact PySem.W.kia_one PySem.W.kitx_int I.mZ True.intro e (fun z=>nomatch z) h
 | str y=>obtain ⟨t,q⟩:=(show ∃t,u=Value.str y t from rx);cases q;exact PySem.W.kia_one PySem.W.kitx_str I.mZ True.intro e (fun z=>nomatch z) h
 | flt y=>obtain ⟨t,q⟩:=(show ∃t,u=Value.float y t from rx);cases q;exact PySem.W.kia_one PySem.W.kitx_float I.mZ True.intro e (fun z=>nomatch z) h
 | @lst a xs ea=>
   cases (show u=Value.ref a from rx);obtain ⟨_,_,n,_,h1⟩:=(show fP X.prog X.w H s.heap a (.lst xs) from I.hok a _ ea);exact PySem.W.kia_one PySem.W.kitx_list I.mZ ⟨_,h1,rfl⟩ e (fun z=>nomatch z) h
 | @Af a ob xs ea=>
   cases (show u=Value.ref a from rx);obtain ⟨_,_,_,n,_,h1⟩:=(show fP X.prog X.w H s.heap a (.Af ob (.lst xs)) from I.hok a _ ea);exact PySem.W.kia_one PySem.W.kitx_list I.mZ ⟨_,h1,rfl⟩ e (fun z=>nomatch z) h
 | @tup a xs ea=>
   cases (show u=Value.ref a from rx);obtain ⟨_,_,_,p⟩:=(show fP X.prog X.w H s.heap a (.tup xs) from I.hok a _ ea);obtain ⟨o,h1,h2,_⟩:=p;exact PySem.W.kia_one PySem.W.kitx_tuple I.mZ ⟨o,h1,h2⟩ e (fun z=>nomatch z) h
 | @dK a kvs ea=>
   cases (show u=Value.ref a from rx);obtain ⟨_,_,vs,_,p⟩:=(show fP X.prog X.w H s.heap a (.dK kvs) from I.hok a _ ea);obtain ⟨o,es,ep,h1,h2,_⟩:=p;exact PySem.W.kia_one PySem.W.kitx_dict I.mZ ⟨o,h1,h2.1⟩ e (fun z=>nomatch z) h
 | @dT a kvs ea=>
   cases (show u=Value.ref a from rx);obtain ⟨_,_,xs,_,o,es,ep,h1,h2,_⟩:=(show fP X.prog X.w H s.heap a (.dT kvs) from I.hok a _ ea);exact PySem.W.kia_one PySem.W.kitx_dict I.mZ ⟨o,h1,h2.1⟩ e (fun z=>nomatch z) h
 | @ins a C dx fs ea cl ha hn htk hm=>
   cases (show u=Value.ref a from rx);obtain ⟨mA,O,_⟩:=jc I.hok ea;obtain ⟨od,J,_⟩:=O.look;exact PySem.W.kia_one (PySem.W.kitx_own (cl.get _) cl.hd ha hn htk hm) I.mZ J e (fun z=>nomatch z) h
end
end L2
namespace L2
open PySem PySem.Spec PyProof.Rows
structure dN (k:Nat) (A:Around):Prop where
 hd:A.handled=none
 dp:A.depth+3*k+5<recursionLimit
 un:A.units+16*k+200<cLine
theorem dN.mono {j k:Nat} {A:Around} (r:dN k A) (h:j<=k):dN j A:=⟨r.hd,by have:=r.dp;omega,by have:=r.un;omega⟩
theorem dN.deeper {k:Nat} {A:Around} (r:dN (k+1) A) (env:Env):dN k (A.deeper env):=
 ⟨r.hd,by have:=r.dp;show A.depth+1+3*k+5<_;omega,by have:=r.un;show A.units+3+16*k+200<_;omega⟩
theorem dN.in1 {k:Nat} {A:Around} (r:dN (k+1) A):dN k A.in1:=
 ⟨r.hd,by have:=r.dp;show A.depth+3*k+5<_;omega,by have:=r.un;show A.units+1+16*k+200<_;omega⟩
theorem Cj {A:Around} {C:Addr} {us:List Value} {kw:List (Str×Value)}:(A.under (.builtin "type.__call__" ⟨.ref C::us,kw⟩)).depth=A.depth+1:=by
 first |rfl|simp [Around.under,Code.weight,Code.isCreation,Code.isGuard,Code.isCaller,Code.frames,Code.isFrame,guardIds]
theorem Ci {A:Around} {C:Addr} {us:List Value} {kw:List (Str×Value)}:(A.under (.builtin "type.__call__" ⟨.ref C::us,kw⟩)).units=A.units+1:=by
 first |rfl|simp [Around.under,Code.cUnits,Code.frames,Code.isFrame]
theorem dN.make {k:Nat} {A:Around} (r:dN (k+1) A) (C:Addr) (us:List Value) (kw:List (Str×Value)):dN k (A.under (.builtin "type.__call__" ⟨.ref C::us,kw⟩)):=
 ⟨r.hd,by have:=r.dp;rw [Cj];omega,by have:=r.un;rw [Ci];omega⟩
theorem dN.depth {k:Nat} {A:Around} (r:dN k A):A.depth<recursionLimit:=by have:=r.dp;omega
theorem dN.units {k:Nat} {A:Around} (r:dN k A):A.units+64<cLine:=by have:=r.un;omega
theorem dN.Qy {k:Nat} {A:Around} (r:dN k A):A.units<cLine:=by have:=r.un;omega
def sZ:TA:=fun _ H Q=>Q [] H
def gP (ta:TE) (tr:TA):TA:=fun σ H Q=>ta σ H fun x H1=>tr σ H1 fun xs H2=>Q (x::xs) H2
section
variable {X:Cx} {e:Expr} {es:List Expr} {te:TE} {t:TA} {pos:Pos}
theorem aq:PA X [] sZ:=fun _ _ _ _ H Q I h=>Calls.spliced_nil ⟨[],H,I,.nil,h⟩
theorem aj (ha:PE X e te) (hr:PA X es t) (hs:starEach (e::es) X.env=(false,eval e X.env)::starEach es X.env:=by rfl):PA X (e::es) (gP te t):=by
 intro pos pins s σ H Q I h;rw [hs];show wpAny _ _ (spliced ((false,eval e X.env)::backTo pos (starEach es X.env))) _ _ s;refine Calls.spliced_cons (dH (ha pins s σ H _ I h) fun u s1 ⟨x,H1,I1,r1,q1⟩=> ?_);exact dH (hr pos pins s1 σ H1 _ I1 q1) fun us s2 ⟨xs,H2,I2,r2,q2⟩=>⟨x::xs,H2,I2,.cons r1 r2,q2⟩
def QD (t:TA):TE:=fun σ H Q=>t σ H fun xs H1=>xs.length<=sizeLine /\ ∀p,H1 p=none->Q (.ref p) (upd H1 p (.tup xs))
def Vo (t:TA):TE:=fun σ H Q=>t σ H fun xs H1=>xs.length<=sizeLine /\ ∀p,H1 p=none->Q (.ref p) (upd H1 p (.lst xs))
theorem cZ {x1} (h:PA X es t):PE X (.Tuple es x1 pos) (QD t):=by
 intro pins s σ H Q I hq;refine wpAny_Tuple_spliced (dH (h pos pins s σ H _ I hq) fun us s1 ⟨xs,H1,I1,r,z,q⟩=>⟨by rw [←r.length];exact z, ?_⟩);have hf:H1 s1.heap.objs.size=none:=I1.hok.fresh (Nat.le_refl _);refine ⟨.ref s1.heap.objs.size,upd H1 s1.heap.objs.size (.tup xs),I1.laid (t':=s1.toks) (fun b u e=>Heap.get?_push_of_some _ e) (Nat.le_refl _) ?_,rfl,q _ hf⟩;exact ⟨z,us,r,⟨_,Heap.get?_push_size _ rfl,rfl,_,rfl⟩⟩
theorem cC (h:PA X es t):PE X (.List es pos) (Vo t):=by
 intro pins s σ H Q I hq;refine wpAny_List_spliced (dH (h pos pins s σ H _ I hq) fun us s1 ⟨xs,H1,I1,r,z,q⟩=>⟨by rw [←r.length];exact z, ?_⟩);have hf:H1 s1.heap.objs.size=none:=I1.hok.fresh (Nat.le_refl _);refine ⟨.ref s1.heap.objs.size,upd H1 s1.heap.objs.size (.lst xs),I1.laid (t':=s1.toks) (fun b u e=>Heap.get?_push_of_some _ e) (Nat.le_refl _) ?_,rfl,q _ hf⟩;exact ⟨z,us,0,r,Heap.get?_push_size _ rfl⟩
end
abbrev Sp:=List V->Hp->VK->XK->Prop
abbrev Ht:=List Env->Hp->Shared->XK->Value->Shared->Prop
structure vH (P:Program) (w:World) (K:PySem.W.Frag) (mg:Str->Option Value) (base:Heap) (A:Around) (outer:List Env) (s:Shared) (H:Hp):Prop where
 frames:A.frames=some outer
 mod:Mod K mg base
 bs:∀b o,base.get? b=some o->s.heap.get? b=some o/\H b=none
 CP:base.objs.size<=s.heap.objs.size
 mj:s.heap.FunFrames base outer
 Hr:∀b∈frs outer,H b=none
 hok:qp P w H s.heap
 bare:AllBare s.gens
def CE (outer:List Env) (P:Program) (w:World) (H:Hp) (s:Shared) (Q:VK) (u:Value) (s':Shared):Prop:=
 ∃v H',s'.os=s.os/\AllBare s'.gens/\Un (frs outer) [] H H' s.heap s'.heap/\qp P w H' s'.heap/\RelV v u/\Q v H'
def CR (CX:Ht) (outer:List Env) (P:Program) (w:World) (H:Hp) (s:Shared) (Q:VK) (E:XK) (r:Result) (s':Shared):Prop:=
 match r with
 | .ok (.ret u)=>CE outer P w H s Q u s'
 | .ok _=>False
 | .error e=>CX outer H s E e s'
structure bU (P:Program) (w:World) (K:PySem.W.Frag) (mg:Str->Option Value) (base:Heap) (CX:Ht) (k:Nat) (f:Addr) (fd:FuncData) (ps:List Str) (sp:Sp):Prop where
 len:∀vs H Q E,sp vs H Q E->vs.length=ps.length
 run:∀(A:Around) (outer:List Env) (s:Shared) (H:Hp) (args:Args) (us:List Value) (vs:List V) (Q:VK) (E:XK),dN k A->vH P w K mg base A outer s H->BindsTo s fd args (ps.zip us)->Vals vs us->sp vs H Q E ->
  codeAny (model P w) A (.call (.ref f) args) (CR CX outer P w H s Q E) s
theorem vH.make {P:Program} {w:World} {K:PySem.W.Frag} {mg:Str->Option Value} {base:Heap} {A:Around} {outer:List Env} {s:Shared} {H:Hp} (e:vH P w K mg base A outer s H) (C:Addr) (us:List Value) (kw:List (Str×Value)):
 vH P w K mg base (A.under (.builtin "type.__call__" ⟨.ref C::us,kw⟩)) outer s H:=⟨by first |exact e.frames|(simpa [Around.under,Code.envs,Code.isFrame,pushEnvs] using e.frames),e.mod,e.bs,e.CP,e.mj,e.Hr,e.hok,e.bare⟩
theorem vH.in1 {P:Program} {w:World} {K:PySem.W.Frag} {mg:Str->Option Value} {base:Heap} {A:Around} {outer:List Env} {s:Shared} {H:Hp} (e:vH P w K mg base A outer s H):
 vH P w K mg base A.in1 outer s H:=⟨e.frames,e.mod,e.bs,e.CP,e.mj,e.Hr,e.hok,e.bare⟩
section
variable {X:Cx} {pins:List (Addr×Obj)} {σ:St} {H:Hp} {s s':Shared}
theorem Inv.env0 (I:Inv X pins σ H s):vH X.prog X.w X.K X.mg X.base X.A X.stack s H:=
 ⟨I.ok.frames,I.ok.mod,I.bs,Nat.le_trans I.ok.CP I.sz,I.stack,I.wM,I.hok,I.bare⟩
theorem Inv.after {Q:VK} {u:Value} (I:Inv X pins σ H s) (h:CE X.stack X.prog X.w H s Q u s'):EP X pins σ Q u s':=by
 obtain ⟨v,H',os,bare,un,hok,r,q⟩:=h;obtain ⟨hh,g,d,t,os'⟩:=s';obtain rfl:os'=s.os:=os;exact ⟨v,H',I.call (h':=hh) (g':=g) (d':=d) (t':=t) (ch:=[]) un hok bare (fun b z=>absurd z (by simp)),r,q⟩
end
def Dm (sp:Sp) (oA:List V) (E:XK) (t:TA):TE:=fun σ H Q=>t σ H fun vs H1=>sp (vs++oA) H1 Q E
def Dl (C:Addr) (m:Str) (sp:Sp) (oA:List V) (E:XK) (ta:TE) (t:TA):TE:=fun σ H Q=>ta σ H fun x H1=>∃a dx fs,x = .ref a/\H1 a=some (.ins C dx fs)/\fs.lookup m=none /\
 t σ H1 fun vs H2=>sp (x::(vs++oA)) H2 Q E
def Pn (C:Addr) (sp:Sp) (oA:List V) (E:XK) (t:TA):TE:=fun σ H Q=>t σ H fun vs H1=>∀x dx,H1 x=none->H1 dx=none->dx≠x ->
 sp (.ref x::(vs++oA)) (upd (upd H1 dx (.own x)) x (.ins C dx [])) (fun v H2=>v = .non/\Q (.ref x) H2) E
def Binds (K:PySem.W.Frag) (fd:FuncData) (ps:List Str) (ds:List Value):Prop:=
 ∀(s:Shared) (us:List Value),K.In s.heap->(us++ds).length=ps.length->BindsTo s fd ⟨us,[]⟩ (ps.zip (us++ds))
theorem Binds.all {K:PySem.W.Frag} {fd:FuncData} {ps:List Str} (h:∀us:List Value,us.length=ps.length->bindArgs fd ⟨us,[]⟩=pure (ps.zip us)):Binds K fd ps []:=fun s us _ hl=>by
 rw [List.append_nil] at hl ⊢;exact .of_eq (h us hl)
def Passes (CX:Ht) (X:Cx) (E:XK):Prop:=∀(pins:List (Addr×Obj)) (σ:St) (H:Hp) (s:Shared) (e:Value) (s':Shared),Inv X pins σ H s->CX X.stack H s E e s'->X.xe e s'
section
variable {X:Cx} {CX:Ht} {k:Nat} {f C:Addr} {fd:FuncData} {ps:List Str} {sp:Sp} {oA:List V} {ds:List Value} {E:XK} {x m:Str} {p pos apos:Pos} {e o:Expr} {es:List Expr} {ta:TE} {t:TA}
theorem xR {pins:List (Addr×Obj)} {σ:St} {H:Hp} {s:Shared} {Q:VK} {us:List Value} {vs:List V} (F:bU X.prog X.w X.K X.mg X.base CX k f fd ps sp) (hr:dN k X.A) (hb:Binds X.K fd ps ds) (hd:Vals oA ds) (hx:Passes CX X E)
 (I:Inv X pins σ H s) (r:Vals vs us) (h:sp (vs++oA) H Q E):wpAny (model X.prog X.w) X.A (call (.ref f) us) (EP X pins σ Q) X.xe s:=by
 have r2:Vals (vs++oA) (us++ds):=r.append hd;have hl:(us++ds).length=ps.length:=by rw [←r2.length];exact F.len _ _ _ _ h
 refine wpAny_call (codeAny_mono (F.run X.A X.stack s H ⟨us,[]⟩ (us++ds) (vs++oA) Q E hr I.env0 (hb s us I.mZ hl) r2 h) fun r s' hq=> ?_);cases r with
 | error e=>exact hx pins σ H s e s' I hq
 | ok fl=>
   cases fl with
   | ret u=>exact I.after hq
   | next=>exact False.elim hq
   | brk=>exact False.elim hq
   | cont=>exact False.elim hq
theorem Mh (F:bU X.prog X.w X.K X.mg X.base CX k f fd ps sp) (hr:dN k X.A) (hg:Gl X x) (hm:X.mg x=some (.ref f)) (hk:PySem.W.keepIn X.K (.ref f)=true) (hb:Binds X.K fd ps ds) (hd:Vals oA ds) (hx:Passes CX X E)
 (ha:PA X (e::es) t) (hdb:(x==("__debug__" :Str))=false:=by decide) (he:starEach (e::es) X.env=(false,eval e X.env)::starEach es X.env:=by rfl) (hpl:(backTo pos (starEach es X.env)).any (·.1)=false:=by rfl):
 PE X (.Call (.Name x p) (e::es) [] pos) (Dm sp oA E t):=by
 intro pins s σ H Q I h;refine wpAny_Call_Name_kw (lu I hg hm ?_ hdb);refine PySem.W.callWith_K (h₀:=X.base) I.ok.mod.Ho hk (dH (ha pos pins s σ H _ I h) fun us s1 ⟨vs,H1,I1,r,q⟩=>⟨I1.mZ, ?_⟩) he hpl;exact xR F hr hb hd hx I1 r q
theorem Mf {pl:Sem Bool} (he:PE X o ta) (c:Cls X.K C) (hm:Meth X.K C m f) (F:bU X.prog X.w X.K X.mg X.base CX k f fd ps sp) (hr:dN k X.A) (hb:Binds X.K fd ps ds) (hd:Vals oA ds) (hx:Passes CX X E) (ha:PA X (e::es) t)
 (hst:starEach (e::es) X.env=(false,eval e X.env)::starEach es X.env:=by rfl) (hpl:(backTo pos (starEach es X.env)).any (·.1)=false:=by rfl)
 (ht:eval (.Call (.Attribute o m apos) (e::es) [] pos) X.env=(do
   let ov ←eval o X.env
   standAt apos.atName
   let (f,first) ←holding [ov] (getMethod ov m pl)
   callWith pos f first (backTo pos (starEach (e::es) X.env)) (backToKw pos (keywordEach [] X.env))):=by rfl):
 PE X (.Call (.Attribute o m apos) (e::es) [] pos) (Dl C m sp oA E ta t):=by
 intro pins s σ H Q I h;refine PySem.W.methodCall_KW (pl:=pl) (dH (he pins s σ H _ I h) fun u s1 ⟨x,H1,I1,rx,a,dx,fs,ex,ea,l,q⟩=> ?_) ht;subst ex;obtain rfl:u=Value.ref a:=rx;refine pG I1 ea c hm l ?_;refine PySem.W.callWith_K (first:=[.ref a]) (h₀:=X.base) I.ok.mod.Ho hm.kp (dH (ha pos pins s1 σ H1 _ I1 q) fun us s2 ⟨vs,H2,I2,r,q2⟩=>⟨I2.mZ, ?_⟩) hst hpl;exact xR (us:= .ref a::us) (vs:= .ref a::vs) F hr hb hd hx I2 (.cons rfl r) q2
theorem Iz {pl:Sem Bool} (he:PE X o ta) (c:Cls X.K C) (hm:Meth X.K C m f) (F:bU X.prog X.w X.K X.mg X.base CX k f fd ps sp) (hr:dN k X.A) (hb:Binds X.K fd ps ds) (hd:Vals oA ds) (hx:Passes CX X E)
 (ht:eval (.Call (.Attribute o m apos) [] [] pos) X.env=(do
   let ov ←eval o X.env
   standAt apos.atName
   let (f,first) ←holding [ov] (getMethod ov m pl)
   callWith pos f first (backTo pos (starEach [] X.env)) (backToKw pos (keywordEach [] X.env))):=by rfl):
 PE X (.Call (.Attribute o m apos) [] [] pos) (Dl C m sp oA E ta sZ):=by
 intro pins s σ H Q I h;refine PySem.W.methodCall_KW (pl:=pl) (dH (he pins s σ H _ I h) fun u s1 ⟨x,H1,I1,rx,a,dx,fs,ex,ea,l,q⟩=> ?_) ht;subst ex;obtain rfl:u=Value.ref a:=rx;refine pG I1 ea c hm l ?_;exact PySem.W.callWith_K0 (first:=[.ref a]) I1.mZ hm.kp (xR (us:=[.ref a]) (vs:=[.ref a]) F hr hb hd hx I1 (.cons rfl .nil) q)
structure Mk (K:PySem.W.Frag) (C f:Addr):Prop where
 makes:PySem.W.makesIn K C=true
 init:PySem.W.findIn K (.ref C) "__init__" = some (some (.ref f))
 fn:PySem.W.isFn K (.ref f)=true
 kp:PySem.W.keepIn K (.ref C)=true
theorem Ik {pins:List (Addr×Obj)} {σ:St} {H:Hp} {s:Shared} {Q:VK} {us:List Value} {vs:List V} (M:Mk X.K C f) (F:bU X.prog X.w X.K X.mg X.base CX k f fd ps sp) (hr:dN (k+1) X.A) (hb:Binds X.K fd ps ds) (hd:Vals oA ds)
 (hx:Passes CX X E) (I:Inv X pins σ H s) (r:Vals vs us)
 (h:∀x dx,H x=none->H dx=none->dx≠x->sp (.ref x::(vs++oA)) (upd (upd H dx (.own x)) x (.ins C dx [])) (fun v H2=>v = .non/\Q (.ref x) H2) E):
 wpAny (model X.prog X.w) X.A (call (.ref C) us) (EP X pins σ Q) X.xe s:=by
 have hq:=h (s.heap.objs.size+1) s.heap.objs.size (I.hok.fresh (Nat.le_succ _)) (I.hok.fresh (Nat.le_refl _)) (Nat.ne_of_lt (Nat.lt_succ_self _));have I2:=Inv.made (C:=C) I;have r2:Vals (V.ref (s.heap.objs.size+1)::(vs++oA)) (Value.ref (s.heap.objs.size+1)::(us++ds)):= .cons rfl (r.append hd)
 have hl:(Value.ref (s.heap.objs.size+1)::us++ds).length=ps.length:=by
  have e:=r2.length;rw [F.len _ _ _ _ hq] at e;exact e.symm
 refine wpAny_call (z_ (f:=f) I.mZ M.makes M.init (beq_iff_eq.mp M.fn) (codeAny_mono (F.run _ X.stack _ _ ⟨Value.ref (s.heap.objs.size+1)::us,[]⟩ (Value.ref (s.heap.objs.size+1)::(us++ds)) _ _ E (hr.make C us [])
  (I2.env0.make C us []) (hb _ (Value.ref (s.heap.objs.size+1)::us) I2.mZ hl) r2 hq) fun r s' hq'=> ?_))
 cases r with
 | error e=>exact hx pins σ _ _ e s' I2 hq'
 | ok fl=>
   cases fl with
   | ret u=>
     obtain ⟨v,H',I3,rv,ev,q3⟩:=I2.after hq';subst ev;exact ⟨rv,⟨V.ref (s.heap.objs.size+1),H',I3,rfl,q3⟩⟩
   | next=>exact False.elim hq'
   | brk=>exact False.elim hq'
   | cont=>exact False.elim hq'
theorem Mg (M:Mk X.K C f) (F:bU X.prog X.w X.K X.mg X.base CX k f fd ps sp) (hr:dN (k+1) X.A) (hg:Gl X x) (hm:X.mg x=some (.ref C)) (hb:Binds X.K fd ps ds) (hd:Vals oA ds) (hx:Passes CX X E)
 (ha:PA X (e::es) t) (hdb:(x==("__debug__" :Str))=false:=by decide) (he:starEach (e::es) X.env=(false,eval e X.env)::starEach es X.env:=by rfl) (hpl:(backTo pos (starEach es X.env)).any (·.1)=false:=by rfl):
 PE X (.Call (.Name x p) (e::es) [] pos) (Pn C sp oA E t):=by
 intro pins s σ H Q I h;refine wpAny_Call_Name_kw (lu I hg hm ?_ hdb);refine PySem.W.callWith_K (h₀:=X.base) I.ok.mod.Ho M.kp (dH (ha pos pins s σ H _ I h) fun us s1 ⟨vs,H1,I1,r,q⟩=>⟨I1.mZ, ?_⟩) he hpl;exact Ik M F hr hb hd hx I1 r q
end
def PK (X:Cx) (kws:List Keyword) (t:TA):Prop:=
 ∀(pos:Pos) (pins:List (Addr×Obj)) (s:Shared) (σ:St) (H:Hp) (Q:List V->Hp->Prop),Inv X pins σ H s->t σ H Q->wpAny (model X.prog X.w) X.A (evalAll ((backToKw pos (keywordEach kws X.env)).map (·.2))) (AP X pins σ Q) X.xe s
section
variable {X:Cx} {CX:Ht} {k:Nat} {f C:Addr} {fd:FuncData} {ps ks:List Str} {sp:Sp} {E:XK} {x m:Str} {p pos apos kpos:Pos} {e o:Expr} {es:List Expr} {kws:List Keyword} {te ta:TE} {t tk:TA} {nm:Option Str}
theorem Ra:PK X [] sZ:=fun _ _ _ _ H Q I h=>wpAny_evalAll_nil ⟨[],H,I,.nil,h⟩
theorem LQ (ha:PE X e te) (hr:PK X kws t):PK X (⟨nm,e,kpos⟩::kws) (gP te t):=by
 intro pos pins s σ H Q I h;show wpAny _ _ (evalAll ((do let v ←eval e X.env;standAt pos;pure v)::(backToKw pos (keywordEach kws X.env)).map (·.2))) _ _ s;refine wpAny_evalAll_cons (wpAny_bind (dH (ha pins s σ H _ I h) fun u s1 ⟨x,H1,I1,r1,q1⟩=>wpAny_bind (wpAny_standAt (wpAny_pure ?_))));exact dH (hr pos pins s1 σ H1 _ I1 q1) fun us s2 ⟨xs,H2,I2,r2,q2⟩=>⟨x::xs,H2,I2,.cons r1 r2,q2⟩
variable {g:List Value->List Value->List Value} {gV:List V->List V->List V}
end
structure bA (N P:List Str) (sc:Scope):Prop where
 kind:sc.kind = .function
 co:sc.isCoroutine=false
 gen:sc.isGenerator=false
 nd:N.Nodup
 pre:N.take P.length=P
 par:∀x∈P,sc.names.lookup x=some .local\/sc.names.lookup x=some .cell
 RD:∀y∈sc.names,y.2 ≠ .free
theorem wC {kindOf:Str->Option NameKind} {x:Str}:∀{binds:List (Str×Value)} {m:Str->Option Value},(∀v,(x,v)∉binds)->bindL kindOf binds m x=m x
 | [],_,_=>rfl
 | (n,v)::r,m,h=>by
   unfold bindL;rw [wC fun w hw=>h w (List.mem_cons_of_mem _ hw)];split
   ·have:x≠n:=by rintro rfl;exact h v List.mem_cons_self
    simp [this]
   ·rfl
theorem wG {kindOf:Str->Option NameKind} {x:Str}:∀{binds:List (Str×Value)} {m:Str->Option Value},(∀v,(x,v)∉binds)->bindC kindOf binds m x=m x
 | [],_,_=>rfl
 | (n,v)::r,m,h=>by
   unfold bindC;rw [wG fun w hw=>h w (List.mem_cons_of_mem _ hw)];split
   ·rfl
   ·have:x≠n:=by rintro rfl;exact h v List.mem_cons_self
    simp [this]
theorem wD {kindOf:Str->Option NameKind} {x:Str} {v:Value}:∀{P:List Str} {vs:List Value} {i:Nat} {m:Str->Option Value},P.Nodup->P[i]? = some x->vs[i]? = some v->kindOf x=some .local ->
 bindL kindOf (P.zip vs) m x=some v
 | [],_,_,_,_,h,_,_=>by simp at h
 | _::_,[],_,_,_,_,h,_=>by simp at h
 | p::P,w::vs,0,m,nd,h1,h2,hk=>by
   simp at h1 h2;subst h1;subst h2;show bindL kindOf ((p,w)::P.zip vs) m p=_;unfold bindL;rw [wC fun v hv=>(List.nodup_cons.mp nd).1 (List.of_mem_zip hv).1,if_pos hk];simp
 | p::P,w::vs,i+1,m,nd,h1,h2,hk=>by
   show bindL kindOf ((p,w)::P.zip vs) m x=_;unfold bindL;exact wD (i:=i) (List.nodup_cons.mp nd).2 (by simpa using h1) (by simpa using h2) hk
theorem wH {kindOf:Str->Option NameKind} {x:Str} {v:Value}:∀{P:List Str} {vs:List Value} {i:Nat} {m:Str->Option Value},P.Nodup->P[i]? = some x->vs[i]? = some v->kindOf x≠some .local ->
 bindC kindOf (P.zip vs) m x=some v
 | [],_,_,_,_,h,_,_=>by simp at h
 | _::_,[],_,_,_,_,h,_=>by simp at h
 | p::P,w::vs,0,m,nd,h1,h2,hk=>by
   simp at h1 h2;subst h1;subst h2;show bindC kindOf ((p,w)::P.zip vs) m p=_;unfold bindC;rw [wG fun v hv=>(List.nodup_cons.mp nd).1 (List.of_mem_zip hv).1,if_neg hk];simp
 | p::P,w::vs,i+1,m,nd,h1,h2,hk=>by
   show bindC kindOf ((p,w)::P.zip vs) m x=_;unfold bindC;exact wH (i:=i) (List.nodup_cons.mp nd).2 (by simpa using h1) (by simpa using h2) hk
def start (N:List Str) (vs:List V):St:=vs.map some++List.replicate (N.length - vs.length) none
def mz (CX:Ht) (P:Program) (w:World) (K:PySem.W.Frag) (mg:Str->Option Value) (base:Heap) (N:List Str) (qual:Str) (scope:Scope) (f:Addr) (cd:Value) (A:Around) (outer:List Env) (s:Shared) (H:Hp) (E:XK):Cx where
 prog:=P
 w:=w
 K:=K
 mg:=mg
 base:=base
 A:=A.deeper (envOfC qual scope s.heap.objs.size f cd)
 N:=N
 s₀:=s
 H₀:=H
 env:=envOfC qual scope s.heap.objs.size f cd
 outer:=outer
 stack:=envOfC qual scope s.heap.objs.size f cd::outer
 ex:=[]
 calm:=true
 fn:=fun _=>true
 pn:=[]
 xe:=fun e s'=>wpAny (model P w) (A.deeper (envOfC qual scope s.heap.objs.size f cd)) (leaving (envOfC qual scope s.heap.objs.size f cd) e) (fun _ s''=>CX outer H s E e s'') (fun e' s''=>CX outer H s E e' s'') s'
theorem Am {sc:Scope} {n:Nat} {x:Str} (h:sc.names.lookup x=some .cell):∃c,(cellsFrom n sc.names []).lookup x=some c:=by
 have q:=PySem.W.cellsFrom_some sc.names n [] (.inl h);exact Option.isSome_iff_exists.mp q
theorem Gs {CX:Ht} {P:Program} {w:World} {K:PySem.W.Frag} {mg:Str->Option Value} {base:Heap} {N ps:List Str} {qual:Str} {scope:Scope} {f:Addr} {cd:Value} {A:Around} {outer:List Env} {s s1:Shared} {H:Hp} {E:XK} {us:List Value} {vs:List V}
 (S:bA N ps scope) (hd:A.handled=none) (e0:vH P w K mg base A outer s H) (hl:vs.length=ps.length) (r:Vals vs us)
 (x:InCallC s s.heap.objs.size (bindL (envOfC qual scope s.heap.objs.size f cd).kindOf (ps.zip us) fun _=>none) (cellsFrom (s.heap.objs.size+1) scope.names []) (bindC (envOfC qual scope s.heap.objs.size f cd).kindOf (ps.zip us) fun _=>none) s1):
 Inv (mz CX P w K mg base N qual scope f cd A outer s H E) [] (start N vs) H s1:=by
 have hpl:ps.length<=N.length:=by have:=congrArg List.length S.pre;rw [List.length_take] at this;omega
 obtain ⟨h1,tk,rfl,hk⟩:=x.done;have Wa:∀b:Addr,b∉(mz CX P w K mg base N qual scope f cd A outer s H E).ex:=fun b z=>absurd (show b∈([]:List Addr) from z) (by simp)
 refine ⟨⟨e0.mod,S.kind,rfl,rfl,Nat.le_refl _,fun y z c h1 h2=> ?_,fun y hy=> ?_,fun y c _ h=> ?_,fun _=>hd,Around.frames_deeper e0.frames,.inr ⟨rfl,rfl⟩,fun b z=>absurd z (Wa b),e0.bs,e0.CP,fun b _ _=>Wa b,fun b z=>absurd z (Wa b),e0.mj,e0.Hr⟩,
  rfl,e0.bare,Un.kept hk,⟨_,x.toInCall.ns,fun i y v h1 h2 h3=> ?_⟩,fun y c h=>⟨_,x.cell y c h⟩,e0.hok.fresh (Nat.le_refl _),fun y c h=> ?_,fun p hp=>absurd (show p∈([]:List (Addr×Obj)) from hp) (by simp),e0.hok.kept hk, ?_⟩
 ·exact name_of_addr x.apart (PySem.mem_of_lookup h1) (PySem.mem_of_lookup h2)
 ·have hy:scope.names.lookup y=some .cell\/scope.names.lookup y=some .free:=hy
  rcases hy with hy|hy
  ·exact Am hy
  ·exact absurd rfl (S.RD _ (PySem.mem_of_lookup hy))
 ·exact Nat.le_of_lt (x.above y c (PySem.mem_of_lookup h))
 ·have hi:i<vs.length:=by
   unfold start at h2
   by_cases hi:i<vs.length
   ·exact hi
   ·rw [List.getElem?_append_right (by simpa using hi)] at h2
    rw [List.getElem?_replicate] at h2;split at h2<;>cases h2
  have ha:vs[i]? = some v:=by
   unfold start at h2;rw [List.getElem?_append_left (by simpa using hi),List.getElem?_map] at h2;cases e:vs[i]? with
   | none=>rw [e] at h2;cases h2
   | some a=>rw [e] at h2;cases h2;rfl
  obtain ⟨u,hu,rv⟩:=r.get ha
  have hp:ps[i]? = some y:=by
   rw [←S.pre,List.getElem?_take_of_lt (by omega)];exact h1
  have ndP:ps.Nodup:=by rw [←S.pre];exact S.nd.sublist (List.take_sublist _ _)
  refine ⟨u,rv, ?_⟩;rcases S.par y (List.mem_of_getElem? hp) with k|k
  ·exact .inl ⟨k,wD ndP hp hu k⟩
  ·obtain ⟨c,e⟩:=Am (n:=s.heap.objs.size+1) k
   refine .inr ⟨.inl k,c,e, ?_⟩;have q:=x.cell y c e;rw [wH ndP hp hu (by show scope.names.lookup y≠_;rw [k];decide)] at q;exact q
 ·exact e0.hok.fresh (Nat.le_of_lt (x.above y c (PySem.mem_of_lookup h)))
 ·unfold start
  show _=N.length;rw [List.length_append,List.length_map,List.length_replicate];omega
theorem JT {CX:Ht} {P:Program} {w:World} {K:PySem.W.Frag} {mg:Str->Option Value} {base:Heap} {k:Nat} {f:Addr} {name qual:Str} {params:Arguments} {body:List Stmt} {scope:Scope} {dV kV doc pm cdv ct oc:Value} {an od:Option Addr}
 {osl:Array (Option Value)} {N ps:List Str} {sp:Sp} (lk:K.lookup f=some ⟨oc,od,.func (PySem.W.fnOf name qual params body scope dV kV doc pm an cdv ct),osl⟩) (hcd:PySem.W.codeIn K cdv qual=true) (S:bA N ps scope)
 (len:∀vs H Q E,sp vs H Q E->vs.length=ps.length)
 (hbody:∀(A:Around) (outer:List Env) (s:Shared) (H:Hp) (vs:List V) (Q:VK) (E:XK),dN k (A.deeper (envOfC qual scope s.heap.objs.size f cdv))->sp vs H Q E ->
   ∃t,Ay (mz CX P w K mg base N qual scope f cdv A outer s H E) body t/\t {nx:=fun _ H'=>Q .non H',rt:=Q} (start N vs) H):
 bU P w K mg base CX (k+1) f (PySem.W.fnOf name qual params body scope dV kV doc pm an cdv ct) ps sp:=by
 refine ⟨len,fun A outer s H args us vs Q E hr e0 hb r hsp=> ?_⟩;have hl:=len _ _ _ _ hsp;have KX:K.In s.heap:=e0.mod.Ho.keeps fun b o e=>(e0.bs b o e).1;have lim:s.heap.NoLimit:=e0.mod.nolimit.keeps fun b o e=>(e0.bs b o e).1
 have hkind:∀y∈ps.zip us,scope.names.lookup y.1=some .local\/(scope.names.lookup y.1=some .cell/\((cellsFrom (s.heap.objs.size+1) scope.names []).lookup y.1).isSome=true):=fun ⟨n,v⟩ hy=>by
  rcases S.par n (List.of_mem_zip hy).1 with q|q
  ·exact .inl q
  ·exact .inr ⟨q,PySem.W.cellsFrom_some _ _ _ (.inl q)⟩
 refine codeAny_call_function hr.depth (KX _ _ lk) rfl S.co S.gen rfl (PySem.W.codeRec_of KX hcd) (hb _ _ _ _ ?_);refine wpAny_newFunctionEnv_cells S.kind hkind fun env he s1 x=> ?_;subst he;refine ⟨lim.keeps x.toInCall.keep,codeAny_func ?_⟩;obtain ⟨t,ht,hq⟩:=hbody A outer s H vs Q E (hr.deeper _) hsp;have I:Inv (mz CX P w K mg base N qual scope f cdv A outer s H E) [] (start N vs) H s1:=Gs S hr.hd e0 hl r x;refine wpAny_mono (ht [] s1 (start N vs) H _ I hq) (fun fl s' hs=> ?_) fun e s' hs=>hs
 have fin:∀{σ':St} {H':Hp} {v:V} {u:Value},Inv (mz CX P w K mg base N qual scope f cdv A outer s H E) [] σ' H' s'->RelV v u->Q v H'->CE outer P w H s Q u s':=
  fun {σ' H' v u} J rv q=>⟨v,H',J.os,J.bare,J.base,J.hok,rv,q⟩
 cases fl with
 | ret u=>
   obtain ⟨v,σ',H',J,rv,q⟩:=hs;exact fin J rv q
 | next=>
   obtain ⟨σ',H',J,q⟩:=hs;exact fin (v:=V.non) (u:=Value.none) J rfl q
 | brk=>
   obtain ⟨_,_,_,q⟩:=hs;exact False.elim q
 | cont=>
   obtain ⟨_,_,_,q⟩:=hs;exact False.elim q
end L2
namespace L2
open PySem PySem.Spec PyProof.Rows
section
variable {X:Cx} {x:Str} {p pos:Pos} {e:Expr} {es:List Expr} {t:TA} {id T:String} {r:List V->Hp->VK->Prop}
def X6 (r:List V->Hp->VK->Prop) (t:TA):TE:=fun σ H Q=>t σ H fun vs H1=>r vs H1 Q
theorem bf (hc:iZ X (.builtin id) r) (hg:Gl X x) (hm:X.mg x=none) (hv:bootBuiltins x=some (.builtin id)) (ha:PA X (e::es) t) (hn:x ≠ "__name__" :=by decide) (hdb:(x==("__debug__" :Str))=false:=by decide)
 (he:starEach (e::es) X.env=(false,eval e X.env)::starEach es X.env:=by rfl) (hpl:(backTo pos (starEach es X.env)).any (·.1)=false:=by rfl):PE X (.Call (.Name x p) (e::es) [] pos) (X6 r t):=by
 intro pins s σ H Q I h;refine wpAny_Call_Name_kw (qP I hg hm hv ?_ hn hdb);exact PyProof.Rows.callWith_builtin1 (dH (ha pos pins s σ H _ I h) fun us s1 ⟨vs,H1,I1,r1,q1⟩=>hc pins s1 σ H1 vs us Q I1 r1 q1) he hpl
theorem bT (hc:iZ X (.type T) r) (hg:Gl X x) (hm:X.mg x=none) (hv:bootBuiltins x=some (.type T)) (ha:PA X (e::es) t) (hn:x ≠ "__name__" :=by decide) (hdb:(x==("__debug__" :Str))=false:=by decide)
 (he:starEach (e::es) X.env=(false,eval e X.env)::starEach es X.env:=by rfl) (hpl:(backTo pos (starEach es X.env)).any (·.1)=false:=by rfl):PE X (.Call (.Name x p) (e::es) [] pos) (X6 r t):=by
 intro pins s σ H Q I h;refine wpAny_Call_Name_kw (qP I hg hm hv ?_ hn hdb);exact PyProof.Rows.callWith_type1 (dH (ha pos pins s σ H _ I h) fun us s1 ⟨vs,H1,I1,r1,q1⟩=>hc pins s1 σ H1 vs us Q I1 r1 q1) he hpl
end
end L2
namespace HT
open PySem PyProof.Rows
section
open PySem.SeqAt
open PySem.AutoSeq1 (wpAny_loadPart')
open PySem.MeetsSeq PySem.MeetsSeq2 PySem.MeetsSeq3
end
section
variable {prog:Program} {w:World} {A:Around} {E:Value->Shared->Prop} {s:Shared}
def zO (n d:Nat):Option Int->Nat
 | none=>d
 | some v=>if v<0 then (v+(n:Int)).toNat else min v.toNat n
theorem zN (n d:Nat):zO n d none=d:=rfl
theorem Dw (n d k:Nat):zO n d (some (k:Int))=min k n:=by
 show (if (k:Int)<0 then ((k:Int)+(n:Int)).toNat else min (k:Int).toNat n)=min k n;rw [if_neg (by omega),Int.toNat_natCast]
end
end HT
namespace L2
open PySem PySem.Spec PyProof.Rows
abbrev TO:=St->Hp->(Option Int->Hp->Prop)->Prop
def PO (X:Cx) (e:Option Expr) (t:TO):Prop:=
 ∀(pins:List (Addr×Obj)) (s:Shared) (σ:St) (H:Hp) (Q:Option Int->Hp->Prop),Inv X pins σ H s->t σ H Q ->
  wpAny (model X.prog X.w) X.A (evalPart e X.env) (fun u s'=>∃o H',Inv X pins σ H' s'/\IsPart u o/\Q o H') X.xe s
def Lf:TO:=fun _ H Q=>Q none H
def Vm (t:TE):TO:=fun σ H Q=>t σ H fun x H1=>∃i,x = .int i/\Q (some i) H1
section
variable {X:Cx} {e:Expr} {te:TE} {lo hi:Option Expr} {tl th:TO} {pos p2:Pos}
theorem nH:PO X none Lf:=by
 intro pins s σ H Q I h;rw [evalPart_none];exact wpAny_pure ⟨none,H,I,.none,h⟩
theorem nG (h:PE X e te):PO X (some e) (Vm te):=by
 intro pins s σ H Q I hw;rw [evalPart_some];refine dH (h pins s σ H _ I hw) fun u s1 ⟨x,H1,I1,r1,q1⟩=> ?_;obtain ⟨i,rfl,q⟩:=q1;obtain ⟨t,rfl⟩:=r1;exact ⟨some i,H1,I1,.int i t,q⟩
def SlR (X:Cx) (r:V->Option Int->Option Int->Hp->VK->Prop):Prop:=
 ∀(pins:List (Addr×Obj)) (s:Shared) (σ:St) (H:Hp) (x:V) (v vl vu:Value) (lo hi:Option Int) (sl:Addr) (Q:VK),Inv X pins σ H s->RelV x v->s.heap.IsSliceOf sl vl vu .none->IsPart vl lo->IsPart vu hi->r x lo hi H Q ->
  ∃T id,typeLookup (.type T) "__getitem__" = pure (some (.builtin id))/\s.TypeIs v T/\wpAny (model X.prog X.w) X.A (getItem v (.ref sl)) (EP X pins σ Q) X.xe s
def tSl (r:V->Option Int->Option Int->Hp->VK->Prop) (te:TE) (tl th:TO):TE:=fun σ H Q=>te σ H fun x H1=>tl σ H1 fun l H2=>th σ H2 fun u H3=>r x l u H3 Q
theorem jX {r:V->Option Int->Option Int->Hp->VK->Prop} (hr:SlR X r) (he:PE X e te) (hl:PO X lo tl) (hu:PO X hi th):PE X (.Subscript e (.Slice lo hi none p2) pos) (tSl r te tl th):=by
 intro pins s σ H Q I h;refine Subscript_ (dH (he pins s σ H _ I h) fun v s1 ⟨x,H1,I1,r1,q1⟩=> ?_);refine wpAny_Slice (dH (hl pins s1 σ H1 _ I1 q1) fun vl s2 ⟨l,H2,I2,pl,q2⟩=>dH (hu pins s2 σ H2 _ I2 q2) fun vu s3 ⟨u,H3,I3,pu,q3⟩=> ?_);rw [evalPart_none];refine wpAny_pure ?_;have I4:Inv X pins σ H3 {s3 with heap:=s3.heap.push {cls:= .type "slice",data:= .fields #[vl,vu,.none]}}:=I3.kept (t':=s3.toks) fun b ob q=>Heap.get?_push_of_some _ q;obtain ⟨T,id,hT,ht,hg⟩:=hr pins {s3 with heap:=s3.heap.push {cls:= .type "slice",data:= .fields #[vl,vu,.none]}} σ H3 x v vl vu l u s3.heap.objs.size Q I4 r1 (Heap.IsSliceOf.new ..) pl pu q3;show wpAny (model X.prog X.w) X.A (subscriptTail e (.Slice lo hi none p2) v (.ref s3.heap.objs.size)) (EP X pins σ Q) X.xe {s3 with heap:=s3.heap.push {cls:= .type "slice",data:= .fields #[vl,vu,.none]}};exact tail_any (ops:=[.ref s3.heap.objs.size,v]) ht hT hg (by with_unfolding_all rfl)
def uP (xs:List V) (lo hi:Option Int):List V:=(xs.drop (HT.zO xs.length 0 lo)).take (HT.zO xs.length xs.length hi - HT.zO xs.length 0 lo)
theorem Aj (xs:List V) (lo hi:Option Int):(uP xs lo hi).length<=xs.length:=by
 unfold uP;rw [List.length_take,List.length_drop];omega
end
end L2
namespace L2
open PySem PySem.Spec PyProof.Rows
def Cr (n:Nat) (i:Int):Option Nat:=if 0<=i then (if i<n then some i.toNat else none) else if -(n:Int)<=i then some (i+n).toNat else none
def qm {α:Type} (xs:List α) (i:Int):Option α:=(Cr xs.length i).bind fun j=>xs[j]?
theorem Eh {n:Nat} {i:Int} {j:Nat} (h:Cr n i=some j):seqIndex? i n=some j/\j<n /\ -(n:Int)<=i/\i<n:=by
 unfold Cr at h
 by_cases h0:0<=i
 ·rw [if_pos h0] at h
  by_cases h1:i<n
  ·rw [if_pos h1] at h
   have e:i.toNat=j:=Option.some.inj h;exact ⟨by rw [seqIndex_of h0 h1,e],by omega,by omega,h1⟩
  ·rw [if_neg h1] at h;cases h
 ·rw [if_neg h0] at h
  by_cases h1: -(n:Int)<=i
  ·rw [if_pos h1] at h
   have e:(i+n).toNat=j:=Option.some.inj h;exact ⟨by rw [seqIndex_neg (by omega) h1,e],by omega,h1,by omega⟩
  ·rw [if_neg h1] at h;cases h
theorem yR {α:Type} {xs:List α} {i:Int} {v:α} (h:qm xs i=some v):∃j,seqIndex? i xs.length=some j/\xs[j]? = some v/\j<xs.length /\ -(xs.length:Int)<=i/\i<xs.length:=by
 unfold qm at h;cases e:Cr xs.length i with
 | none=>rw [e] at h;cases h
 | some j=>
   rw [e] at h;obtain ⟨h1,h2,h3,h4⟩:=Eh e;exact ⟨j,h1,h,h2,h3,h4⟩
theorem bW {α:Type} {xs:List α} {j:Nat} {v:α} (h:xs[j]? = some v):qm xs (j:Int)=some v:=by
 have hj:j<xs.length:=(List.getElem?_eq_some_iff.mp h).1
 have e:Cr xs.length (j:Int)=some j:=by
  unfold Cr;rw [if_pos (by omega),if_pos (by omega)];simp
 unfold qm;rw [e];exact h
def Ov (b:Expr):Prop:=∀o i,subscripted b false o i=operate [o,i] (getItem o i)
def U_ (X:Cx) (r:R2):Prop:=
 ∀(value slice:Expr) (pins:List (Addr×Obj)) (s:Shared) (σ:St) (H:Hp) (x y:V) (v u:Value) (Q:VK),Inv X pins σ H s->RelV x v->RelV y u->r x y H Q ->
  subscripted slice false v u=operate [v,u] (getItem v u)->wpAny (model X.prog X.w) X.A (subscriptTail value slice v u) (EP X pins σ Q) X.xe s
def TX (X:Cx) (id:String) (r:V->List V->Hp->VK->Prop):Prop:=
 ∀(pins:List (Addr×Obj)) (s:Shared) (σ:St) (H:Hp) (x:V) (xs:List V) (v:Value) (us:List Value) (Q:VK),Inv X pins σ H s->RelV x v->Vals xs us->r x xs H Q ->
  wpAny (model X.prog X.w) X.A (call (.builtin id) (v::us)) (EP X pins σ Q) X.xe s
section
variable {X:Cx} {a b:Expr} {ta tb:TE} {pos:Pos}
theorem aJ {r:R2} (hr:U_ X r) (ha:PE X a ta) (hb:PE X b tb) (hs:Ov b):PE X (.Subscript a b pos) (Bl r ta tb):=by
 intro pins s σ H Q I h;exact Subscript_ (Tt ha hb I h fun v u s2 x y H2 I2 rx ry q=>hr a b pins s2 σ H2 x y v u Q I2 rx ry q (hs _ _))
def BP (K:PySem.W.Frag):R2:=fun x y H Q=>∃p xs i v,x = .ref p/\y = .int i/\aY K H p xs/\qm xs i=some v/\Q v H
def Ir (K:PySem.W.Frag):R2:=fun x y H Q=>∃p xs i v,x = .ref p/\y = .int i/\cu K H p xs/\qm xs i=some v/\Q v H
def ZF:R2:=fun x y H Q=>∃z i c,x = .str z/\y = .int i/\z.length<=sizeLine/\qm z.cps.toList i=some c/\Q (.str ⟨#[c]⟩) H
theorem Nh:U_ X (BP X.K):=by
 intro value slice pins s σ H x y v u Q I rx ry h hs;obtain ⟨p,xs,i,z,rfl,rfl,hq,he,q⟩:=h;cases rx;obtain ⟨t,rfl⟩:=ry;obtain ⟨its,r,pl,hz⟩:=I.list hq;obtain ⟨j,h1,h2,h3,h4,h5⟩:=yR he;obtain ⟨w,ew,rw'⟩:=r.get h2;have hl:=r.length;have hn:=qO;have fin:EP X pins σ Q w s:=⟨z,H,I,rw',q⟩
 by_cases h0:0<=i
 ·have hj:i.toNat=j:=by
   rw [seqIndex_of h0 h5] at h1;exact Option.some.inj h1
  exact item_listR pl.isList h0 (by omega) (by rw [hj];simpa using ew) fin hs
 ·have hj:(i+(its.toArray.size:Int)).toNat=j:=by
   rw [seqIndex_neg (by omega) h4] at h1;rw [List.size_toArray,←hl];exact Option.some.inj h1
  exact subscriptTail_builtinR (x:=w) pl.isList.typeIs slot_list_getitem.lookup
   (wpAny_getItem_list_neg (Q:=fun r s'=>r=w/\EP X pins σ Q r s') pl.isList (by omega) (by rw [List.size_toArray]<;>omega) (by omega) (by rw [hj];simpa using ew) ⟨rfl,fin⟩) hs
theorem RZ:U_ X (Ir X.K):=by
 intro value slice pins s σ H x y v u Q I rx ry h hs;obtain ⟨p,xs,i,z,rfl,rfl,hq,he,q⟩:=h;cases rx;obtain ⟨t,rfl⟩:=ry;obtain ⟨its,r,pl,hz⟩:=I.tuple hq;obtain ⟨j,h1,h2,h3,h4,h5⟩:=yR he;obtain ⟨w,ew,rw'⟩:=r.get h2;have hl:=r.length;have hn:=qO;have fin:EP X pins σ Q w s:=⟨z,H,I,rw',q⟩
 exact subscriptTail_builtinR (x:=w) pl.typeIs slot_tuple_getitem.lookup
  (getItem_tuple (j:=j) (Q:=fun r s'=>r=w/\EP X pins σ Q r s') pl (by omega) (by omega) (by rw [List.size_toArray,←hl];exact h1) (by simpa using ew) ⟨rfl,fin⟩) hs
theorem Cq:U_ X ZF:=by
 intro value slice pins s σ H x y v u Q I rx ry h hs;obtain ⟨z,i,c,rfl,rfl,hz,he,q⟩:=h;obtain ⟨t,rfl⟩:=rx;obtain ⟨t',rfl⟩:=ry;obtain ⟨j,h1,h2,h3,h4,h5⟩:=yR he;have hl:z.cps.toList.length=z.length:=by simp [Str.length]
 rw [hl] at h1 h4 h5;have hn:=qO
 exact tail_any (typeIs_str s z t) slot_str_getitem.lookup (getItem_str (c:=c) (by
  have e1:decide (i < -(2 ^ 63:Int))=false:=decide_eq_false (by omega);have e2:decide (i≥2 ^ 63)=false:=decide_eq_false (by omega);rw [e1,e2,Bool.or_false]) (by rw [h1];simpa using h2) ⟨.str ⟨#[c]⟩,H,I.tok _,⟨_,rfl⟩,q⟩) hs
theorem Cg (its:List Value) (n j:Nat) (u:Value):Obj.mapSeq (·.setIfInBounds j u) {cls:= .type "list",data:= .seq its.toArray n}={cls:= .type "list",data:= .seq (its.set j u).toArray n}:=by
 simp [Obj.mapSeq]
theorem Inv.lst {pins:List (Addr×Obj)} {σ:St} {H:Hp} {s:Shared} {p:Addr} {xs:List V} (I:Inv X pins σ H s) (h:H p=some (.lst xs)):
 ∃(its:List Value) (n:Nat),Vals xs its/\s.heap.get? p=some {cls:= .type "list",data:= .seq its.toArray n}/\xs.length<=sizeLine:=by
 obtain ⟨z,its,n,r,e⟩:=I.hok p _ h;exact ⟨its,n,r,e,z⟩
theorem Inv.RM {pins:List (Addr×Obj)} {σ:St} {H:Hp} {s:Shared} {p:Addr} {xs ys:List V} {its its':List Value} {n n':Nat} {f:Obj->Obj} (I:Inv X pins σ H s) (h:H p=some (.lst xs))
 (ho:s.heap.get? p=some {cls:= .type "list",data:= .seq its.toArray n}) (hf:f {cls:= .type "list",data:= .seq its.toArray n}={cls:= .type "list",data:= .seq its'.toArray n'}) (r:Vals ys its') (hz:ys.length<=sizeLine) (t:Nat):
 Inv X pins σ (upd H p (.lst ys)) {s with heap:=s.heap.update p f,toks:=t}:=by
 have e:(s.heap.update p f).get? p=some {cls:= .type "list",data:= .seq its'.toArray n'}:=by
  rw [Heap.get?_update_self f ho (by rw [hf]<;>rfl),hf]
 refine I.write (x:=p) (e:=p) (by rw [h];trivial) (.inl rfl) (fun b u hb q=>(Heap.get?_update_other _ _ (Ne.symm hb)).trans q) ⟨_,e⟩ ?_;exact ⟨hz,its',n',r,e⟩
def Ip:V->V->V->Hp->(Hp->Prop)->Prop:=fun o i v H Q=>∃p xs k j,o = .ref p/\i = .int k/\H p=some (.lst xs)/\Cr xs.length k=some j/\Q (upd H p (.lst (xs.set j v)))
theorem set_list:Xx X Ip:=by
 intro pins s σ H o i v ov iv u Q I ro ri rv h;obtain ⟨p,xs,k,j,rfl,rfl,hp,hj,q⟩:=h;cases ro;obtain ⟨t,rfl⟩:=ri;obtain ⟨its,n,r,ho,hz⟩:=I.lst hp;obtain ⟨h1,h2,h3,h4⟩:=Eh hj;have hl:=r.length;have hn:=qO
 have I':Inv X pins σ (upd H p (.lst (xs.set j v))) {s with heap:=s.heap.update p (Obj.mapSeq (·.setIfInBounds j u))}:=
  I.RM hp ho (Cg its n j u) (r.set rv j) (by rw [List.length_set];exact hz) s.toks
 by_cases h0:0<=k
 ·have hk:k.toNat=j:=by
   rw [seqIndex_of h0 h4] at h1;exact Option.some.inj h1
  exact PySem.W.ki_setAt ho h0 (by omega) (by rw [List.size_toArray,←hl];exact h4) (by rw [hk];exact ⟨_,I',q⟩)
 ·have hk:(k+(its.toArray.size:Int)).toNat=j:=by
   rw [seqIndex_neg (by omega) h3] at h1;rw [List.size_toArray,←hl];exact Option.some.inj h1
  exact PySem.W.ki_setBack ho (by omega) (by rw [List.size_toArray,←hl];exact h3) (by omega) (by rw [hk];exact ⟨_,I',q⟩)
theorem wX (lo hi:Option Int) (n:Nat):(sliceBounds lo hi none n).1=((HT.zO n 0 lo:Nat):Int)/\(sliceBounds lo hi none n).2.1=((HT.zO n n hi:Nat):Int)/\(sliceBounds lo hi none n).2.2=1:=by
 refine ⟨?_, ?_,rfl⟩
 ·cases lo with
  | none=>simp [sliceBounds,HT.zO]
  | some i=>
    simp only [sliceBounds,HT.zO,Option.getD_none,show (1:Int)>0 by decide,if_true]
    by_cases h:i<0
    ·simp only [h,if_true]<;>omega
    ·simp only [h,if_false]<;>omega
 ·cases hi with
  | none=>simp [sliceBounds,HT.zO]
  | some i=>
    simp only [sliceBounds,HT.zO,Option.getD_none,show (1:Int)>0 by decide,if_true]
    by_cases h:i<0
    ·simp only [h,if_true]<;>omega
    ·simp only [h,if_false]<;>omega
theorem vo (its:List Value) (lo hi:Option Int):slicePick its.toArray lo hi none=((its.drop (HT.zO its.length 0 lo)).take (HT.zO its.length its.length hi - HT.zO its.length 0 lo)).toArray:=by
 obtain ⟨h1,h2,h3⟩:=wX lo hi its.toArray.size;unfold slicePick;rw [h1,h2,h3];simp only [sliceRange_one,pick_run,List.size_toArray]<;>rfl
def VH (K:PySem.W.Frag):V->Option Int->Option Int->Hp->VK->Prop:=fun x lo hi H Q=>∃a xs,x = .ref a/\aY K H a xs /\ ∀p,H p=none->Q (.ref p) (upd H p (.lst (uP xs lo hi)))
theorem Lj:SlR X (VH X.K):=by
 intro pins s σ H x v vl vu lo hi sl Q I rx hs pl pu h;obtain ⟨a,xs,rfl,hx,q⟩:=h;cases rx;obtain ⟨its,r,ht,hz⟩:=I.list hx;have hlen:=r.length;refine ⟨"list",_,slot_list_getitem.lookup,ht.isList.typeIs, ?_⟩;refine wpAny_getItem_list_slice ht.isList hs pl pu .none (by simp) ?_ (by rw [List.size_toArray]<;>omega);rw [vo,←hlen];refine ⟨.ref s.heap.objs.size,_,I.laid (t':=s.toks) (o:= .lst (uP xs lo hi)) (fun b ob q=>Heap.get?_push_of_some _ q) (Nat.le_refl _) ?_,rfl,q _ (I.hok.fresh (Nat.le_refl _))⟩;exact ⟨Nat.le_trans (Aj xs lo hi) hz,_,0,(r.drop (HT.zO xs.length 0 lo)).take (HT.zO xs.length xs.length hi - HT.zO xs.length 0 lo),Heap.get?_push_size _ rfl⟩
def rF:V->Bool
 | .non=>true
 | .bl _=>true
 | .int _=>true
 | .str _=>true
 | _=>false
def N8:V->V->Bool
 | .non,.non=>true
 | .bl a,.bl b=>a==b
 | .bl a,.int b=>(if a then 1 else 0)==b
 | .int a,.bl b=>a==(if b then 1 else 0)
 | .int a,.int b=>a==b
 | .str a,.str b=>a==b
 | _,_=>false
theorem S_ {A:Around} {s:Shared} {y x:V} {u v:Value} (ry:RelV y u) (rx:RelV x v) (fy:rF y=true) (fx:rF x=true):SeqAt.EqAt A s u v (N8 y x):=by
 cases y with
 | non=>
   cases ry;cases x with
   | non=>cases rx;exact SeqAt.EqAt.same _
   | bl b=>cases rx;exact SeqAt.EqAt.none_bool b
   | int b=>obtain ⟨t,rfl⟩:=rx;exact SeqAt.EqAt.none_int b t
   | str b=>obtain ⟨t,rfl⟩:=rx;exact SeqAt.EqAt.none_str b t
   | _=>exact absurd (show false=true from fx) Bool.false_ne_true
 | bl a=>
   cases ry;cases x with
   | non=>cases rx;exact SeqAt.EqAt.bool_none a
   | bl b=>cases rx;exact SeqAt.EqAt.bool_bool a b
   | int b=>obtain ⟨t,rfl⟩:=rx;exact SeqAt.EqAt.bool_int a b t
   | str b=>obtain ⟨t,rfl⟩:=rx;exact SeqAt.EqAt.bool_str a b t
   | _=>exact absurd (show false=true from fx) Bool.false_ne_true
 | int a=>
   obtain ⟨t',rfl⟩:=ry;cases x with
   | non=>cases rx;exact SeqAt.EqAt.int_none a t'
   | bl b=>cases rx;exact SeqAt.EqAt.int_bool a t' b
   | int b=>obtain ⟨t,rfl⟩:=rx;exact SeqAt.EqAt.int_int a t' b t
   | str b=>obtain ⟨t,rfl⟩:=rx;exact SeqAt.EqAt.int_str a t' b t
   | _=>exact absurd (show false=true from fx) Bool.false_ne_true
 | str a=>
   obtain ⟨t',rfl⟩:=ry;cases x with
   | non=>cases rx;exact SeqAt.EqAt.str_none a t'
   | bl b=>cases rx;exact SeqAt.EqAt.str_bool a t' b
   | int b=>obtain ⟨t,rfl⟩:=rx;exact SeqAt.EqAt.str_int a t' b t
   | str b=>obtain ⟨t,rfl⟩:=rx;exact SeqAt.EqAt.str_str a t' b t
   | _=>exact absurd (show false=true from fx) Bool.false_ne_true
 | _=>exact absurd (show false=true from fy) Bool.false_ne_true
def N_ (x:V) (u:Value):Bool:=match u with
 | .none=>N8 .non x
 | .bool b=>N8 (.bl b) x
 | .int i _=>N8 (.int i) x
 | .str z _=>N8 (.str z) x
 | _=>false
theorem J1 {x y:V} {u:Value} (r:RelV y u) (f:rF y=true):N_ x u=N8 y x:=by
 cases y with
 | non=>cases r;rfl
 | bl b=>cases r;rfl
 | int i=>obtain ⟨t,rfl⟩:=r;rfl
 | str z=>obtain ⟨t,rfl⟩:=r;rfl
 | _=>exact absurd (show false=true from f) Bool.false_ne_true
theorem yS {x:V}:∀{xs:List V} {us:List Value},Vals xs us->xs.all rF=true->us.any (N_ x)=xs.any fun y=>N8 y x
 | _,_,.nil,_=>rfl
 | y::xs,u::us,.cons r t,f=>by
   rw [List.all_cons,Bool.and_eq_true] at f;rw [List.any_cons,List.any_cons,J1 r f.1,yS t f.2]
theorem uF {A:Around} {s:Shared} {x:V} {v:Value} (rx:RelV x v) (fx:rF x=true):∀{xs:List V} {us:List Value},Vals xs us->xs.all rF=true -> ∀u∈us,SeqAt.EqAt A s u v (N_ x u)
 | _,_,.nil,_=>fun u hu=>by cases hu
 | y::xs,u::us,.cons r t,f=>fun u' hu=>by
   rw [List.all_cons,Bool.and_eq_true] at f;rcases List.mem_cons.mp hu with rfl|hu
   ·rw [J1 r f.1];exact S_ r rx f.1 fx
   ·exact uF rx fx t f.2 u' hu
def inV (x:V) (xs:List V):Bool:=xs.any fun y=>N8 y x
def ZJ (K:PySem.W.Frag) (neg:Bool):R2:=fun x y H Q=>∃p xs,y = .ref p/\(aY K H p xs\/cu K H p xs)/\rF x=true/\xs.all rF=true/\Q (.bl (if neg then !inV x xs else inV x xs)) H
theorem FZ:nU X (compareOp .In) (ZJ X.K false):=by
 intro pins s σ H x y v u Q I rx ry h;obtain ⟨p,xs,rfl,hq,fx,fs,q⟩:=h;cases ry;rcases hq with hq|hq
 ·obtain ⟨its,r,pl,hz⟩:=I.list hq
  refine SeqAt.in_listAt (N_ x) pl.isList (fun w hw=>uF rx fx r fs w (by simpa using hw)) ⟨.bl _,H,I,rfl, ?_⟩;rw [show its.toArray.any (N_ x)=its.any (N_ x) by simp,yS r fs];exact q
 ·obtain ⟨its,r,pl,hz⟩:=I.tuple hq
  refine SeqAt.in_tupleAt (N_ x) pl (fun w hw=>uF rx fx r fs w (by simpa using hw)) ⟨.bl _,H,I,rfl, ?_⟩;rw [show its.toArray.any (N_ x)=its.any (N_ x) by simp,yS r fs];exact q
theorem yN:iZ X (.builtin "len") (fun xs H Q=>∃p ys,xs=[.ref p]/\(aY X.K H p ys\/cu X.K H p ys)/\Q (.int ys.length) H):=by
 intro pins s σ H xs us Q I r h;obtain ⟨p,ys,rfl,hq,q⟩:=h;obtain ⟨u,rfl,rx⟩:=vals1 r;cases rx;have hn:=qO;rcases hq with hq|hq
 ·obtain ⟨its,r',pl,hz⟩:=I.list hq
  have hlen:=r'.length;exact Calls.call_len_list pl.isList (by simp only [List.size_toArray]<;>omega) ⟨.int ys.length,H,I.tok _,⟨s.toks+1,by rw [List.size_toArray,hlen]⟩,q⟩
 ·obtain ⟨its,r',pl,hz⟩:=I.tuple hq
  have hlen:=r'.length;exact len_tuple pl (by simp only [List.size_toArray]<;>omega) ⟨.int ys.length,H,I.tok _,⟨s.toks+1,by rw [List.size_toArray,hlen]⟩,q⟩
theorem yM:iZ X (.type "list") (fun xs H Q=>∃p ys,xs=[.ref p]/\(aY X.K H p ys\/cu X.K H p ys) /\ ∀l,H l=none->Q (.ref l) (upd H l (.lst ys))):=by
 intro pins s σ H xs us Q I r h;obtain ⟨p,ys,rfl,hq,q⟩:=h;obtain ⟨u,rfl,rx⟩:=vals1 r;cases rx
 have fin:∀(its:List Value),Vals ys its->ys.length<=sizeLine -> ∀(h':Heap) (c':Nat),(∀b o',s.heap.get? b=some o'->h'.get? b=some o') ->
  h'.get? s.heap.objs.size=some {cls:= .type "list",dict:=none,data:= .seq its.toArray c',slots:= #[]}->EP X pins σ Q (.ref s.heap.objs.size) {s with heap:=h'}:=fun its r' hz h' c' kp e=>
  ⟨.ref s.heap.objs.size,_,I.laid (t':=s.toks) kp (Nat.le_refl _) (show fP X.prog X.w _ h' _ (.lst ys) from ⟨hz,its,c',r',e⟩),rfl,q _ (I.hok.fresh (Nat.le_refl _))⟩
 rcases hq with hq|hq
 ·obtain ⟨its,r',pl,hz⟩:=I.list hq
  have hlen:=r'.length;obtain ⟨o,ho,hc,n,hd⟩:=pl.isList;exact call_list_seq p (.inl rfl) ho hc hd (fun h' c' kp e=>fin its r' hz h' c' kp e) (by simp only [List.size_toArray]<;>omega)
 ·obtain ⟨its,r',pl,hz⟩:=I.tuple hq
  have hlen:=r'.length;obtain ⟨o,ho,hc,n,hd⟩:=pl;exact call_list_seq p (.inr rfl) ho hc hd (fun h' c' kp e=>fin its r' hz h' c' kp e) (by simp only [List.size_toArray]<;>omega)
def Y4 (K:PySem.W.Frag) (T:String) (x:V) (H:Hp):Prop:=match x with
 | .str _=>T = "str"
 | .int _=>T = "int"
 | .ref p=>(T = "list" /\ ∃xs,aY K H p xs)\/(T = "tuple" /\ ∃o,K.lookup p=some o/\o.cls = .type "tuple" /\ o.dict=none) \/
    (T = "dict" /\ ((∃kvs,H p=some (.dK kvs)) \/ ∃kvs,H p=some (.dT kvs)))\/(T = "set" /\ ∃S n,H p=some (.set S n))
 | _=>False
theorem HN {pins:List (Addr×Obj)} {σ:St} {H:Hp} {s:Shared} {T:String} {x:V} {v:Value} (I:Inv X pins σ H s) (r:RelV x v) (ty:Y4 X.K T x H):
 s.TypeIs v T /\ ∀a,v = .ref a -> ∃ob,s.heap.get? a=some ob/\ob.dict=none:=by
 cases x with
 | str z=>
   obtain ⟨t,rfl⟩:=r;cases (show T = "str" from ty);exact ⟨typeIs_str s z t,fun _ e=>nomatch e⟩
 | int i=>
   obtain ⟨t,rfl⟩:=r;cases (show T = "int" from ty);exact ⟨typeIs_int s i t,fun _ e=>nomatch e⟩
 | ref p=>
   cases r;rcases ty with ⟨rfl,xs,hq⟩|⟨rfl,o,hk,hc,hd⟩|⟨rfl,hk⟩|⟨rfl,S,n,hk⟩
   ·obtain ⟨its,_,pl,_⟩:=I.list hq
    refine ⟨pl.isList.typeIs,fun a e=> ?_⟩;cases e;obtain ⟨o,n,e,c,hd,_⟩:=pl;exact ⟨o,e,hd⟩
   ·refine ⟨⟨o,I.mZ p o hk,hc⟩,fun a e=> ?_⟩
    cases e;exact ⟨o,I.mZ _ o hk,hd⟩
   ·have z:∃o,s.heap.get? p=some o/\o.ExactDict:=by
     rcases hk with ⟨kvs,hk⟩|⟨kvs,hk⟩
     ·obtain ⟨_,_,_,_,o,_,_,e,ex,_⟩:=I.hok p _ hk
      exact ⟨o,e,ex⟩
     ·obtain ⟨_,_,_,_,o,_,_,e,ex,_⟩:=I.hok p _ hk
      exact ⟨o,e,ex⟩
    obtain ⟨o,e,ex⟩:=z;refine ⟨⟨o,e,ex.1⟩,fun a e2=> ?_⟩;cases e2;exact ⟨o,e,ex.2.1⟩
   ·obtain ⟨o,_,_,_,e,ex,_⟩:=I.hok p _ hk
    refine ⟨⟨o,e,ex.1⟩,fun a e2=> ?_⟩;cases e2;exact ⟨o,e,ex.2.1⟩
 | _=>exact False.elim ty
def Vs (K:PySem.W.Frag) (T:String) (r:V->List V->Hp->VK->Prop) (to:TE):TE:=fun σ H Q=>to σ H fun x H1=>Y4 K T x H1/\r x [] H1 Q
def Zg (K:PySem.W.Frag) (T:String) (r:V->List V->Hp->VK->Prop) (to:TE) (t:TA):TE:=fun σ H Q=>to σ H fun x H1=>Y4 K T x H1/\t σ H1 fun xs H2=>r x xs H2 Q
variable {o e:Expr} {es:List Expr} {to:TE} {t:TA} {name:Str} {apos cpos:Pos} {T id:String} {r:V->List V->Hp->VK->Prop}
theorem Rh (pa:PlainAttrs T) (slot:Slot T name id) (hty:typeOf (.builtin id)=pure (.type "method_descriptor")) (hm:TX X id r) (ho:PE X o to)
 (hbase:attributeBase o name X.env (eval o X.env)=eval o X.env:=by rfl) (hline:(apos.endLine==cpos.line)=true:=by rfl):PE X (.Call (.Attribute o name apos) [] [] cpos) (Vs X.K T r to):=by
 intro pins s σ H Q I h;refine wpAny_Call_method0_late hbase hline (dH (ho pins s σ H _ I h) fun v s1 ⟨x,H1,I1,r1,ty,q1⟩=> ?_);obtain ⟨h1,h2⟩:=HN I1 r1 ty;exact ⟨T,id,pa,slot,hty,h1,h2,Calls.callWith_builtin rfl (PySem.evalArgs_none (hm pins s1 σ H1 x [] v [] Q I1 r1 .nil q1))⟩
theorem PN (pa:PlainAttrs T) (slot:Slot T name id) (hty:typeOf (.builtin id)=pure (.type "method_descriptor")) (hm:TX X id r) (ho:PE X o to) (ha:PA X (e::es) t)
 (hbase:attributeBase o name X.env (eval o X.env)=eval o X.env:=by rfl)
 (hfew:((backTo cpos (starEach (e::es) X.env)).all (fun x=> !x.1)&&(backToKw cpos (keywordEach [] X.env)).all (fun x=>x.1.isSome)
   && decide ((e::es).length+([]:List Keyword).length+(if ([]:List Keyword).isEmpty then 0 else 1)<30))=true:=by rfl)
 (hline:(apos.endLine==cpos.line)=true:=by rfl) (hs:starEach (e::es) X.env=(false,eval e X.env)::starEach es X.env:=by rfl) (hplain:(backTo cpos (starEach es X.env)).any (·.1)=false:=by rfl):
 PE X (.Call (.Attribute o name apos) (e::es) [] cpos) (Zg X.K T r to t):=by
 intro pins s σ H Q I h;refine wpAny_Call_method_late hbase hfew hline rfl (dH (ho pins s σ H _ I h) fun v s1 ⟨x,H1,I1,r1,ty,q1⟩=> ?_);obtain ⟨h1,h2⟩:=HN I1 r1 ty;refine ⟨T,id,pa,slot,hty,h1,h2, ?_⟩;have hA:=ha cpos pins s1 σ H1 _ I1 q1;rw [hs] at hA ⊢;refine Calls.callWith_builtin (by show (false||(backTo cpos (starEach es X.env)).any (·.1))=false;rw [hplain]<;>rfl) (Calls.evalArgs_plain ?_);exact dH hA fun us s2 ⟨vs,H2,I2,r2,q2⟩=>hm pins s2 σ H2 x vs v us Q I2 r1 r2 q2
end
end L2
namespace L2
open PySem PySem.Spec PyProof.Rows
def MtM (X:Cx) (id:String) (r:V->List V->Hp->VK->Prop):Prop:=
 ∀(pins:List (Addr×Obj)) (s:Shared) (σ:St) (H:Hp) (x:V) (xs:List V) (v:Value) (us:List Value) (Q:VK),Inv X pins σ H s->RelV x v->Vals xs us->r x xs H Q ->
  wpAny (model X.prog X.w) X.A (call (.builtin id) (v::us)) (EP X pins σ Q) X.xe s
theorem Vals.one {x:V} {us:List Value} (h:Vals [x] us):∃u,us=[u]/\RelV x u:=by
 cases h with
 | cons r t=>cases t;exact ⟨_,rfl,r⟩
theorem Vals.two {x y:V} {us:List Value} (h:Vals [x,y] us):∃u v,us=[u,v]/\RelV x u/\RelV y v:=by
 cases h with
 | cons r t=>
   cases t with
   | cons q t=>cases t;exact ⟨_,_,rfl,r,q⟩
theorem Vals.zero:∀{us:List Value},Vals [] us->us=[]
 | _,.nil=>rfl
theorem Vals.rep {xs:List V} {us:List Value} (h:Vals xs us):∀k:Nat,Vals (List.replicate k xs).flatten (List.replicate k us).flatten
 | 0=> .nil
 | k+1=>by
   rw [List.replicate_succ,List.replicate_succ,List.flatten_cons,List.flatten_cons];exact Vals.append h (Vals.rep h k)
theorem foldl_rep (its:List Value):∀(k:Nat) (acc:List Value),
 List.foldl (fun x1 x2=>x1++x2) acc.toArray (List.replicate k its.toArray)=(acc++(List.replicate k its).flatten).toArray
 | 0,acc=>by simp
 | k+1,acc=>by
   have e:acc.toArray++its.toArray=(acc++its).toArray:=by simp
   have e2:(acc++its)++(List.replicate k its).flatten=acc++(List.replicate (k+1) its).flatten:=by
    rw [List.replicate_succ,List.flatten_cons,List.append_assoc]
   rw [←e2,←foldl_rep its k (acc++its),←e,List.replicate_succ,List.foldl_cons]
section
variable {X:Cx} {pins:List (Addr×Obj)} {σ:St} {H:Hp} {s:Shared} {l b:Addr} {xs ys zs:List V}
theorem Inv.RN {its its':List Value} {n:Nat} {f:Array Value->Array Value} {t':Nat} (I:Inv X pins σ H s) (hH:H l=some (.lst xs))
 (e:s.heap.get? l=some {cls:= .type "list",data:= .seq its.toArray n}) (hf:f its.toArray=its'.toArray) (hv:Vals ys its') (hz:ys.length<=sizeLine):
 Inv X pins σ (upd H l (.lst ys)) {s with heap:=s.heap.update l (Obj.mapSeq f),toks:=t'}:=by
 have q:=PySem.IsL.update e f;rw [hf] at q;refine I.write (x:=l) (e:=l) (by rw [hH];exact trivial) (.inl rfl) (fun b' u hb hu=>(Heap.get?_update_other s.heap (Obj.mapSeq f) (Ne.symm hb)).trans hu) ⟨_,q⟩ ?_;exact ⟨hz,its',_,hv,q⟩
theorem Inv.Wm {its:List Value} {t':Nat} (I:Inv X pins σ H s) (hv:Vals ys its) (hz:ys.length<=sizeLine):
 Inv X pins σ (upd H s.heap.objs.size (.lst ys)) {s with heap:=s.heap.push {cls:= .type "list",data:= .seq its.toArray},toks:=t'}:=
 I.laid (fun _ _ q=>Heap.get?_push_of_some _ q) (Nat.le_refl _) ⟨hz,its,0,hv,Heap.get?_push_size _ rfl⟩
theorem Inv.fresh (I:Inv X pins σ H s):H s.heap.objs.size=none:=I.hok.fresh (Nat.le_refl _)
theorem Inv.Gp (I:Inv X pins σ H s) (hH:H l=some (.lst xs)):xs.length<=sizeLine /\ ∃(its:List Value) (n:Nat),Vals xs its/\xs.length=its.length/\s.heap.get? l=some {cls:= .type "list",data:= .seq its.toArray n}:=by
 obtain ⟨z,its,n,r,e⟩:=I.hok l _ hH;exact ⟨z,its,n,r,r.length,e⟩
theorem Jp {n:Nat} (h:n<=sizeLine):Builtin.List.listTooLong n=false:=by
 unfold Builtin.List.listTooLong;exact decide_eq_false (by omega)
end
section
variable {X:Cx}
def DK:V->List V->Hp->VK->Prop:=fun x vs H Q=>∃l xs y,x = .ref l/\vs=[y]/\H l=some (.lst xs)/\xs.length<sizeLine/\Q .non (upd H l (.lst (xs++[y])))
theorem vX:MtM X "list.append" DK:=by
 intro pins s σ H x vs v us Q I rx rv h;obtain ⟨l,xs,y,rfl,rfl,hH,hz,q⟩:=h;cases rx;obtain ⟨u,rfl,ru⟩:=rv.one;obtain ⟨z,its,n,r,hl,e⟩:=I.Gp hH;refine call_meets F.slot_list_append ⟨_,e,rfl⟩ F.entry_list_append (F.args_list_append_2 _ _) (PySem.list_append l its.toArray n u (by rw [List.size_toArray];omega)) ⟨e, ?_⟩;refine ⟨.non,_,I.RN (its':=its++[u]) hH e (by simp) (r.append (.cons ru .nil)) ?_,rfl,q⟩;rw [List.length_append,List.length_singleton];omega
def QW:V->List V->Hp->VK->Prop:=fun x vs H Q=>∃l xs,x = .ref l/\vs=[]/\H l=some (.lst xs)/\Q .non (upd H l (.lst []))
theorem uE:MtM X "list.clear" QW:=by
 intro pins s σ H x vs v us Q I rx rv h;obtain ⟨l,xs,rfl,rfl,hH,q⟩:=h;cases rx;have hus:=rv.zero;subst hus;obtain ⟨z,its,n,r,hl,e⟩:=I.Gp hH;refine call_meets F.slot_list_clear ⟨_,e,rfl⟩ F.entry_list_clear (F.args_list_clear_1 _) (AutoSeq1.list_clear_list_0 l its.toArray n (by rw [List.size_toArray];omega)) ⟨e, ?_⟩;exact ⟨.non,_,I.RN (its':=[]) (ys:=[]) hH e rfl .nil (Nat.zero_le _),rfl,q⟩
def ZK:R2:=fun x y H Q=>∃l b xs zs,x = .ref l/\y = .ref b/\H l=some (.lst xs)/\H b=some (.lst zs)/\xs.length+zs.length<=sizeLine /\ ∀p,H p=none->Q (.ref p) (upd H p (.lst (xs++zs)))
theorem qN:nU X (binaryOp .Add) ZK:=by
 intro pins s σ H x y v u Q I rx ry h;obtain ⟨l,b,xs,zs,rfl,rfl,hH,hB,hz,q⟩:=h;cases rx;cases ry;obtain ⟨z,its,n,r,hl,e⟩:=I.Gp hH;obtain ⟨z2,its2,n2,r2,hl2,e2⟩:=I.Gp hB;refine PySem.P.add_list e e2 ?_ (by rw [List.size_toArray,List.size_toArray];omega);have ea:its.toArray++its2.toArray=(its++its2).toArray:=by simp
 rw [ea];exact ⟨.ref _,_,I.Wm (t':=s.toks) (r.append r2) (by rw [List.length_append];omega),rfl,q _ I.fresh⟩
def Zz:R2:=fun x y H Q=>∃l k xs,x = .ref l/\y = .int k/\H l=some (.lst xs) /\ -(2 ^ 63)<=k/\k<2 ^ 63/\xs.length*k.toNat<=sizeLine /\
 ∀p,H p=none->Q (.ref p) (upd H p (.lst (List.replicate k.toNat xs).flatten))
theorem len_rep {α:Type} (xs:List α) (k:Nat):(List.replicate k xs).flatten.length=k*xs.length:=by
 induction k with
 | zero=>simp
 | succ k ih=>rw [List.replicate_succ,List.flatten_cons,List.length_append,ih,Nat.succ_mul,Nat.add_comm]
theorem BW:nU X (binaryOp .Mult) Zz:=by
 intro pins s σ H x y v u Q I rx ry h;obtain ⟨l,k,xs,rfl,rfl,hH,h1,h2,hz,q⟩:=h;cases rx;obtain ⟨t,rfl⟩:=ry;obtain ⟨z,its,n,r,hl,e⟩:=I.Gp hH;have hlen:its.toArray.size*k.toNat<=sizeLine:=by rw [List.size_toArray,←hl];exact hz
 have hcap:¬its.toArray.size*k.toNat>(2 ^ 63 - 1) / 8:=by
  have:(sizeLine:Nat)<=(2 ^ 63 - 1) / 8:=by decide
  omega
 have hfit:¬(!Builtin.List.listFitsIndex k)=true:=by
  rw [fitsIndex_both h1 h2];exact Bool.false_ne_true
 have WM:¬Builtin.List.listTooLong (its.toArray.size*k.toNat)=true:=by
  rw [Jp hlen];exact Bool.false_ne_true
 have hnew:List.foldl (fun x1 x2=>x1++x2) #[] (List.replicate (if its.toArray.isEmpty=true then 0 else k.toNat) its.toArray)=(List.replicate k.toNat its).flatten.toArray:=by
  have f0:∀m:Nat,List.foldl (fun x1 x2=>x1++x2) #[] (List.replicate m its.toArray)=(List.replicate m its).flatten.toArray:=fun m=>by
   have:=foldl_rep its m [];rw [List.nil_append] at this;exact this
  rw [f0];cases its with
  | nil=>simp
  | cons a r'=>rw [if_neg (by simp)]
 refine wpAny_binaryOp_repeat_ref (T:= "list") (U:= "int") (by decide) ⟨_,e,rfl⟩ (fun s'=>typeIs_int s' k t) noFill_list_mul F.fills_int_mul F.slot_int_rmul repeat_list F.slot_int_index.lookup
  (call_meets F.slot_int_rmul (typeIs_int s k t) F.entry_int_rmul (F.args_int_rmul_2 _ _) (int___rmul___int_list k t l its.toArray n)
    ⟨e,rfl,⟨_,e,rfl⟩,call_meets F.slot_list_mul ⟨_,e,rfl⟩ F.entry_list_mul (F.args_list_mul_2 _ _) (AutoListH.list___mul___list_int_3 l its.toArray n k t hfit hcap WM) ⟨e, ?_⟩⟩)
 rw [hnew];exact ⟨.ref _,_,I.Wm (t':=s.toks) (r.rep k.toNat) (by rw [len_rep,Nat.mul_comm];exact hz),rfl,q _ I.fresh⟩
end
section
variable {prog:Program} {w:World} {A:Around} {E:Value->Shared->Prop} {s:Shared}
end
section
variable {X:Cx}
end
end L2
namespace L2
open PySem PySem.Spec PyProof.Rows
section
variable {κ:Type} [DecidableEq κ]
end
section
variable {P:Program} {w:World} {H:Hp} {h:Heap} {a:Addr}
end
section
variable {X:Cx} {pins:List (Addr×Obj)} {σ:St} {H:Hp} {s:Shared} {a:Addr} {y v:V} {u r:Value} {o:Option V} {A:Around} {E:Value->Shared->Prop}
end
section
variable {X:Cx} {pins:List (Addr×Obj)} {σ:St} {H:Hp} {s:Shared} {a:Addr} {kvs:List (Key×V)} {k:Key} {u:Value} {A:Around} {E:Value->Shared->Prop}
end
section
variable {X:Cx} {o i e value:Expr} {pos pos' tpos:Pos} {td ty tv:TE}
end
section
variable {X:Cx} {pos:Pos}
end
structure M1 (X:Cx) (o:Expr) (m:Str) (apos:Pos) (e:Expr) (cpos:Pos):Prop where
 base:attributeBase o m X.env (eval o X.env)=eval o X.env
 few:((backTo cpos (starEach [e] X.env)).all (fun x=> !x.1)&&(backToKw cpos (keywordEach [] X.env)).all (fun x=>x.1.isSome)
  && decide (([e]:List Expr).length+([]:List Keyword).length+(if ([]:List Keyword).isEmpty then 0 else 1)<30))=true
 line:(apos.endLine==cpos.line)=true
 trees:backTo cpos (starEach [e] X.env)=[(false,eval e X.env)]
structure M2 (X:Cx) (o:Expr) (m:Str) (apos:Pos) (e f:Expr) (cpos:Pos):Prop where
 base:attributeBase o m X.env (eval o X.env)=eval o X.env
 few:((backTo cpos (starEach [e,f] X.env)).all (fun x=> !x.1)&&(backToKw cpos (keywordEach [] X.env)).all (fun x=>x.1.isSome)
  && decide (([e,f]:List Expr).length+([]:List Keyword).length+(if ([]:List Keyword).isEmpty then 0 else 1)<30))=true
 line:(apos.endLine==cpos.line)=true
 trees:backTo cpos (starEach [e,f] X.env)=[(false,eval e X.env),(false,eval f X.env)]
section
variable {X:Cx} {pins:List (Addr×Obj)} {σ:St} {H:Hp} {s:Shared} {a:Addr} {y d:V} {u r:Value} {o:Option V} {A:Around} {E:Value->Shared->Prop}
end
section
variable {X:Cx} {o e f:Expr} {apos cpos:Pos} {td ty tx:TE}
end
section
variable {X:Cx} {pins:List (Addr×Obj)} {σ:St} {H:Hp} {s:Shared} {a:Addr} {kvs:List (Key×V)} {A:Around} {E:Value->Shared->Prop}
end
section
variable {X:Cx} {pins:List (Addr×Obj)} {σ:St} {H:Hp} {s:Shared} {a:Addr} {y:V} {u:Value} {A:Around} {E:Value->Shared->Prop}
end
end L2
namespace Att
open PySem PySem.W PySem.Calls PyProof.Rows
theorem rO {P:Params} {h:Heap}:∀(ns:List Int) (vs:List Value),WellAll P h vs (ns.map WData.int)->IntsAre vs ns:=by
 intro ns
 induction ns with
 | nil=>
   intro vs w;rw [List.map_nil] at w;cases w;exact .nil
 | cons n ns ih=>
   intro vs w;rw [List.map_cons] at w;cases w with
   | cons a b=>
     cases a;exact .cons _ _ (ih _ b)
theorem Fz {l:OpenLaw} {n:Nat} (hn:l.most=some n) {P:Params} {h:Heap} {args:List WData} {vals:List Value}
 (hpre:l.row.toRowW.claim.pre args=true) (hwl:WellAll P h vals args):
 ∃a vs ns,vals=[Value.ref a]/\args=[WData.list (ns.map WData.int)]/\h.get? a=some {cls:= .type "list",data:= .seq vs.toArray}/\IntsAre vs ns/\ns.length<=n:=by
 have hsh:WShape.hasAll [] args [.list .int]=true:=(pre_splitW hpre).1;have hc:l.pre.holds [] {args:=args}=true:=(pre_splitW hpre).2;obtain ⟨d,r,rfl,h1,h2⟩:=hasAllW_cons hsh;obtain rfl:=hasAllW_nil h2;obtain ⟨xs,rfl,h3⟩:=hasW_list h1;obtain ⟨ns,rfl⟩:=items_int h3
 have hlen:ns.length<=n:=by
  unfold OpenLaw.pre at hc
  have h4:(WTm.not (.lt (.lit (.int (n:Int))) (.len (.arg 0)))).holds [] {args:=[.list (ns.map .int)]}=true:=by
   have h4:=(holds_andW hc).1;rw [hn] at h4;exact h4
  have h5:=condW_of h4 (w_not (w_lt w_lit (w_len_list (w_arg rfl))));rw [List.length_map] at h5;refine Nat.le_of_not_lt fun q=> ?_;have q':(n:Int)<((ns.length:Nat):Int):=by omega
  first
   | (rw [decide_eq_true q'] at h5;exact absurd h5 (by decide))
   | (simp at h5;omega)
 cases hwl with
 | cons w1 w2=>
   cases w2;cases w1 with
   | list ho hall=>exact ⟨_,_,ns,rfl,rfl,ho,rO ns _ hall,hlen⟩
theorem FW (l:OpenLaw) (args:List WData):l.row.toRowW.claim.post args (.bool true) args=true:=
 postW_of (r:=l.row.toRowW) (X:=(true==true))
  (show WShape.has [] (.bool true) .bool=true by first |rfl|decide|simp [WShape.has,WShape.arms,WShape.armsAll])
  (show (WTm.eq .res (.lit (.bool true))).value [] {args:=args,res:=some (.bool true),after:=args}=some (.bool (true==true)) from w_eq_bool (w_res rfl) w_lit) rfl
theorem Av {l:OpenLaw} {n:Nat} {q:Program} {loose:List Str} {XP:(Str->Option Value)->Heap->Prop} {YP:World->Heap->Prop} {d:DefRec}
 (hn:l.most=some n) (hdf:d.params.defaults=[])
 (call:∀(w:World) (s₀ s₁:Shared) (mg mb:Str->Option Value) (fa:Addr) (o:Obj) (pm cd doc:Value) (a:Addr) (vs:List Value) (ns:List Int),
   Ground q loose [] XP w s₀ mg mb s₁.heap->YP w s₁.heap ->
   s₁.heap.get? fa=some o->o.data = .func (docDef d.name d.params d.body d.scope pm cd doc)->s₁.heap.CodeRec cd d.name->mg d.name=some (.ref fa) ->
   s₁.heap.get? a=some {cls:= .type "list",data:= .seq vs.toArray}->IntsAre vs ns->ns.length<=n->s₁.gens = #[] ->
   codeAny (model l.prog w) callerA (.call (.ref fa) ⟨[.ref a],[]⟩) (fun r s'=>r = .ok (.ret (.bool true))/\OldK s₁.heap s'.heap/\s'.os=s₁.os/\AllBare s'.gens) s₁):
 WalkO q loose XP YP l.row.toRowW d [] (fun f vs=>PySem.call f vs):=by
 intro w s₀ s₁ mg mb G Y fa o pm cd doc dV kV ho hd hcd hD hmg hg args vals as hpre hlay hrd hwl hlo;obtain rfl:dV = .none:=Dflts.none hD hdf;obtain rfl:kV = .none:=Dflts.noKw hD;obtain ⟨a,vs,ns,rfl,rfl,hobj,hints,hlen⟩:=Fz hn hpre hwl;refine enter_call (codeAny_mono (call w s₀ s₁ mg mb fa o pm cd doc a vs ns G Y ho (fd_plain hd) hcd hmg hobj hints hlen hg) fun r s' hq=> ?_);obtain ⟨rfl,h2,h3,h4⟩:=hq;exact ⟨.inl ⟨.bool true,.bool true,[],rfl,fun _=>rfl,.bool true,FW l _,fun _=>⟨List.Pairwise.nil,fun _ hm=>(nomatch hm)⟩⟩,h2,h3,h4⟩
section
variable {prog:Program} {w:World} {A:Around} {E:Value->Shared->Prop} {s:Shared} {K:Frag}
def ledger (h:Heap) (L d:Addr):List (Addr×Obj):=(List.range h.objs.size).filterMap fun a=>if a=L\/a=d then none else (h.get? a).map fun o=>(a,o)
end
end Att
namespace L2
open PySem PySem.Spec PyProof.Rows
theorem Fi {vs:List Value} {ns:List Int} (h:IntsAre vs ns):Vals (ns.map V.int) vs:=by
 induction h with
 | nil=>exact .nil
 | cons n t h ih=>exact .cons ⟨t,rfl⟩ ih
def Only (H:Hp):Prop:=∀b,H b=none \/ ∃o xs,H b=some (.Af o (.lst xs))
theorem JB {P:Program} {w:World} {K:PySem.W.Frag} {mg mb:Str->Option Value} {CX:Ht} {k:Nat} {fa a:Addr} {fd:FuncData} {x:Str} {sp:Sp} {s₁:Shared} {vs:List Value} {ns:List Int}
 (KX:K.In s₁.heap) (hns:s₁.heap.Ns mainGlobals mg) (hb:s₁.heap.Ns builtinsNs mb) (hbb:∀x:Str,x ≠ "__name__" -> mb x=bootBuiltins x) (hlim:s₁.heap.NoLimit) (hg:s₁.gens = #[])
 (ha:s₁.heap.get? a=some {cls:= .type "list",data:= .seq vs.toArray}) (hi:IntsAre vs ns) (hl:ns.length<=sizeLine) (hr:dN k callerA)
 (F:∀base:Heap,K.In base->base.Ns mainGlobals mg->bU P w K mg base CX k fa fd [x] sp) (hbind:∀(s:Shared) (u:Value),BindsTo s fd ⟨[u],[]⟩ [(x,u)])
 (hsp:∀H:Hp,Only H->aY K H a (ns.map V.int)->sp [.ref a] H (fun v _=>v = .bl true) fun _ _ _=>False)
 (hCX:∀H e s',CX [] H s₁ (fun _ _ _=>False) e s'->False):
 codeAny (model P w) callerA (.call (.ref fa) ⟨[.ref a],[]⟩) (fun r s'=>r = .ok (.ret (.bool true))/\OldK s₁.heap s'.heap/\s'.os=s₁.os/\AllBare s'.gens) s₁:=by
 have rv:=Fi hi;have lenV:=hi.length
 have core:∀H:Hp,Only H->aY K H a (ns.map V.int)->qp P w H s₁.heap->(∀b,H b≠none->b=a)->(H a≠none->K.lookup a=none) ->
  codeAny (model P w) callerA (.call (.ref fa) ⟨[.ref a],[]⟩) (fun r s'=>r = .ok (.ret (.bool true))/\OldK s₁.heap s'.heap/\s'.os=s₁.os/\AllBare s'.gens) s₁:=by
  intro H hO hS hok hA hK;have Ey:∀{b:Addr} {o:Obj},s₁.heap.get? b=some o->H b=none->(yC s₁.heap H).get? b=some o:=fun e n=>JH e n
  have Wa:∀{b:Addr} {o:Obj} {es:Array DictEntry} {ep:Nat},s₁.heap.get? b=some o->o.data = .dict es ep->H b=none:=fun {b o es ep} e d=>by
   cases q:H b with
   | none=>rfl
   | some u=>
     have e':b=a:=hA b (by rw [q];simp);subst e';rw [ha] at e;cases e;have d':Data.seq vs.toArray _=Data.dict es ep:=d;cases d'
  have Yo:∀{b:Addr} {m:Str->Option Value},s₁.heap.Ns b m->(yC s₁.heap H).Ns b m:=fun {b m} ⟨o,es,ep,e,d,r⟩=>⟨o,es,ep,Ey e (Wa e d),d,r⟩
  have hKb:K.In (yC s₁.heap H):=fun b o e=>Ey (KX b o e) (by
   cases q:H b with
   | none=>rfl
   | some u=>
     have e':b=a:=hA b (by rw [q];simp);subst e';rw [hK (by rw [q];simp)] at e;cases e)
  have hM:Mod K mg (yC s₁.heap H):=⟨hKb,Yo hns,⟨mb,Yo hb,hbb⟩,let ⟨mc,h1,h2⟩:=hlim;⟨mc,Yo h1,h2⟩⟩;have e0:vH P w K mg (yC s₁.heap H) callerA [] s₁ H:=⟨rfl,hM,fun b o e=>M5 e,Nat.le_of_eq (Gx _ _),trivial,fun b hb=>absurd (show b∈([]:List Addr) from hb) (by simp),hok,.of_eq hg⟩;refine codeAny_mono ((F _ hKb (Yo hns)).run callerA [] s₁ H ⟨[.ref a],[]⟩ [.ref a] [.ref a] _ _ hr e0 (hbind s₁ (.ref a)) (.cons rfl .nil) (hsp H hO hS)) fun r s' h=> ?_;cases r with
  | error e=>exact (hCX H e s' h).elim
  | ok fl=>
    cases fl with
    | next=>exact False.elim h
    | brk=>exact False.elim h
    | cont=>exact False.elim h
    | ret u=>
      obtain ⟨v,H',os,bare,un,hok',r',q⟩:=h;have q':v = .bl true:=q;subst q';obtain rfl:u=Value.bool true:=r';refine ⟨rfl,OldK.of_keep fun b o e=> ?_,os,bare⟩;cases q:H b with
      | none=>exact un.keep b o e q (by intro z;exact absurd (show b∈([]:List Addr) from z) (by simp)) (by simp)
      | some u=>
        rcases hO b with z|⟨ob,xs,z⟩
        ·rw [q] at z;cases z
        ·have z2:=un.qU b ob _ z
         obtain ⟨e1,_⟩:=hok b _ z;obtain ⟨e2,_⟩:=hok' b _ z2;rw [e] at e1;cases e1;exact e2
 cases hk:K.lookup a with
 | some o=>
   have e:=KX a o hk;rw [ha] at e;cases e;refine core (fun _=>none) (fun _=> .inl rfl) (.inr ⟨_,vs.toArray,_,hk,rfl,rfl,rfl,by rw [List.size_toArray,lenV];exact hl,by simpa using rv⟩) (fun b u z=>by have z':(none:Option HO)=some u:=z;cases z') (fun b z=>absurd rfl z) fun z=>absurd rfl z
 | none=>
   refine core (fun b=>if b=a then some (.Af {cls:= .type "list",data:= .seq vs.toArray} (.lst (ns.map V.int))) else none) (fun b=> ?_) (.inl (.inr ⟨{cls:= .type "list",data:= .seq vs.toArray},if_pos rfl⟩)) (fun b u z=> ?_) (fun b z=> ?_) fun _=>hk
   ·by_cases hb:b=a
    ·exact .inr ⟨_,_,if_pos hb⟩
    ·exact .inl (if_neg hb)
   ·by_cases hb:b=a
    ·have z':=(if_pos hb).symm.trans z
     cases z';subst hb;exact ⟨ha,by rw [List.length_map];exact hl,vs,_,rv,ha⟩
    ·have z':=(if_neg hb).symm.trans z
     cases z'
   ·by_cases hb:b=a
    ·exact hb
    ·exact absurd (if_neg hb) z
end L2
namespace L2
open PySem PySem.Spec PyProof.Rows
abbrev KOf {K:PySem.W.Frag} {h:Heap} (_:K.In h):PySem.W.Frag:=K
theorem La {l:PySem.W.OpenLaw} {n k:Nat} {q:Program} {loose:List Str} {XP:(Str->Option Value)->Heap->Prop} {YP:World->Heap->Prop} {d:DefRec} {K:Params->PySem.W.Frag} {CX:World->Ht} {sp:World->Sp} {x:Str}
 (hn:l.most=some n) (hn2:n<=sizeLine) (hdf:d.params.defaults=[]) (hr:dN k callerA)
 (hY:∀(w:World) (h:Heap),YP w h->(K w.params).In h)
 (F:∀(w:World) (mg:Str->Option Value) (fa:Addr) (h:Heap),(K w.params).In h->h.Ns mainGlobals mg->mg d.name=some (.ref fa) ->
   ∃fd:FuncData,(∀(s:Shared) (u:Value),BindsTo s fd ⟨[u],[]⟩ [(x,u)]) /\
    ∀base:Heap,(K w.params).In base->base.Ns mainGlobals mg->bU l.prog w (K w.params) mg base (CX w) k fa fd [x] (sp w))
 (hsp:∀(w:World) (H:Hp) (a:Addr) (ns:List Int),ns.length<=n->Only H->aY (K w.params) H a (ns.map V.int)->sp w [.ref a] H (fun v _=>v = .bl true) fun _ _ _=>False)
 (hCX:∀(w:World) (H:Hp) (s:Shared) (e:Value) (s':Shared),CX w [] H s (fun _ _ _=>False) e s'->False):
 PySem.W.WalkO q loose XP YP l.row.toRowW d [] (fun f vs=>PySem.call f vs):=by
 refine Att.Av hn hdf fun w s₀ s₁ mg mb fa o pm cd doc a vs ns G Y ho hd hcd hmg hobj hints hlen hg=> ?_;have KX:=hY w _ Y;obtain ⟨fd,hb,hF⟩:=F w mg fa _ KX G.T.g hmg;exact JB KX G.T.g G.T.b G.T.builtins G.T.nolimit hg hobj hints (Nat.le_trans hlen hn2) hr hF hb (fun H hO hS=>hsp w H a ns hlen hO hS) fun H e s'=>hCX w H s₁ e s'
end L2
namespace L2
open PySem PySem.Spec PyProof.Rows
def inClass (s:Stmt) (j:Nat):Stmt:=match s with
 | .ClassDef _ _ _ body _ _ _ _ _ _ _=>body.getD j (.Pass ⟨0,0,0,0⟩)
 | _=> .Pass ⟨0,0,0,0⟩
def dF (s:Stmt):Arguments:=match s with
 | .FunctionDef _ a _ _ _ _ _ _ _ _=>a
 | _=>{posonlyargs:=[],args:=[],vararg:=none,kwonlyargs:=[],kw_defaults:=[],kwarg:=none,defaults:=[]}
def eX (s:Stmt):List Stmt:=match s with
 | .FunctionDef _ _ b _ _ _ _ _ _ _=>b
 | _=>[]
def aN (s:Stmt):Scope:=match s with
 | .FunctionDef _ _ _ _ _ _ sc _ _ _=>sc
 | _=>{kind:= .function,names:=[],isGenerator:=false,isCoroutine:=false}
abbrev gF:Ht:=fun _ _ _ _ _ _=>False
abbrev E0:XK:=fun _ _ _=>False
theorem zR {X:Cx}:Passes gF X E0:=fun _ _ _ _ _ _ _ h=>h.elim
structure fj (K:PySem.W.Frag) (x qual:Str) (st:Stmt) (f:Addr) (fd:FuncData):Prop where
 ex:∃(oc:Value) (od:Option Addr) (kV doc pm:Value) (an:Option Addr) (cdv ct:Value) (osl:Array (Option Value)),
  fd=PySem.W.fnOf x qual (dF st) (eX st) (aN st) .none kV doc pm an cdv ct/\K.lookup f=some ⟨oc,od,.func fd,osl⟩/\PySem.W.codeIn K cdv qual=true
 kp:PySem.W.keepIn K (.ref f)=true
section
variable {P:Program} {w:World} {K:PySem.W.Frag} {mg:Str->Option Value} {base:Heap}
theorem fj.ok {x qual:Str} {st:Stmt} {f:Addr} {fd:FuncData} {N ps:List Str} {k:Nat} {sp:Sp} (F:fj K x qual st f fd) (S:bA N ps (aN st)) (len:∀vs H Q E,sp vs H Q E->vs.length=ps.length)
 (hbody:∀(cdv:Value) (A:Around) (outer:List Env) (s:Shared) (H:Hp) (vs:List V) (Q:VK) (E:XK),dN k (A.deeper (envOfC qual (aN st) s.heap.objs.size f cdv))->sp vs H Q E ->
   ∃t,Ay (mz gF P w K mg base N qual (aN st) f cdv A outer s H E).Yp (eX st) t/\t {nx:=fun _ H'=>Q .non H',rt:=Q} (start N vs) H):bU P w K mg base gF (k+1) f fd ps sp:=by
 obtain ⟨oc,od,kV,doc,pm,an,cdv,ct,osl,rfl,lk,hcd⟩:=F.ex;refine JT lk hcd S len fun A outer s H vs Q E hr hsp=> ?_;obtain ⟨t,h,q⟩:=hbody cdv A outer s H vs Q E hr hsp;exact ⟨t,h.Yp,q⟩
theorem fj.binds {x qual:Str} {st:Stmt} {f:Addr} {fd:FuncData} {ps:List Str} (F:fj K x qual st f fd)
 (h:∀(kV doc pm:Value) (an:Option Addr) (cdv ct:Value) (us:List Value),us.length=ps.length->bindArgs (PySem.W.fnOf x qual (dF st) (eX st) (aN st) .none kV doc pm an cdv ct) ⟨us,[]⟩=pure (ps.zip us)):Binds K fd ps []:=by
 obtain ⟨oc,od,kV,doc,pm,an,cdv,ct,osl,rfl,lk,hcd⟩:=F.ex;exact .all (h kV doc pm an cdv ct)
theorem JQ {x qual:Str} {st:Stmt} {f:Addr} {oc:Value} {od an:Option Addr} {osl:Array (Option Value)} {kV doc pm cdv ct:Value} (l:K.lookup f=some ⟨oc,od,.func (PySem.W.fnOf x qual (dF st) (eX st) (aN st) .none kV doc pm an cdv ct),osl⟩)
 (c:PySem.W.codeIn K cdv qual=true) (k:PySem.W.keepIn K (.ref f)=true):fj K x qual st f (PySem.W.fnOf x qual (dF st) (eX st) (aN st) .none kV doc pm an cdv ct):=⟨⟨oc,od,kV,doc,pm,an,cdv,ct,osl,rfl,l,c⟩,k⟩
end
section
variable {X:Cx}
theorem pv (i:Nat) {x:Str} {pos:Pos} (hN:X.N[i]? = some x:=by rfl) (hv:Xk X.env.scope x:=by first |exact Or.inl rfl|exact Or.inr (Or.inl rfl)|exact Or.inr (Or.inr rfl)) (hd:(x==("__debug__" :Str))=false:=by decide)
 (hcd:(x==("__classdict__" :Str))=false:=by decide):PE X (.Name x pos) (kh i):=Rf hN hv hd hcd
end
theorem cD {A B:Prop} (h:B):if false=true then A else B:=by
 rw [if_neg Bool.false_ne_true];exact h
theorem dM {A B:Prop} (h:A):if true=true then A else B:=by
 rw [if_pos rfl];exact h
theorem bK {c A B:Prop} [Decidable c] (h1:c->A) (h2:¬c->B):if c then A else B:=by
 by_cases h:c
 ·rw [if_pos h]
  exact h1 h
 ·rw [if_neg h]
  exact h2 h
theorem m5 {c A B:Prop} [Decidable c] (hc:c) (h:B):if (!decide c)=true then A else B:=by
 rw [decide_eq_true hc];exact cD h
def Same (H H':Hp):Prop:=∀b o,H b=some o->H' b=some o
theorem Same.refl (H:Hp):Same H H:=fun _ _ h=>h
theorem Same.trans {H H1 H2:Hp} (a:Same H H1) (b:Same H1 H2):Same H H2:=fun c o h=>b c o (a c o h)
theorem Same.free {H H':Hp} (e:Same H H') {l:Addr} (h:H' l=Option.none):H l=Option.none:=by
 cases q:H l with
 | none=>rfl
 | some o=>
   rw [e l o q] at h;cases h
theorem Same.seq {K:PySem.W.Frag} {H H':Hp} {a:Addr} {xs:List V} (e:Same H H') (h:aY K H a xs):aY K H' a xs:=by
 rcases h with (h|⟨o,h⟩)|h
 ·exact .inl (.inl (e _ _ h))
 ·exact .inl (.inr ⟨o,e _ _ h⟩)
 ·exact .inr h
section
variable {κ:Type} [DecidableEq κ]
end
end L2
set_option Elab.async false
set_option linter.all false
set_option maxRecDepth 100000
set_option maxHeartbeats 4000000
namespace L2
open PySem PySem.Spec PyProof.Rows
theorem uD {a n:Addr} (h:a<n): @LT.lt Nat _ a n:=h
def m9 (env:Env):List (Str×NameKind)->List (Str×Addr)->List (Str×Addr)
 | [],acc=>acc
 | (n,k)::r,acc=>if k == .free then m9 env r ((n,(env.cells.lookup n).getD 0)::acc) else m9 env r acc
theorem Cz {env:Env} {scope:Scope} (h:∀y∈scope.names,y.2 = .free->(env.cells.lookup y.1).isSome=true):closureFor scope env=pure (m9 env scope.names []):=by
 have go:∀(ns:List (Str×NameKind)) (acc:List (Str×Addr)),(∀y∈ns,y.2 = .free->(env.cells.lookup y.1).isSome=true) ->
  (forIn ns acc (fun x cs=>match x with |(name,kind)=>if (kind == .free)=true then do let c ←cellOf env name;pure (ForInStep.yield ((name,c)::cs)) else pure (ForInStep.yield cs)):Sem (List (Str×Addr)))=pure (m9 env ns acc):=by
  intro ns
  induction ns with
  | nil=>intro acc _;rfl
  | cons y r ih=>
    intro acc hy;obtain ⟨n,k⟩:=y;rw [List.forIn_cons]
    by_cases hk:k = .free
    ·subst hk
     have hs:=hy (n,.free) List.mem_cons_self rfl;obtain ⟨c,hc⟩:=Option.isSome_iff_exists.mp hs;have e:cellOf env n=pure c:=by unfold cellOf;rw [hc]
     show _=pure (m9 env r ((n,(env.cells.lookup n).getD 0)::acc));rw [←ih _ fun y hm=>hy y (List.mem_cons_of_mem _ hm)];simp only [beq_self_eq_true,if_true,e,pure_bind,hc,Option.getD_some]
    ·have hb:(k==NameKind.free)=false:=by simpa using hk
     have hc:m9 env ((n,k)::r) acc=m9 env r acc:=by
      show (if (k==NameKind.free)=true then _ else _)=_;rw [if_neg (by rw [hb];decide)]
     rw [hc,←ih _ fun y hm=>hy y (List.mem_cons_of_mem _ hm)];simp only [hb,Bool.false_eq_true,if_false,pure_bind]
 have q:=go scope.names [] h;unfold closureFor;show (forIn scope.names [] _ >>= fun r=>pure r)=_;rw [bind_pure];exact q
theorem iC {env:Env}:∀(ns:List (Str×NameKind)) (acc:List (Str×Addr)) (x:Str),(∀y∈ns,y.2 = .free->(env.cells.lookup y.1).isSome=true) ->
 (m9 env ns acc).lookup x=if (x,NameKind.free)∈ns then env.cells.lookup x else acc.lookup x
 | [],acc,x,_=>by simp [m9]
 | (n,k)::r,acc,x,h=>by
   have hr:∀y∈r,y.2 = .free->(env.cells.lookup y.1).isSome=true:=fun y hm=>h y (List.mem_cons_of_mem _ hm)
   by_cases hk:k = .free
   ·subst hk
    show (m9 env r ((n,(env.cells.lookup n).getD 0)::acc)).lookup x=_;rw [iC r _ x hr];obtain ⟨c,hc⟩:=Option.isSome_iff_exists.mp (h (n,.free) List.mem_cons_self rfl);have hc:env.cells.lookup n=some c:=hc
    by_cases hm:(x,NameKind.free)∈r
    ·rw [if_pos hm,if_pos (List.mem_cons_of_mem _ hm)]
    ·rw [if_neg hm]
     by_cases e:x=n
     ·subst e
      rw [if_pos List.mem_cons_self,List.lookup_cons,hc];simp
     ·rw [if_neg (fun z=>(List.mem_cons.mp z).elim (fun q=>e (congrArg Prod.fst q)) hm),List.lookup_cons]
      have:(x==n)=false:=by simpa using e
      rw [this]
   ·have hb:(k==NameKind.free)=false:=by simpa using hk
    have hc:m9 env ((n,k)::r) acc=m9 env r acc:=by
     show (if (k==NameKind.free)=true then _ else _)=_;rw [if_neg (by rw [hb];decide)]
    rw [hc,iC r acc x hr]
    have:((x,NameKind.free)∈(n,k)::r)↔(x,NameKind.free)∈r:=by
     constructor
     ·intro z
      rcases List.mem_cons.mp z with q|q
      ·exact absurd (congrArg Prod.snd q).symm hk
      ·exact q
     ·exact List.mem_cons_of_mem _
    simp only [this]
theorem jt (env:Env):∀(ns:List (Str×NameKind)) (x:Str),
 (ns.map fun (n,k)=>if (k == .free&&env.scope.kind == .function&&env.kindOf n==some .cell) then (n,NameKind.cell) else (n,k)).lookup x =
   (ns.lookup x).map fun k=>if (k == .free&&env.scope.kind == .function&&env.kindOf x==some .cell)=true then NameKind.cell else k
 | [],x=>rfl
 | (n,k)::r,x=>by
   show List.lookup x ((if (k==NameKind.free&&env.scope.kind == .function&&env.kindOf n==some .cell)=true then (n,NameKind.cell) else (n,k))::_)=_;cases hx:x==n with
   | true=>
     have e:x=n:=by simpa using hx
     subst e
     by_cases hc:(k==NameKind.free&&env.scope.kind == .function&&env.kindOf x==some .cell)=true
     ·rw [if_pos hc];simp only [List.lookup_cons,hx,Option.map_some,if_pos hc]
     ·rw [if_neg hc];simp only [List.lookup_cons,hx,Option.map_some,if_neg hc]
   | false=>
     have ih:=jt env r x
     by_cases hc:(k==NameKind.free&&env.scope.kind == .function&&env.kindOf n==some .cell)=true
     ·rw [if_pos hc];simp only [List.lookup_cons,hx];exact ih
     ·rw [if_neg hc];simp only [List.lookup_cons,hx];exact ih
structure bh (N own:List Str) (caps:List Nat) (XN:List Str) (outer scope:Scope):Prop where
 kind:scope.kind = .function
 Jq:∀y∈scope.names,y.2 ≠ .cell
 names:∀y∈scope.names,y.2 = .local->scope.names.lookup y.1=some .local
 free:∀y∈scope.names,y.2 = .free->outer.names.lookup y.1=some .cell\/outer.names.lookup y.1=some .free
 nd:N.Nodup
 len:N.length=own.length+caps.length
 cap:∀(j:Nat),j<caps.length->N[own.length+j]? = XN[caps.getD j 0]? /\ ∃x,N[own.length+j]? = some x/\(x,NameKind.free)∈scope.names/\scope.names.lookup x=some .free
def st0 (own:List Str) (caps:List Nat) (σ:St):St:=own.map (fun _=>none)++caps.map (fun i=>(σ[i]?).join)
def eH (X:Cx) (scope:Scope) (C:Addr) (N:List Str) (s:Shared) (H:Hp) (fp:List Addr):Cx:=
 {X with N:=N,s₀:=s,H₀:=H,env:=compEnvC scope (m9 X.env scope.names []) C X.env,outer:=X.stack,ex:=fp,fn:=fun _=>false,pn:=[],xe:=fun _ _=>False}
section
variable {X:Cx} {pins:List (Addr×Obj)} {σ:St} {H:Hp} {s:Shared} {scope:Scope} {N own:List Str} {caps:List Nat} {fp:List Addr} {C:Nat}
theorem bh.Ke (S:bh N own caps X.N X.env.scope scope) (ok:X.Ok):∀y∈scope.names,y.2 = .free->(X.env.cells.lookup y.1).isSome=true:=fun y hy hf=>by
 obtain ⟨c,e⟩:=ok.has y.1 (S.free y hy hf);rw [e];rfl
theorem bh.csub (S:bh N own caps X.N X.env.scope scope) (ok:X.Ok) {x:Str} {c:Addr} (h:(m9 X.env scope.names []).lookup x=some c):X.env.cells.lookup x=some c:=by
 rw [iC _ _ _ (S.Ke ok)] at h;split at h
 ·exact h
 ·simp at h
theorem bh.Jw {S:bh N own caps X.N X.env.scope scope} {x:Str} (h:(relabel scope X.env).names.lookup x=some .cell\/(relabel scope X.env).names.lookup x=some .free):(x,NameKind.free)∈scope.names:=by
 have e:=jt X.env scope.names x;have e':(relabel scope X.env).names.lookup x=(scope.names.lookup x).map fun k=>if (k == .free&&X.env.scope.kind == .function&&X.env.kindOf x==some .cell)=true then NameKind.cell else k:=e;rw [e'] at h;cases q:scope.names.lookup x with
 | none=>rw [q] at h;simp at h
 | some k=>
   have hm:=PySem.mem_of_lookup q
   by_cases hk:k = .free
   ·subst hk;exact hm
   ·rw [q] at h
    have hb:(k==NameKind.free)=false:=by simpa using hk
    simp only [Option.map_some,hb,Bool.false_and,Bool.false_eq_true,if_false] at h;rcases h with h|h
    ·exact absurd (Option.some.inj h) (S.Jq _ hm)
    ·exact absurd (Option.some.inj h) hk
theorem Inv.comp {h1:Heap} {D:Nat} (I:Inv X pins σ H s) (S:bh N own caps X.N X.env.scope scope) (hfp:∀b∈fp,nY X pins H b) (hfo:∀b∈fp,∃o,s.heap.get? b=some o)
 (hD:D=s.heap.objs.size) (hC:C=s.heap.objs.size+1) (old:∀b o,s.heap.get? b=some o->h1.get? b=some o) (hns:h1.Ns C (fun _=>none)) (hl:h1.get? D=some {cls:= .type "list",data:= .seq #[]}) {t:Nat}:
 Inv (eH X scope C N s H fp) [] (st0 own caps σ) (upd H D (.lst [])) {s with heap:=h1,toks:=t}:=by
 have some':=S.Ke I.ok;have sub:∀{x c},(m9 X.env scope.names []).lookup x=some c->X.env.cells.lookup x=some c:=fun h=>S.csub I.ok h;have freshD:H D=none:=I.hok.fresh (by rw [hD];exact Nat.le_refl _);have S6:H C=none:=I.hok.fresh (by rw [hC];exact Nat.le_succ _)
 have Tn:∀x c,X.env.cells.lookup x=some c->c<s.heap.objs.size:=fun x c e=>by
  obtain ⟨v,z⟩:=I.cell x c e;exact z.lt
 have abb:∀b∈fp,b<s.heap.objs.size:=fun b hb=>by
  obtain ⟨o,e⟩:=hfo b hb;exact Heap.lt_size e
 have DC:D≠C:=by omega
 refine ⟨⟨I.ok.mod,S.kind,I.ok.glob,I.ok.blt,by show s.heap.objs.size<=C;omega,fun x y c e1 e2=>I.ok.inj x y c (sub e1) (sub e2),fun x h=> ?_,fun x c h=>(by cases h),I.ok.hd,I.ok.frames,Or.inl rfl,fun b hb=>⟨?_,fun x c e=> ?_⟩,I.bs,Nat.le_trans I.ok.CP I.sz,fun b o e hb=> ?_,fun b hb z=> ?_,I.stack,I.wM⟩,
  rfl,I.bare,Un.laid old (by show s.heap.objs.size<=D;omega) freshD,⟨_,hns,fun j x v e1 e2 e3=> ?_⟩,fun x c e=> ?_, ?_,fun x c e=> ?_,fun p hp=> ?_,I.hok.laid old (by omega) ?_, ?_⟩
 ·have hm:=bh.Jw (S:=S) (X:=X) h
  obtain ⟨c,e⟩:=Option.isSome_iff_exists.mp (some' _ hm rfl);exact ⟨c,by show (m9 X.env scope.names []).lookup x=_;rw [iC _ _ _ some',if_pos hm];exact e⟩
 ·exact Nat.ne_of_lt (show @LT.lt Nat _ b C by have:=uD (abb b hb);omega)
 ·exact (hfp b hb).2.2.2.2.1 x c (sub e)
 ·rcases (hfp b hb).2.2.2.1 with z|z
  ·exact I.ok.yh b o e z
  ·exact absurd (Nat.lt_of_lt_of_le (Heap.lt_size e) (Nat.le_trans I.ok.CP z)) (Nat.lt_irrefl _)
 ·rcases List.mem_cons.mp (I.tD b z) with q|q
  ·exact (hfp b hb).2.1 q
  ·exact (hfp b hb).2.2.1 q
 ·have e1:N[j]? = some x:=e1
  have hj:own.length<=j:=by
   by_cases q:own.length<=j
   ·exact q
   ·exfalso
    unfold st0 at e2;rw [List.getElem?_append_left (by simp;omega),List.getElem?_map] at e2;cases r:own[j]? with
    | none=>rw [r] at e2;cases e2
    | some a=>rw [r] at e2;cases e2
  have hjl:j<N.length:=(List.getElem?_eq_some_iff.mp e1).1;have hjc:j - own.length<caps.length:=by have:=S.len;omega
  obtain ⟨c1,x',c2,c3,c4⟩:=S.cap (j - own.length) hjc;rw [show own.length+(j - own.length)=j by omega] at c1 c2;rw [e1] at c2;cases c2
  have e2':(σ[caps.getD (j - own.length) 0]?).join=some v:=by
   unfold st0 at e2;rw [List.getElem?_append_right (by simp;omega),List.getElem?_map,List.length_map] at e2;rw [List.getD_eq_getElem?_getD];cases r:caps[j - own.length]? with
   | none=>rw [r] at e2;cases e2
   | some a=>rw [r] at e2;exact Option.some.inj e2
  have abx:σ[caps.getD (j - own.length) 0]? = some (some v):=by
   cases r:σ[caps.getD (j - own.length) 0]? with
   | none=>rw [r] at e2';cases e2'
   | some a=>rw [r] at e2';exact congrArg Option.some e2'
  have kx:X.env.kindOf x=some .cell\/X.env.kindOf x=some .free:=S.free _ c3 rfl;obtain ⟨m,hn,hl'⟩:=I.loc;obtain ⟨u,r,l⟩:=hl' _ x v (by rw [←c1];exact e1) abx (by rcases kx with z|z;exact .inr (.inl z);exact .inr (.inr z));refine ⟨u,r,.inr ⟨?_, ?_⟩⟩
  ·show (relabel scope X.env).names.lookup x=some .cell\/(relabel scope X.env).names.lookup x=some .free
   have e:(relabel scope X.env).names.lookup x=(scope.names.lookup x).map fun k=>if (k == .free&&X.env.scope.kind == .function&&X.env.kindOf x==some .cell)=true then NameKind.cell else k:=jt X.env scope.names x;rw [e,c4,Option.map_some];split
   ·exact .inl rfl
   ·exact .inr rfl
  ·rcases l with ⟨hk,_⟩|⟨_,c,hc,z⟩
   ·rcases kx with q|q<;>rw [hk] at q<;>cases q
   ·refine ⟨c, ?_, ?_⟩
    ·show (m9 X.env scope.names []).lookup x=_
     rw [iC _ _ _ some',if_pos c3];exact hc
    ·obtain ⟨o,ho,hd⟩:=z
     exact ⟨o,old c o ho,hd⟩
 ·obtain ⟨v,o,ho,hd⟩:=I.cell x c (sub e)
  exact ⟨v,o,old c o ho,hd⟩
 ·show upd H D (.lst []) C=none
  rw [aD DC.symm];exact S6
 ·show upd H D (.lst []) c=none
  rw [aD (Nat.ne_of_lt (by have:=uD (Tn x c (sub e));omega))];exact I.iB x c (sub e)
 ·cases hp
 ·exact ⟨Nat.zero_le _,[],0,.nil,hl⟩
 ·show (own.map (fun _=>none)++caps.map _).length=N.length
  rw [List.length_append,List.length_map,List.length_map,S.len]
theorem Inv.HJ {lO:List (Addr×Obj)} {σ':St} {H':Hp} {s':Shared} {h':Heap} (I:Inv X pins σ H s) (hfp:∀b∈fp,nY X pins H b) (hC:s.heap.objs.size<=C) (J:Inv (eH X scope C N s H fp) lO σ' H' s') (hs:Heap.SameBut C s'.heap h'):
 Inv X pins σ H' {s' with heap:=h'}:=by
 have nC:∀b o,s.heap.get? b=some o->b≠C:=fun b o e=>Nat.ne_of_lt (by have:=uD (Heap.lt_size e);omega);have u:=J.base;have frC:H' C=none:=J.free;refine I.call' (ch:=fp) (s':={s' with heap:=h'}) J.os ⟨fun b o e n hb hx=> ?_,fun b o e n hb hx=> ?_,u.free,fun b o e hx=> ?_,u.tups,u.qU,u.rK⟩ (fun a o e=>(J.hok a o e).stay (fun b v hb q=> ?_) (fun _ q=>q) fun _ _ q=>q) J.bare fun b hb=> ?_
 ·exact (hs.2 b (nC b o e)).trans (u.keep b o e n hb hx)
 ·obtain ⟨sl,q⟩:=u.slot b o e n hb hx
  exact ⟨sl,(hs.2 b (nC b o e)).trans q⟩
 ·obtain ⟨o',q⟩:=u.there b o e hx
  exact ⟨o',(hs.2 b (nC b o e)).trans q⟩
 ·refine (hs.2 b ?_).trans q
  intro z;subst z;rcases hb with z|z
  ·subst z;rw [frC] at e;cases e
  ·rw [frC] at z;cases z
 ·exact ⟨(hfp b hb).2.2.2.1,(hfp b hb).2.1,(hfp b hb).2.2.2.2.1,(hfp b hb).2.2.2.2.2⟩
end
section
variable {prog:Program} {w:World} {A:Around} {R:Result->Shared->Prop} {s:Shared}
theorem yJ {elt target iter:Expr} {ifs:List Expr} {scope:Scope} {pos:Pos} {it acc:Value} {env:Env} (I:Nat->Shared->Prop)
 (turn:∀n s,I n s->wpAny (model prog w) A (pyNext it) (fun r s1=>match r with
   | none=>R (.ok .next) s1
   | some v=>wpAny (model prog w) A (letOwnedTupleGo target it v) (fun _ s1'=>wpAny (model prog w) A (assign target env v) (fun _ s2=>
      wpAny (model prog w) A (forIn ifs true fun c r=>if r=true then do let ok ←isTrue c env (eval c env);pure (ForInStep.yield ok) else pure (ForInStep.yield r)) (fun ok s3=>
       if ok=true then wpAny (model prog w) A (eval elt env) (fun x s4=>
        wpAny (model prog w) A (call (.builtin "list.append") [acc,x]) (fun _ s5=>∃m,m<n/\I m s5) (fun _ _=>False) s4) (fun _ _=>False) s3
       else ∃m,m<n/\I m s3) (fun _ _=>False) s2) (fun _ _=>False) s1') (fun _ _=>False) s1) (fun _ _=>False) s)
 (n:Nat) (h:I n s):
 codeAny (model prog w) A (.compLoop (.ListComp elt [⟨target,iter,ifs,0⟩] scope pos) 0 it acc env) R s:=by
 refine codeAny_loop rfl I (fun n s hI=> ?_) n h;show wpAny _ A ((compTurn (.ListComp elt [⟨target,iter,ifs,0⟩] scope pos) 0 it acc env).onRaise (fun x=>do noteFrame x env;theTreesLotGoes x)) _ _ s;refine wpAny_noted ?_;rw [compTurn_list];refine wpAny_bind (wpAny_standAt (wpAny_bind (wpAny_mono (turn n s hI) (fun r s1 h1=> ?_) fun _ _ h'=>h'.elim)));cases r with
 | none=>exact wpAny_pure h1
 | some v=>
   refine wpAny_bind (wpAny_mono h1 (fun _ s1' h1'=> ?_) fun _ _ h'=>h'.elim);refine wpAny_bind (wpAny_mono h1' (fun _ s2 h2=>wpAny_bind (wpAny_mono h2 (fun ok s3 h3=> ?_) fun _ _ h'=>h'.elim)) fun _ _ h'=>h'.elim);cases ok with
   | false=>exact wpAny_pure ⟨rfl,h3⟩
   | true=>
     exact wpAny_bind (wpAny_bind (wpAny_mono h3 (fun x s4 h4=>wpAny_bind (wpAny_mono h4 (fun _ s5 h5=>wpAny_pure (wpAny_pure ⟨rfl,h5⟩)) fun _ _ h'=>h'.elim)) fun _ _ h'=>h'.elim))
end
def Xw (X:Cx) (ifs:List Expr) (t:TT):Prop:=
 ∀(pins:List (Addr×Obj)) (s:Shared) (σ:St) (H:Hp) (Q:Bool->Hp->Prop),Inv X pins σ H s->t σ H Q ->
  wpAny (model X.prog X.w) X.A (forIn ifs true fun c r=>if r=true then do let ok ←isTrue c X.env (eval c X.env);pure (ForInStep.yield ok) else pure (ForInStep.yield r)) (TP X pins σ Q) X.xe s
def oJ:TT:=fun _ H Q=>Q true H
theorem cB {X:Cx}:Xw X [] oJ:=fun _ _ _ H _ I h=>wpAny_tests_nil ⟨H,I,h⟩
theorem xU {X:Cx} {c:Expr} {t:TT} (h:PT X c t):Xw X [c] t:=fun pins s σ H Q I q=>wpAny_tests_one (h pins s σ H Q I q)
def jF (J:It) (g:TG) (tc:TT) (te:TE) (Q:VK) (D:Addr) (σ0:St) (H1:Hp):Prop:=
 ∃W:Nat->Nat->St->Hp->Prop,(∃m,W 0 m σ0 (upd H1 D (.lst []))) /\ ∀i m σ H,W i m σ H ->
  (J.stop i H/\Q (.ref D) H)\/(J.go i H /\ ∃N:St->Hp->Prop,(∀σ' H',N σ' H' -> ∃m',m'<m/\W (i+1) m' σ' H') /\ ∀x H',J.Ui i H x H'->g x σ H' fun σ2 H2=>tc σ2 H2 fun b H3=>
    if b=true then te σ2 H3 fun y H4=>∃acc,H4 D=some (.lst acc)/\acc.length<sizeLine/\N σ2 (upd H4 D (.lst (acc++[y]))) else N σ2 H3)
def HY (own:List Str) (caps:List Nat) (wi:TI) (g:TG) (tc:TT) (te:TE):TE:=fun σ H Q=>wi σ H fun J H1=>∀D,H1 D=none->jF J g tc te Q D (st0 own caps σ) H1
section
variable {X:Cx} {elt tg iter:Expr} {ifs:List Expr} {scope:Scope} {pos:Pos} {N own:List Str} {caps:List Nat} {wi:TI} {g:TG} {tc:TT} {te:TE}
theorem Ak {use:Option (Value->Sem Unit)} {Qv:Value->Shared->Prop} {pins:List (Addr×Obj)} {σ:St} {H:Hp} {s:Shared} {Q:VK} (hc:X.calm=true) (S:bh N own caps X.N X.env.scope scope)
 (hg:∀C s H fp,PG (eH X scope C N s H fp) tg g) (hcs:∀C s H fp,Xw (eH X scope C N s H fp) ifs tc) (he:∀C s H fp,PE (eH X scope C N s H fp) elt te)
 (hi:PI X tg iter wi) (hs:∀x,foldedSetIterable iter X.env x=pure x)
 (I:Inv X pins σ H s) (h:HY own caps wi g tc te σ H Q)
 (fin:∀(D C:Addr) (H':Hp) (s':Shared),(∃m,s'.heap.Ns C m)->Inv X pins σ H' s'->(∀h',Heap.SameBut C s'.heap h'->Inv X pins σ H' {s' with heap:=h'})->nY X pins H' C->Q (.ref D) H' ->
   compPost (model X.prog X.w) X.A X.xe use Qv (.ref D) C (.ok .next) s'):
 wpAny (model X.prog X.w) X.A (comprehension (.ListComp elt [⟨tg,iter,ifs,0⟩] scope pos) scope X.env (firstIterPos [⟨tg,iter,ifs,0⟩] pos) (newList []) false (eval iter X.env) use) Qv X.xe s:=by
 refine wpAny_comprehension_free (use:=use) rfl hs (Cz (S.Ke I.ok)) S.kind S.names (dH (hi pins s σ H _ I h) fun xv s1 h1=>dH h1 fun itv s2 h2=> ?_);obtain ⟨it,fp,tn,J,H2,e,I2,T,st2,f2,q2⟩:=h2;subst e;refine wpAny_newList ?_;refine wpAny_newFunctionEnv S.Jq (by intro y hy;simp at hy) (fun h1 WK hsb1=> ?_) S.kind;dsimp only at WK hsb1 ⊢;have hD:H2 s2.heap.objs.size=none:=I2.hok.fresh (Nat.le_refl _);have hsz:(s2.heap.push {cls:= .type "list",data:= .seq ([]:List Value).toArray}).objs.size=s2.heap.objs.size+1:=Heap.size_push ..
 have old:∀b o,s2.heap.get? b=some o->h1.get? b=some o:=fun b o e=>by
  refine hsb1.extBut b o (Nat.ne_of_lt (by have:=uD (Heap.lt_size e);rw [hsz];omega)) (Heap.get?_push_of_some _ (Heap.get?_push_of_some _ e))
 have hl:h1.get? s2.heap.objs.size=some {cls:= .type "list",data:= .seq #[]}:=
  hsb1.extBut _ _ (Nat.ne_of_lt (by rw [hsz];omega)) (Heap.get?_push_of_some _ (Heap.get?_push_size _ rfl))
 have hfo:∀b∈fp,∃o,s2.heap.get? b=some o:=fun b hb=>let ⟨o,e,_⟩:=T.obj _ _ st2 b hb;⟨o,e⟩
 have I4:=Inv.comp (C:=(s2.heap.push {cls:= .type "list",data:= .seq ([]:List Value).toArray}).objs.size) (t:=s2.toks+([]:List (Str×Value)).length) I2 S f2 hfo rfl hsz old WK hl;obtain ⟨W,⟨m0,w0⟩,turn⟩:=q2 _ hD;generalize hCe:(s2.heap.push {cls:= .type "list",data:= .seq ([]:List Value).toArray}).objs.size=C at *;generalize hDe:s2.heap.objs.size=D at *;have hDC:D≠C:=by omega
 have loop:∀s3:Shared,s3={s2 with heap:=h1,toks:=s2.toks+([]:List (Str×Value)).length} ->
  codeAny (model X.prog X.w) X.A (.compLoop (.ListComp elt [⟨tg,iter,ifs,0⟩] scope pos) 0 (.ref it) (.ref D) (eH X scope C N s2 H2 fp).env) (compPost (model X.prog X.w) X.A X.xe use Qv (.ref D) C) s3:=by
  rintro s3 rfl
  have Af:∀b∈fp,(upd H2 D (.lst [])) b=none:=fun b hb=>by
   obtain ⟨o,e⟩:=hfo b hb;rw [aD (Nat.ne_of_lt (by have:=uD (Heap.lt_size e);omega))];exact (f2 b hb).1
  have stat:∀{H':Hp},(∀b∈fp,H' b=none) -> ∀b∈fp,nY (eH X scope C N s2 H2 fp) [] H' b:=fun hn b hb=>by
   obtain ⟨o,e⟩:=hfo b hb;have hlt:=uD (Heap.lt_size e);refine ⟨hn b hb, ?_,fun z=> ?_,.inl hb,fun x c e'=>(f2 b hb).2.2.2.2.1 x c (S.csub I2.ok e'),fun p hp=>(by cases hp)⟩
   ·exact Nat.ne_of_lt (show @LT.lt Nat _ b C by omega)
   ·rcases List.mem_cons.mp (I2.tD b z) with q|q
    ·exact (f2 b hb).2.1 q
    ·exact (f2 b hb).2.2.1 q
  refine yJ (fun n s'=>∃i σ' H',Inv (eH X scope C N s2 H2 fp) [] σ' H' s'/\tn i s'.heap/\(∀b∈fp,H' b=none)/\W i n σ' H') ?_ m0
   ⟨0,_,_,I4,T.keep _ _ _ st2 fun b _ o e=>old b o e,Af,w0⟩
  rintro n s3 ⟨i,σ3,H3,I3,st3,W0,w3⟩;rcases turn i n σ3 H3 w3 with ⟨stop,qn⟩|⟨go,Nx,hNx,step⟩
  ·refine dH (T.done (eH X scope C N s2 H2 fp) rfl rfl rfl hc i [] s3 σ3 H3 _ I3 (stat W0) st3 stop) fun r s4 ⟨hr,J4⟩=> ?_
   subst hr;obtain ⟨m4,hn4,_⟩:=J4.loc;exact fin D C H3 s4 ⟨m4,hn4⟩ (I2.HJ f2 (by omega) J4 (Heap.SameBut.refl _ _)) (fun h' hs'=>I2.HJ f2 (by omega) J4 hs') (I2.yG (show s2.heap.objs.size<=C by omega) J4.free) qn
  ·refine dH (T.item (eH X scope C N s2 H2 fp) rfl rfl rfl hc i [] s3 σ3 H3 _ I3 (stat W0) st3 go) fun r s4 ⟨u,hr,h4⟩=> ?_
   subst hr;refine dH h4 fun _ s5 ⟨x,H5,I5,r5,y5,vm,fr5⟩=> ?_;have I5':=I5.pinned (stat fr5) (T.obj _ _ vm);refine dH (hg C s2 H2 fp _ s5 σ3 H5 x u _ I5' r5 (step x H5 y5)) fun _ s6 ⟨σ6,H6,I6,q6⟩=> ?_;refine dH (hcs C s2 H2 fp _ s6 σ6 H6 _ I6 q6) fun ok s7 ⟨H7,I7,q7⟩=> ?_
   have again:∀{σ8:St} {H8:Hp} {s8:Shared},Inv (eH X scope C N s2 H2 fp) ([]++ux fp s5.heap) σ8 H8 s8->Nx σ8 H8 -> ∃m,m<n /\ ∃i σ' H',Inv (eH X scope C N s2 H2 fp) [] σ' H' s8/\tn i s8.heap/\(∀b∈fp,H' b=none)/\W i m σ' H':=fun {σ8 H8 s8} I8 n8=>by
    obtain ⟨m',hm,w8⟩:=hNx _ _ n8;refine ⟨m',hm,i+1,σ8,H8,I8.pN,T.keep _ _ _ vm fun b hb o e=>(I8.pin (b,o) (List.mem_append_right _ (List.mem_append_right _ (kZ hb e)))).1,fun b hb=> ?_,w8⟩;obtain ⟨o,e,d⟩:=T.obj _ _ vm b hb;exact (I8.pin (b,o) (List.mem_append_right _ (List.mem_append_right _ (kZ hb e)))).2.1
   cases ok with
   | false=>
     rw [if_neg (by decide)] at q7;exact again I7 q7
   | true=>
     rw [if_pos rfl] at q7;refine dH (he C s2 H2 fp _ s7 σ6 H7 _ I7 q7) fun y s8 ⟨yv,H8,I8,r8,acc,ha,hlen,q8⟩=> ?_;exact dH (vX _ s8 σ6 H8 (.ref D) [yv] (.ref D) [y] (fun v H9=>Nx σ6 H9) I8 rfl (.cons r8 .nil) ⟨D,acc,yv,rfl,rfl,ha,hlen,q8⟩) fun _ s9 ⟨_,H9,I9,_,q9⟩=>again I9 q9
 exact codeAny_compStart_list (loop _ rfl) (T.self _ 0 _ _ _ (T.keep _ _ _ st2 fun b _ o e=>old b o e) (loop _ rfl))
theorem cI (hc:X.calm=true) (S:bh N own caps X.N X.env.scope scope) (hi:PI X tg iter wi)
 (hg:∀C s H fp,PG (eH X scope C N s H fp) tg g) (hcs:∀C s H fp,Xw (eH X scope C N s H fp) ifs tc) (he:∀C s H fp,PE (eH X scope C N s H fp) elt te)
 (hs:∀x,foldedSetIterable iter X.env x=pure x:=by intro _;rfl):PE X (.ListComp elt [⟨tg,iter,ifs,0⟩] scope pos) (HY own caps wi g tc te):=by
 intro pins s σ H Q I h;rw [eval_ListComp];refine Ak (use:=none) hc S hg hcs he hi hs I h ?_;intro D C H' s' hn I' hk _ q;obtain ⟨m,hn⟩:=hn;exact ⟨m,hn,fun h' hs'=>⟨.ref D,H',hk h' hs',rfl,q⟩⟩
theorem pX {i:Nat} {x:Str} {px sp:Pos} (hc:X.calm=true) (hN:X.N.Nodup) (hx:X.N[i]? = some x) (hl:Loc X.env.scope x) (S:bh N own caps X.N X.env.scope scope) (hi:PI X tg iter wi)
 (hg:∀C s H fp,PG (eH X scope C N s H fp) tg g) (hcs:∀C s H fp,Xw (eH X scope C N s H fp) ifs tc) (he:∀C s H fp,PE (eH X scope C N s H fp) elt te)
 (hsw:swapsWith (.ListComp elt [⟨tg,iter,ifs,0⟩] scope pos) (some (.Name x px)) sp.line X.env=pure true:=by rfl)
 (hs:∀x,foldedSetIterable iter X.env x=pure x:=by intro _;rfl) (hf:X.fn x=true\/X.env.scope.names.lookup x=some .local:=by first |exact .inl rfl|exact .inr rfl|assumption):
 PS X (.Assign [.Name x px] (.ListComp elt [⟨tg,iter,ifs,0⟩] scope pos) sp) (Fw (HY own caps wi g tc te) (bV i)):=by
 intro pins s σ H D I h;rw [exec_Assign_Name_used _ _ _ _ hsw];refine wpAny_bind (wpAny_standAt (wpAny_bind ?_));show wpAny _ X.A (do let _ ←comprehension (.ListComp elt [⟨tg,iter,ifs,0⟩] scope pos) scope X.env (firstIterPos [⟨tg,iter,ifs,0⟩] pos) (newList []) false (eval iter X.env) (some (assign (.Name x px) X.env))) _ _ s;refine wpAny_bind (wpAny_mono (Ak (use:=some (assign (.Name x px) X.env)) (Qv:=fun _ s'=>SP X pins D .next s') hc S hg hcs he hi hs I h ?_) (fun _ s' hq=>wpAny_pure (wpAny_pure hq)) fun _ _ e=>e);intro E C H' s' hn I' hk fC q;obtain ⟨m,hn⟩:=hn;obtain ⟨f0,f1,f2,f3,f4,f5⟩:=fC;show wpAny _ X.A (assign (.Name x px) X.env (.ref E)) _ _ _;refine wpAny_assign_Name (vL I' hN hx hl (v:= .ref E) rfl (fun s2 I2 k=> ?_) hf);refine ⟨m, ?_,fun h' hs'=> ?_⟩
 ·obtain ⟨o,es,ep,ho,r⟩:=hn
  obtain ⟨a,ks,ka⟩:=k
  have hCa:C≠a:=fun z=>by
   rcases ka with q'|q'
   ·exact f1 (z.trans q')
   ·exact f4 x a q' z.symm
  exact ⟨o,es,ep,(ks.2 C hCa).trans ho,r⟩
 ·exact ⟨_,H',I2.turned (t':=s2.toks) (fun b o hb e=>(hs'.2 b hb).trans e) f0 f1 f3 f4 f5,q⟩
end
def Kg (N own:List Str) (caps:List Nat) (XN:List Str) (outer scope:Scope):Bool:=
 decide (scope.kind = .function)&&scope.names.all (fun y=>decide (y.2 ≠ .cell))&&scope.names.all (fun y=>decide (y.2 ≠ .local)||decide (scope.names.lookup y.1=some .local)) &&
 scope.names.all (fun y=>decide (y.2 ≠ .free)||decide (outer.names.lookup y.1=some .cell)||decide (outer.names.lookup y.1=some .free))&&decide N.Nodup&&decide (N.length=own.length+caps.length) &&
 (List.range caps.length).all (fun j=>match N[own.length+j]? with |some x=>decide (XN[caps.getD j 0]? = some x)&&decide ((x,NameKind.free)∈scope.names)&&decide (scope.names.lookup x=some .free)|none=>false)
theorem bh.of {N own:List Str} {caps:List Nat} {XN:List Str} {outer scope:Scope} (h:Kg N own caps XN outer scope=true):bh N own caps XN outer scope:=by
 unfold Kg at h;simp only [Bool.and_eq_true,decide_eq_true_eq,List.all_eq_true,Bool.or_eq_true] at h;obtain ⟨⟨⟨⟨⟨⟨h1,h2⟩,h3⟩,h4⟩,h5⟩,h6⟩,h7⟩:=h;refine ⟨h1,h2,fun y hy e=> ?_,fun y hy e=> ?_,h5,h6,fun j hj=> ?_⟩
 ·rcases h3 y hy with z|z
  ·exact absurd e z
  ·exact z
 ·rcases h4 y hy with (z|z)|z
  ·exact absurd e z
  ·exact .inl z
  ·exact .inr z
 ·have q:=h7 j (List.mem_range.mpr hj)
  cases e:N[own.length+j]? with
  | none=>rw [e] at q;cases q
  | some x=>
    rw [e] at q;simp only [Bool.and_eq_true,decide_eq_true_eq] at q;exact ⟨q.1.1.symm,x,rfl,q.1.2,q.2⟩
end L2
set_option Elab.async false
set_option linter.all false
set_option maxRecDepth 100000
set_option maxHeartbeats 4000000
namespace L2
open PySem PySem.Spec PyProof.Rows
mutual
def Dat (H:Hp):V->PyData->Prop
 | v,.none=>v = .non
 | v,.bool b=>v = .bl b
 | v,.int i=>v = .int i
 | v,.str x=>v = .str x
 | v,.list ds=>∃a vs,v = .ref a/\H a=some (.lst vs)/\bH H vs ds
 | v,.tuple ds=>∃a vs,v = .ref a/\H a=some (.tup vs)/\bH H vs ds
 | _,.dict _=>False
def bH (H:Hp):List V->List PyData->Prop
 | [],[]=>True
 | v::vs,d::ds=>Dat H v d/\bH H vs ds
 | [],_::_=>False
 | _::_,[]=>False
end
section
variable {H H':Hp}
theorem bH.length:∀{vs:List V} {ds:List PyData},bH H vs ds->vs.length=ds.length
 | [],[],_=>rfl
 | _::_,_::_,h=>by simp only [bH] at h;simp [bH.length h.2]
 | [],_::_,h=>by simp only [bH] at h
 | _::_,[],h=>by simp only [bH] at h
theorem bH.get:∀{vs:List V} {ds:List PyData} {i:Nat} {v:V},bH H vs ds->vs[i]? = some v -> ∃d,ds[i]? = some d/\Dat H v d
 | _::_,_::_,0,_,h,e=>by simp only [bH] at h;simp at e;subst e;exact ⟨_,rfl,h.1⟩
 | _::_,_::_,i+1,_,h,e=>by simp only [bH] at h;simp at e;obtain ⟨d,q,r⟩:=bH.get h.2 e;exact ⟨d,by simpa using q,r⟩
 | [],[],_,_,_,e=>by simp at e
 | [],_::_,_,_,h,_=>by simp only [bH] at h
 | _::_,[],_,_,h,_=>by simp only [bH] at h
theorem bH.getD:∀{vs:List V} {ds:List PyData} {i:Nat} {d:PyData},bH H vs ds->ds[i]? = some d -> ∃v,vs[i]? = some v/\Dat H v d
 | _::_,_::_,0,_,h,e=>by simp only [bH] at h;simp at e;subst e;exact ⟨_,rfl,h.1⟩
 | _::_,_::_,i+1,_,h,e=>by simp only [bH] at h;simp at e;obtain ⟨d,q,r⟩:=bH.getD h.2 e;exact ⟨d,by simpa using q,r⟩
 | [],[],_,_,_,e=>by simp at e
 | [],_::_,_,_,h,_=>by simp only [bH] at h
 | _::_,[],_,_,h,_=>by simp only [bH] at h
theorem bH.append:∀{vs ws:List V} {ds es:List PyData},bH H vs ds->bH H ws es->bH H (vs++ws) (ds++es)
 | [],_,[],_,_,g=>g
 | _::_,_,_::_,_,h,g=>by simp only [bH,List.cons_append] at h ⊢;exact ⟨h.1,bH.append h.2 g⟩
 | [],_,_::_,_,h,_=>by simp only [bH] at h
 | _::_,_,[],_,h,_=>by simp only [bH] at h
theorem bH.ints (ns:List Int):bH H (ns.map V.int) (ns.map PyData.int):=by
 induction ns with
 | nil=>simp only [List.map_nil,bH]
 | cons n r ih=>simp only [List.map_cons,bH,Dat];exact ⟨trivial,ih⟩
mutual
theorem Dat.mono (hl:∀a xs,H a=some (HO.lst xs)->H' a=some (HO.lst xs)) (ht:∀a xs,H a=some (HO.tup xs)->H' a=some (HO.tup xs)):∀(d:PyData) {v:V},Dat H v d->Dat H' v d
 | .none,_,h=>by simp only [Dat] at h ⊢;exact h
 | .bool _,_,h=>by simp only [Dat] at h ⊢;exact h
 | .int _,_,h=>by simp only [Dat] at h ⊢;exact h
 | .str _,_,h=>by simp only [Dat] at h ⊢;exact h
 | .list ds,_,h=>by simp only [Dat] at h ⊢;obtain ⟨a,vs,e,q,r⟩:=h;exact ⟨a,vs,e,hl _ _ q,bH.mono hl ht ds r⟩
 | .tuple ds,_,h=>by simp only [Dat] at h ⊢;obtain ⟨a,vs,e,q,r⟩:=h;exact ⟨a,vs,e,ht _ _ q,bH.mono hl ht ds r⟩
 | .dict _,_,h=>by simp only [Dat] at h
theorem bH.mono (hl:∀a xs,H a=some (HO.lst xs)->H' a=some (HO.lst xs)) (ht:∀a xs,H a=some (HO.tup xs)->H' a=some (HO.tup xs)):∀(ds:List PyData) {vs:List V},bH H vs ds->bH H' vs ds
 | [],[],_=>by simp only [bH]
 | d::ds,v::vs,h=>by simp only [bH] at h ⊢;exact ⟨Dat.mono hl ht d h.1,bH.mono hl ht ds h.2⟩
 | _::_,[],h=>by simp only [bH] at h
 | [],_::_,h=>by simp only [bH] at h
end
mutual
def Ei:PyData->Bool
 | .tuple ds=>qR ds
 | .list _ | .dict _=>false
 | .none | .bool _ | .int _ | .str _=>true
def qR:List PyData->Bool
 | []=>true
 | d::ds=>Ei d&&qR ds
end
mutual
theorem Dat.keep (ht:∀a xs,H a=some (HO.tup xs)->H' a=some (HO.tup xs)):∀(d:PyData) {v:V},Ei d=true->Dat H v d->Dat H' v d
 | .none,_,_,h=>by simp only [Dat] at h ⊢;exact h
 | .bool _,_,_,h=>by simp only [Dat] at h ⊢;exact h
 | .int _,_,_,h=>by simp only [Dat] at h ⊢;exact h
 | .str _,_,_,h=>by simp only [Dat] at h ⊢;exact h
 | .list ds,_,i,h=>by simp only [Ei] at i;cases i
 | .tuple ds,_,i,h=>by simp only [Dat] at h ⊢;simp only [Ei] at i;obtain ⟨a,vs,e,q,r⟩:=h;exact ⟨a,vs,e,ht _ _ q,bH.keep ht ds i r⟩
 | .dict _,_,_,h=>by simp only [Dat] at h
theorem bH.keep (ht:∀a xs,H a=some (HO.tup xs)->H' a=some (HO.tup xs)):∀(ds:List PyData) {vs:List V},qR ds=true->bH H vs ds->bH H' vs ds
 | [],[],_,_=>by simp only [bH]
 | d::ds,v::vs,i,h=>by simp only [bH] at h ⊢;simp only [qR,Bool.and_eq_true] at i;exact ⟨Dat.keep ht d i.1 h.1,bH.keep ht ds i.2 h.2⟩
 | _::_,[],_,h=>by simp only [bH] at h
 | [],_::_,_,h=>by simp only [bH] at h
end
theorem uI {α:Type} (f:α->PyData) (h:∀x,Ei (f x)=true):∀l:List α,qR (l.map f)=true
 | []=>rfl
 | a::l=>by simp only [List.map_cons,qR,h a,uI f h l,Bool.and_self]
end
section
variable {X:Cx} {pins:List (Addr×Obj)} {σ:St} {H:Hp} {s:Shared}
mutual
theorem Inv.reads (I:Inv X pins σ H s):∀(d:PyData) {v:V} {u:Value},Dat H v d->RelV v u -> ∃as,Reads s.heap u d as
 | .none,v,u,h,r=>by
   simp only [Dat] at h;subst h;cases (show u=Value.none from r);exact ⟨_,.none⟩
 | .bool b,v,u,h,r=>by
   simp only [Dat] at h;subst h;cases (show u=Value.bool b from r);exact ⟨_,.bool b⟩
 | .int i,v,u,h,r=>by
   simp only [Dat] at h;subst h;obtain ⟨t,q⟩:=(show ∃t,u=Value.int i t from r);cases q;exact ⟨_,.int i t⟩
 | .str x,v,u,h,r=>by
   simp only [Dat] at h;subst h;obtain ⟨t,q⟩:=(show ∃t,u=Value.str x t from r);cases q;exact ⟨_,.str x t⟩
 | .list ds,v,u,h,r=>by
   simp only [Dat] at h;obtain ⟨a,vs,rfl,q,g⟩:=h;cases (show u=Value.ref a from r);obtain ⟨its,rv,p,hz⟩:=I.list (aY.of q);obtain ⟨o,ho,hc,n,hd⟩:=p.isList;obtain ⟨as,ra⟩:=Inv.readsAll I ds g rv;exact ⟨_,.list ho hc hd (by simpa using ra)⟩
 | .tuple ds,v,u,h,r=>by
   simp only [Dat] at h;obtain ⟨a,vs,rfl,q,g⟩:=h;cases (show u=Value.ref a from r);obtain ⟨its,rv,p,hz⟩:=I.tuple (cu.of q);obtain ⟨o,ho,hc,n,hd⟩:=p;obtain ⟨as,ra⟩:=Inv.readsAll I ds g rv;exact ⟨_,.tuple ho hc hd (by simpa using ra)⟩
 | .dict _,_,_,h,_=>by simp only [Dat] at h
theorem Inv.readsAll (I:Inv X pins σ H s):∀(ds:List PyData) {vs:List V} {us:List Value},bH H vs ds->Vals vs us -> ∃as,ReadsAll s.heap us ds as
 | [],[],_,_,.nil=>⟨_,.nil⟩
 | d::ds,v::vs,_,h,.cons r rs=>by
   simp only [bH] at h;obtain ⟨as,ra⟩:=Inv.reads I d h.1 r;obtain ⟨bs,rb⟩:=Inv.readsAll I ds h.2 rs;exact ⟨_,.cons ra rb⟩
 | _::_,[],_,h,_=>by simp only [bH] at h
 | [],_::_,_,h,_=>by simp only [bH] at h
end
def Ly (neg:Bool):R2:=fun x y H Q=>∃d e,Dat H x d/\Dat H y e/\SeqAt.shaped d=true/\SeqAt.shaped e=true/\Q (.bl (if neg then !PyData.eqv d e else PyData.eqv d e)) H
theorem Rk (hu:X.A.units+64<cLine):nU X (compareOp .Eq) (Ly false):=by
 intro pins s σ H x y v u Q I rx ry h;obtain ⟨d,e,h1,h2,s1,s2,q⟩:=h;obtain ⟨as,ra⟩:=I.reads d h1 rx;obtain ⟨bs,rb⟩:=I.reads e h2 ry;exact SeqAt.compareEq_shaped ra rb s1 s2 hu ⟨.bl _,H,I,rfl,q⟩
theorem Rj (hu:X.A.units+64<cLine):nU X (compareOp .NotEq) (Ly true):=by
 intro pins s σ H x y v u Q I rx ry h;obtain ⟨d,e,h1,h2,s1,s2,q⟩:=h;obtain ⟨as,ra⟩:=I.reads d h1 rx;obtain ⟨bs,rb⟩:=I.reads e h2 ry;exact SeqAt.compareNe_shaped ra rb s1 s2 hu ⟨.bl _,H,I,rfl,q⟩
theorem Kl {c:Value} {cv:V} (rc:RelV cv c):iZ X (.builtin "isinstance") (fun xs H Q=>∃x t b,xs=[x,cv]/\pJ X.K H x t/\PySem.W.kitOne X.K t c=some b/\Q (.bl b) H):=by
 intro pins s σ H xs us Q I r h;obtain ⟨x,t,b,rfl,ty,e,q⟩:=h;obtain ⟨u,w',rfl,r1,r2⟩:=vals2 r
 have:w'=c:=by
  cases cv with
  | non=>exact (show w'=Value.none from r2).trans (show c=Value.none from rc).symm
  | bl b=>exact (show w'=Value.bool b from r2).trans (show c=Value.bool b from rc).symm
  | ref a=>exact (show w'=Value.ref a from r2).trans (show c=Value.ref a from rc).symm
  | ty n=>exact (show w'=Value.type n from r2).trans (show c=Value.type n from rc).symm
  | int i=>obtain ⟨t1,rfl⟩:=(show ∃t,c=Value.int i t from rc);unfold PySem.W.kitOne at e;exact absurd e (by cases ty<;>simp [PySem.W.kitCls])
  | str i=>obtain ⟨t1,rfl⟩:=(show ∃t,c=Value.str i t from rc);unfold PySem.W.kitOne at e;exact absurd e (by cases ty<;>simp [PySem.W.kitCls])
  | GZ i=>obtain ⟨t1,rfl⟩:=(show ∃t,c=Value.bytes i t from rc);unfold PySem.W.kitOne at e;exact absurd e (by cases ty<;>simp [PySem.W.kitCls])
  | flt i=>obtain ⟨t1,rfl⟩:=(show ∃t,c=Value.float i t from rc);unfold PySem.W.kitOne at e;exact absurd e (by cases ty<;>simp [PySem.W.kitCls])
 subst this;exact Gr I r1 ty e fun tk=>⟨.bl b,H,I.tok _,rfl,q⟩
end
section
variable {prog:Program} {w:World} {A:Around}
theorem sW (hh:A.handled=none) (it a:Addr) (hne:it≠a) (its:List Value):Walks prog w A it [it,a] [it] its.length (fun i v=>its[i]? = some v) (fun i h=>h.IsListIter it a i/\h.IsList a its.toArray) where
 sub:=by simp
 frame:=fun i h h' ⟨s1,o,ho,hc⟩ k=>⟨s1.at fun o e=>k it (by simp) o e,o,k a (by simp) o ho,hc⟩
 item:=fun i s Q E hi ⟨s1,s2⟩ hQ=>wpAny_pyNext_list_item s1 s2 (x:=its[i]) (by simp [hi]) fun h' st' sb=>
  hQ _ h' s.toks (by simp [hi]) ⟨st',s2.extBut sb.extBut hne.symm⟩ fun b o hb e=>(sb.2 b (by simpa using hb)).trans e
 done:=fun s Q E ⟨s1,s2⟩ hQ=>wpAny_pyNext_list_end hh s1 s2 (by simp) fun h' eb=>hQ h' s.toks fun b o hb e=>eb b o (by simpa using hb) e
 self:=fun i s Q E ⟨s1,_⟩ hQ=>wpAny_pyIter_listiter s1 hQ
end
section
variable {X:Cx}
theorem vq (bs:List Bool):(List.range bs.length).all (fun i=>(bs[i]?).getD false)=bs.all id:=by
 rw [Bool.eq_iff_iff,List.all_eq_true,List.all_eq_true];constructor
 ·intro h b hb
  obtain ⟨i,hi,rfl⟩:=List.getElem_of_mem hb;have:=h i (by simpa using hi);simpa [hi] using this
 ·intro h i hi
  have hi':i<bs.length:=by simpa using hi
  simpa [hi'] using h bs[i] (List.getElem_mem hi')
theorem Bg {bs:List Bool}:∀{us:List Value},Vals (bs.map V.bl) us->us=bs.map Value.bool:=by
 induction bs with
 | nil=>intro us r;cases r;rfl
 | cons b bs ih=>
   intro us r;cases r with
   | cons r rs=>cases (show _=Value.bool b from r);rw [ih rs];rfl
theorem uQ (hc:X.calm=true):iZ X (.builtin "all") (fun xs H Q=>∃(p:Addr) (bs:List Bool),xs=[.ref p]/\aY X.K H p (bs.map V.bl)/\Q (.bl (bs.all id)) H):=by
 intro pins s σ H xs us Q I r h;obtain ⟨p,bs,rfl,hq,q⟩:=h;obtain ⟨u,rfl,rx⟩:=vals1 r;cases rx;obtain ⟨its,rv,pl,hz⟩:=I.list hq;have e:=Bg rv;have hlen:its.length=bs.length:=by rw [e,List.length_map]
 refine call_all_walk (wpAny_pyIter_list pl.isList ⟨s.heap.objs.size,[s.heap.objs.size,p],[s.heap.objs.size],its.length,_,_,fun i=>(bs[i]?).getD false,rfl,
  sW (show X.A.in1.handled=none from I.ok.hd hc) s.heap.objs.size p ?_ its,⟨⟨_,Heap.get?_push_size _ rfl,rfl,rfl⟩, ?_⟩, ?_, ?_⟩)
 ·intro z
  obtain ⟨o,ho,_⟩:=pl.isList;have:=Heap.lt_size ho;rw [←z] at this;exact Nat.lt_irrefl _ this
 ·obtain ⟨o,ho,hcl⟩:=pl.isList
  exact ⟨o,Heap.get?_push_of_some _ ho,hcl⟩
 ·intro i v s1 Q1 E1 hP hQ
  rw [e,List.getElem?_map] at hP;cases r:bs[i]? with
  | none=>rw [r] at hP;cases hP
  | some b=>
    rw [r] at hP;cases hP;simp only [r,Option.getD_some] at hQ;exact wpAny_truthy_bool hQ
 ·intro h' tk k
  rw [hlen,vq];have f:=I.yG (H':=H) (b:=s.heap.objs.size) (Nat.le_refl _) (I.hok.fresh (Nat.le_refl _));have I2:Inv X pins σ H {s with heap:=h',toks:=tk}:=I.turned (h':=h') (t':=tk) (it:=s.heap.objs.size) (fun b o hb e=>k b o (by simpa using hb) (Heap.get?_push_of_some _ e)) f.1 f.2.1 f.2.2.2.1 f.2.2.2.2.1 f.2.2.2.2.2;exact ⟨.bl _,H,I2,rfl,q⟩
end
end L2
set_option Elab.async false
set_option linter.all false
set_option maxRecDepth 100000
set_option maxHeartbeats 4000000
namespace L2
open PySem PySem.Spec PyProof.Rows
def FnAt (P:Program) (w:World) (K:PySem.W.Frag) (mg:Str->Option Value) (base:Heap) (k:Nat) (x:Str) (ps:List Str) (sp:Sp):Prop:=
 ∃f fd,bU P w K mg base gF k f fd ps sp/\mg x=some (.ref f)/\PySem.W.keepIn K (.ref f)=true/\Binds K fd ps []
section
variable {X:Cx} {k j:Nat} {x:Str} {ps:List Str} {sp:Sp} {e:Expr} {es:List Expr} {t:TA} {p pos:Pos}
theorem bF (F:FnAt X.prog X.w X.K X.mg X.base k x ps sp) (hr:dN k X.A) (hg:Gl X x) (ha:PA X (e::es) t) (hd:(x==("__debug__" :Str))=false:=by decide)
 (he:starEach (e::es) X.env=(false,eval e X.env)::starEach es X.env:=by rfl) (hpl:(backTo pos (starEach es X.env)).any (·.1)=false:=by rfl):
 PE X (.Call (.Name x p) (e::es) [] pos) (Dm sp [] E0 t):=by
 obtain ⟨f,fd,G,hm,hk,hb⟩:=F;exact Mh G hr hg hm hk hb .nil zR ha (hdb:=hd) (he:=he) (hpl:=hpl)
end
theorem CK:bootBuiltins "all" = some (.builtin "all"):=by kernel_rfl
theorem cU:bootBuiltins "len" = some (.builtin "len"):=by kernel_rfl
theorem Tq:bootBuiltins "min" = some (.builtin "min"):=by kernel_rfl
theorem Kq:bootBuiltins "max" = some (.builtin "max"):=by kernel_rfl
theorem Ko:bootBuiltins "sum" = some (.builtin "sum"):=by kernel_rfl
theorem bM:bootBuiltins "isinstance" = some (.builtin "isinstance"):=by kernel_rfl
theorem pI:bootBuiltins "int" = some (.type "int"):=by kernel_rfl
theorem qj:bootBuiltins "bool" = some (.type "bool"):=by kernel_rfl
theorem cN:bootBuiltins "list" = some (.type "list"):=by kernel_rfl
theorem uR:bootBuiltins "tuple" = some (.type "tuple"):=by kernel_rfl
theorem Tp:bootBuiltins "str" = some (.type "str"):=by kernel_rfl
section
variable {X:Cx}
theorem DW:nU X (binaryOp .Mult) (rI IntMulOk fun i j=> .int (i*j)):=V4 fun _ _ _ _ _ _ _ hc q=>mul_int q hc
end
def Kp (r:Addr) (H H':Hp):Prop:=∀b o,H b=some o->b≠r->H' b=some o
theorem Kp.of_same {r:Addr} {H H':Hp} (h:Same H H'):Kp r H H':=fun b o e _=>h b o e
theorem Kp.trans {r:Addr} {H H1 H2:Hp} (a:Kp r H H1) (b:Kp r H1 H2):Kp r H H2:=fun c o h n=>b c o (a c o h n) n
theorem Kp.set {r:Addr} {H:Hp} {o:HO}:Kp r H (upd H r o):=fun b u e n=>by rw [aD n];exact e
theorem aF {H:Hp} {p:Addr} {o:HO} (h:H p=none):Same H (upd H p o):=fun b u e=>by rw [aD (aC e h)];exact e
theorem Same.tups {H H':Hp} (e:Same H H'):∀a xs,H a=some (HO.tup xs)->H' a=some (HO.tup xs):=fun a xs h=>e _ _ h
theorem Same.Fy {K:PySem.W.Frag} {H H':Hp} (e:Same H H'):∀a xs,aY K H a xs->aY K H' a xs:=fun a xs h=>e.seq h
theorem Kp.tups {H H':Hp} {r:Addr} {ys:List V} (e:Kp r H H') (hr:H r=some (.lst ys)):∀a xs,H a=some (HO.tup xs)->H' a=some (HO.tup xs):=fun a xs h=>e _ _ h (cG h hr (by intro z;cases z))
end L2
namespace L2
open PySem PySem.Spec PyProof.Rows
section
variable {X:Cx} {K:PySem.W.Frag}
theorem aH (h:X.K=K):U_ X (BP K):=by subst h;exact Nh
theorem aU (h:X.K=K):U_ X (Ir K):=by subst h;exact RZ
theorem jT (h:X.K=K):SlR X (VH K):=by subst h;exact Lj
theorem pA (h:X.K=K):nU X (compareOp .In) (ZJ K false):=by subst h;exact FZ
def VL (K:PySem.W.Frag):List V->Hp->VK->Prop:=fun xs H Q=>∃(p:Addr) (ys:List V),xs=[.ref p]/\(aY K H p ys\/cu K H p ys)/\Q (.int ys.length) H
theorem bC (h:X.K=K):iZ X (.builtin "len") (VL K):=by subst h;exact yN
def Ls (K:PySem.W.Frag):List V->Hp->VK->Prop:=fun xs H Q=>∃(p:Addr) (ys:List V),xs=[.ref p]/\(aY K H p ys\/cu K H p ys) /\ ∀l,H l=none->Q (.ref l) (upd H l (.lst ys))
theorem bG (h:X.K=K):iZ X (.type "list") (Ls K):=by subst h;exact yM
def VR (K:PySem.W.Frag):List V->Hp->VK->Prop:=fun xs H Q=>∃(p:Addr) (bs:List Bool),xs=[.ref p]/\aY K H p (bs.map V.bl)/\Q (.bl (bs.all id)) H
theorem iV (h:X.K=K) (hc:X.calm=true):iZ X (.builtin "all") (VR K):=by subst h;exact uQ hc
theorem DX (h:X.K=K) (hu:X.A.units+64<cLine):nU X (compareOp .Eq) (Ly false):=by subst h;exact Rk hu
theorem xZ (h:X.K=K) (hu:X.A.units+64<cLine):nU X (compareOp .NotEq) (Ly true):=by subst h;exact Rj hu
theorem cj {tg l:Expr} {tl:TE} (h:X.K=K) (hl:PE X l tl):PI X tg l (Qg K tl):=by subst h;exact Ma hl
def ZG (K:PySem.W.Frag) (c:Value) (cv:V):List V->Hp->VK->Prop:=fun xs H Q=>∃x t b,xs=[x,cv]/\pJ K H x t/\PySem.W.kitOne K t c=some b/\Q (.bl b) H
theorem cP {c:Value} {cv:V} (h:X.K=K) (rc:RelV cv c):iZ X (.builtin "isinstance") (ZG K c cv):=by subst h;exact Kl rc
theorem dz {o e:Expr} {to:TE} {t:TA} {apos cpos:Pos} (h:X.K=K) (ho:PE X o to) (ha:PA X [e] t)
 (hbase:attributeBase o "append" X.env (eval o X.env)=eval o X.env:=by rfl)
 (hfew:((backTo cpos (starEach [e] X.env)).all (fun x=> !x.1)&&(backToKw cpos (keywordEach [] X.env)).all (fun x=>x.1.isSome)
   && decide (([e]:List Expr).length+([]:List Keyword).length+(if ([]:List Keyword).isEmpty then 0 else 1)<30))=true:=by rfl)
 (hline:(apos.endLine==cpos.line)=true:=by rfl) (hs:starEach [e] X.env=(false,eval e X.env)::starEach [] X.env:=by rfl) (hplain:(backTo cpos (starEach [] X.env)).any (·.1)=false:=by rfl):
 PE X (.Call (.Attribute o "append" apos) [e] [] cpos) (Zg K "list" DK to t):=by
 subst h;exact PN PySem.F.plainAttrs_list PySem.F.slot_list_append PySem.F.type_list_append vX ho ha hbase hfew hline hs hplain
end
end L2
namespace L2
open PySem
section
variable {K:PySem.W.Frag} {a D:Addr} {xs:List V} {g:TG} {tc:TT} {te:TE} {Q:VK} {σ0:St} {H1:Hp}
theorem eE (Pv:Nat->St->Hp->Prop) (h0:Pv 0 σ0 (upd H1 D (.lst []))) (hl:∀i σ H,i<=xs.length->Pv i σ H->aY K H a xs)
 (hs:∀i x σ H,xs[i]? = some x->Pv i σ H->g x σ H fun σ2 H2=>tc σ2 H2 fun b H3=>
   if b=true then te σ2 H3 fun y H4=>∃acc,H4 D=some (.lst acc)/\acc.length<sizeLine/\Pv (i+1) σ2 (upd H4 D (.lst (acc++[y]))) else Pv (i+1) σ2 H3)
 (hd:∀σ H,Pv xs.length σ H->Q (.ref D) H):jF (K9 K a) g tc te Q D σ0 H1:=by
 refine ⟨fun i m σ H=>m=xs.length - i/\i<=xs.length/\Pv i σ H,⟨xs.length,by simp,Nat.zero_le _,h0⟩, ?_⟩;rintro i m σ H ⟨rfl,hi,p⟩;have q:=hl i σ H hi p
 by_cases hlt:i<xs.length
 ·refine .inr ⟨⟨xs,xs[i],q,by simp [hlt]⟩,Pv (i+1),fun σ' H' p'=>⟨xs.length - (i+1),by omega,rfl,hlt,p'⟩,fun x H' y=> ?_⟩
  obtain ⟨e,y⟩:=y;subst e;exact hs i x σ _ (y xs q) p
 ·have e:i=xs.length:=by omega
  subst e;exact .inl ⟨⟨xs,q,Nat.le_refl _⟩,hd σ H p⟩
theorem lD {lo:Int} {n:Nat} (Pv:Nat->St->Hp->Prop) (h0:Pv 0 σ0 (upd H1 D (.lst [])))
 (hs:∀i σ H,i<n->Pv i σ H->g (.int (lo+i)) σ H fun σ2 H2=>tc σ2 H2 fun b H3=>
   if b=true then te σ2 H3 fun y H4=>∃acc,H4 D=some (.lst acc)/\acc.length<sizeLine/\Pv (i+1) σ2 (upd H4 D (.lst (acc++[y]))) else Pv (i+1) σ2 H3)
 (hd:∀σ H,Pv n σ H->Q (.ref D) H):jF (Oz lo n) g tc te Q D σ0 H1:=by
 refine ⟨fun i m σ H=>m=n - i/\i<=n/\Pv i σ H,⟨n,by simp,Nat.zero_le _,h0⟩, ?_⟩;rintro i m σ H ⟨rfl,hi,p⟩
 by_cases hlt:i<n
 ·refine .inr ⟨hlt,Pv (i+1),fun σ' H' p'=>⟨n - (i+1),by omega,rfl,hlt,p'⟩,fun x H' y=> ?_⟩
  obtain ⟨e,y⟩:=y;subst e y;exact hs i σ _ hlt p
 ·have e:i=n:=by omega
  subst e;exact .inl ⟨Nat.le_refl _,hd σ H p⟩
end
end L2
set_option Elab.async false
set_option linter.all false
set_option maxRecDepth 100000
set_option maxHeartbeats 4000000
namespace L2
open PySem PySem.Spec PyProof.Rows
section
variable {α:Type} (f:α->PyData)
theorem gW:∀(l:List α),(∀x∈l,(f x).canLay0=true)->PyData.canLayAll0 (l.map f)=true
 | [],_=>rfl
 | a::l,h=>by
   show (PyData.canLay0 (f a)&&PyData.canLayAll0 (l.map f))=true;rw [h a List.mem_cons_self,gW l fun x hx=>h x (List.mem_cons_of_mem _ hx)];rfl
theorem cV (k:Nat):∀(l:List α),(∀x∈l,(f x).depth<=k)->PyData.depthAll (l.map f)<=k
 | [],_=>Nat.zero_le _
 | a::l,h=>by
   show max (PyData.depth (f a)) (PyData.depthAll (l.map f))<=k;exact Nat.max_le.mpr ⟨h a List.mem_cons_self,cV k l fun x hx=>h x (List.mem_cons_of_mem _ hx)⟩
theorem zH {l:List α} (k:Nat) (hk:k<64) (h1:∀x∈l,(f x).canLay0=true) (h2:∀x∈l,(f x).depth<=k):SeqAt.shaped (.list (l.map f))=true:=by
 unfold SeqAt.shaped;have e1:PyData.canLay0 (.list (l.map f))=true:=gW f l h1
 have e2:PyData.depth (.list (l.map f))<=64:=by
  show PyData.depthAll (l.map f)+1<=64;have:=cV f k l h2;omega
 rw [e1,decide_eq_true e2];rfl
theorem uL [DecidableEq α] (h:∀x y,PyData.eqv (f x) (f y)=decide (x=y)):∀(l m:List α),PyData.eqvAll (l.map f) (m.map f)=decide (l=m)
 | [],[]=>rfl
 | [],_::_=>by simp only [List.map_nil,List.map_cons,PyData.eqvAll];exact (decide_eq_false (by intro z;cases z)).symm
 | _::_,[]=>by simp only [List.map_nil,List.map_cons,PyData.eqvAll];exact (decide_eq_false (by intro z;cases z)).symm
 | a::l,b::m=>by
   simp only [List.map_cons,PyData.eqvAll];rw [h a b,uL h l m]
   by_cases e1:a=b
   ·subst e1
    by_cases e2:l=m
    ·subst e2;simp
    ·simp [e2]
   ·simp [e1]
theorem m8 [DecidableEq α] (h:∀x y,PyData.eqv (f x) (f y)=decide (x=y)) (l m:List α):PyData.eqv (.list (l.map f)) (.list (m.map f))=decide (l=m):=by
 simp only [PyData.eqv];exact uL f h l m
end
theorem jy {H:Hp} {a:Addr} {vs:List V} {ds:List PyData} (h:H a=some (.lst vs)) (d:bH H vs ds):Dat H (.ref a) (.list ds):=by
 simp only [Dat];exact ⟨a,vs,rfl,h,d⟩
theorem rE (K:PySem.W.Frag):PySem.W.kitOne K (.type "int") (.type "int")=some true:=rfl
theorem lB (K:PySem.W.Frag):PySem.W.kitOne K (.type "int") (.type "bool")=some false:=by kernel_rfl
theorem iu (K:PySem.W.Frag):PySem.W.kitOne K (.type "list") (.type "list")=some true:=rfl
theorem iR (K:PySem.W.Frag):PySem.W.kitOne K (.type "tuple") (.type "tuple")=some true:=rfl
theorem jP (K:PySem.W.Frag):PySem.W.kitOne K (.type "bool") (.type "bool")=some true:=rfl
end L2
namespace L2
open PySem
theorem uO (xs:List V) (k:Nat):uP xs (some (k:Int)) none=xs.drop k:=by
 unfold uP;rw [HT.zN,HT.Dw]
 by_cases h:k<=xs.length
 ·rw [Nat.min_eq_left h,List.take_of_length_le (by rw [List.length_drop];exact Nat.le_refl _)]
 ·rw [Nat.min_eq_right (by omega),Nat.sub_self,List.take_zero,List.drop_of_length_le (by omega)]
end L2
set_option Elab.async false
set_option linter.all false
set_option maxRecDepth 100000
set_option maxHeartbeats 4000000
namespace PySem.W
open PySem PySem.Spec PySem.Calls PyProof.Rows
theorem Nz:builtinKind "BaseException.__getattribute__" = some .slot:=by decide +kernel
theorem JN:splitId "BaseException.__getattribute__" = some ("BaseException","__getattribute__"):=by decide +kernel
section
variable {prog:Program} {w:World} {A:Around} {E:Value->Shared->Prop} {s:Shared} {K:Frag} {x D:Addr} {ox:Obj} {odo:Option Obj} {name:Str}
theorem GD {M:Model} {nameV:Value} {Q:Unit->Shared->Prop} (X:K.In s.heap) (I:InstAt s.heap x ox D odo) (hB:mroIn K D (.type "BaseException")=some true) (hq:Q () s):
 wpAny M A (checkBuiltinCall "BaseException.__getattribute__" ⟨[.ref x,nameV],[]⟩) Q E s:=by
 obtain ⟨hh,g,d,t,os⟩:=s;have L0:=I.type (M:=M);have L3:=looks_mroIn (M:=M) X hB;have ha:=F.args_bexc_ga (.ref x) nameV;simp only [checkBuiltinCall,Nz,JN];unfold isInstance
 repeat (first |lk|wp_step)
 all_goals first |exact hq|trace_state
theorem JX {Q:Option Value->Shared->Prop} {gv a:Value} (X:K.In s.heap) (I:InstAt s.heap x ox D odo) (hga:findIn K (.ref D) "__getattribute__" = some (some (.builtin "BaseException.__getattribute__")))
 (hk:findIn K (.ref D) "__getattr__" = some none) (hB:mroIn K D (.type "BaseException")=some true) (hf:findObj K D odo name=some (.bind gv a))
 (FB:Slot "Exception" "__getattribute__" "BaseException.__getattribute__")
 (h:∀A',codeAny (model prog w) A' (.call gv ⟨[a,.ref x,.ref D],[]⟩) (fun r s'=>match r with | .ok (.ret v)=>wpAny (model prog w) A (handedOut v) (fun v s''=>Q (some v) s'') (fun _ _=>False) s'|_=>False) {s with toks:=s.toks+1}):
 wpAny (model prog w) A (getAttr? (.ref x) name) Q E s:=by
 obtain ⟨hh,g,d,t,os⟩:=s;have L0:=I.type (M:=model prog w);have L1:=looks_findIn (M:=model prog w) X hga;have L2:=looks_findIn (M:=model prog w) X hk;have L4:=looks_find (M:=model prog w) X I hf;have hx2:(Value.builtin "BaseException.__getattribute__" == Value.builtin "object.__getattribute__")=false:=by decide +kernel
 have f3:=FB.bind (.ref x);unfold getAttr? getAttrBy? getAttrBy;refine wpAny_bind (wpAny_mkText (wpAny_bind (wpAny_attempt (wpAny_holding (wpAny_bind (L0.at (wpAny_bind (L1.at ?_))))))));simp only [hx2,Bool.and_false,Bool.false_eq_true,if_false];unfold getAttrByItsOwn hookBefore;show wpAny _ _ (typeLookup (.ref D) "__getattr__" >>= _) _ _ _;refine wpAny_bind (L2.at ?_);refine wpAny_bind (wpAny_attempt (wpAny_holding ?_));unfold callGetattribute boundAndCalled;rw [if_neg (by decide)];refine wpAny_bind (wpAny_of_eq f3 ?_);refine wpAny_call (codeAny_call_builtin FB.plain F.entry_bexc_ga (GD (s:=⟨hh,g,d,t+1,os⟩) X I hB ?_));show wpAny _ _ (Builtin.«object.__getattribute__» ⟨[.ref x,.str name t],[]⟩) _ _ _;unfold Builtin.«object.__getattribute__»;refine wpAny_bind (wpAny_pure ?_);refine wpAny_bind (wpAny_pure ?_);refine wpAny_bind (L0.at (wpAny_bind (L4.at ?_)));show wpAny _ _ (Builtin.ObjectAttr.bindTo gv a (.ref x) (.ref D)) _ _ _;unfold Builtin.ObjectAttr.bindTo;show wpAny _ _ (holding [a] (call gv [a,.ref x,.ref D]) >>= fun v=>ret v) _ _ _;refine wpAny_bind (wpAny_holding (wpAny_call (codeAny_mono (h _) fun r s' hr=> ?_)))
 match r,hr with
 | .ok (.ret v),hr=>
   refine wpAny_pure ?_;exact wpAny_mono hr (fun v s'' q=>wpAny_pure q) fun _ _ z=>z.elim
end
theorem JW:Slot "Exception" "__getattribute__" "BaseException.__getattribute__" :=F.attr_Exception.ga
theorem vB {K:Frag} {C:Addr} {od:Option Obj} {name:Str} {a g:Value} (hc:(clsIn K C).isSome=true) (ha:findIn K (.ref C) name=some (some a)) (hg:specialIn K a "__get__" = some (some g)) (ht:takesIn K a=some true):findObj K C od name=some (.bind g a):=by
 obtain ⟨cd,hc⟩:=Option.isSome_iff_exists.mp hc;unfold findObj;rw [hc,Option.bind_some,ha,Option.bind_some];simp [hg,ht]
theorem GC {prog:Program} {w:World} {A:Around} {E:Value->Shared->Prop} {s:Shared} {K:Frag} {x D:Addr} {ox:Obj} {odo:Option Obj} {Q:Option Value->Shared->Prop} (X:K.In s.heap) (I:InstAt s.heap x ox D odo)
 (hga:findIn K (.ref D) "__getattribute__" = some (some (.builtin "BaseException.__getattribute__"))) (hk:findIn K (.ref D) "__getattr__" = some none) (hB:mroIn K D (.type "BaseException")=some true)
 (hc:(clsIn K D).isSome=true) (ha:findIn K (.ref D) "__class__" = some (some (.builtin "object.__class__")))
 (hn:specialIn K (.builtin "object.__class__") "__get__" = some (some (.builtin "getset_descriptor.__get__"))) (htk:takesIn K (.builtin "object.__class__")=some true) (hm:mroIn K D (.type "object")=some true)
 (h:Q (some (.ref D)) {s with toks:=s.toks+1}):wpAny (model prog w) A (getAttr? (.ref x) "__class__") Q E s:=by
 have hf:findObj K D odo "__class__" = some (.bind (.builtin "getset_descriptor.__get__") (.builtin "object.__class__")):=vB hc ha hn htk;exact JX X I hga hk hB hf JW fun A'=>class_get (s:={s with toks:=s.toks+1}) X I hm (handed_on rfl h)
structure Tz (K:Frag) (D:Addr):Prop where
 hga:findIn K (.ref D) "__getattribute__" = some (some (.builtin "BaseException.__getattribute__"))
 hk:findIn K (.ref D) "__getattr__" = some none
 hB:mroIn K D (.type "BaseException")=some true
 hc:(clsIn K D).isSome=true
 ha:findIn K (.ref D) "__class__" = some (some (.builtin "object.__class__"))
 hn:specialIn K (.builtin "object.__class__") "__get__" = some (some (.builtin "getset_descriptor.__get__"))
 htk:takesIn K (.builtin "object.__class__")=some true
 hm:mroIn K D (.type "object")=some true
theorem JC {K:Frag} {x D:Addr} (c:Tz K D):KitX K (.ref x) (.ref D) (fun h=>∃ox odo,InstAt h x ox D odo) where
 ty:=fun _ _ _ ⟨_,_,I⟩=>I.type
 it:=fun _ _ X _=>by
  have hc:=c.hc;unfold clsIn at hc;split at hc
  ·rename_i c' d' cd' sl' ho
   intro A' Q' E' s' k q;unfold isType loadHead;exact wpAny_bind (wpAny_loadPart (k _ _ (X _ _ ho)) (wpAny_pure q))
  ·cases hc
 ne:=fun h tp dd its n sl X htp=>by
  have hc:=c.hc;refine Bool.eq_false_iff.mpr fun q=> ?_;have e:D=tp:=Value.ref.inj (beq_iff_eq.mp q);subst e;unfold clsIn at hc;split at hc
  ·rename_i c' d' cd' sl' ho
   have z:=(X _ _ ho).symm.trans htp;cases z
  ·cases hc
 ca:=fun X ⟨_,_,I⟩ k=>GC X I c.hga c.hk c.hB c.hc c.ha c.hn c.htk c.hm k
end PySem.W
set_option Elab.async false
set_option linter.all false
set_option maxRecDepth 100000
set_option maxHeartbeats 4000000
namespace L2
open PySem PySem.Spec PyProof.Rows
def q_ (h:Heap) (e:Addr) (cls:Value) (dx:Option Addr) (lo:Addr->Prop):Option Value->Prop
 | none=>∃oe vs,h.get? e=some oe/\oe.cls=cls/\oe.dict=dx/\oe.data = .fields vs/\vs[1]? = some .none
 | some f=>∃oe vs T oT ts,h.get? e=some oe/\oe.cls=cls/\oe.dict=dx/\oe.data = .fields vs/\vs[1]? = some (.ref T)/\lo T/\T≠e/\h.get? T=some oT/\oT.data = .fields ts/\ts[3]? = some f
theorem q_.there {h:Heap} {e:Addr} {cls:Value} {dx:Option Addr} {lo:Addr->Prop} {f:Option Value} (x:q_ h e cls dx lo f):∃oe vs,h.get? e=some oe/\oe.cls=cls/\oe.dict=dx/\oe.data = .fields vs:=by
 cases f with
 | none=>obtain ⟨oe,vs,a,b,c,d,_⟩:=x;exact ⟨oe,vs,a,b,c,d⟩
 | some f=>obtain ⟨oe,vs,_,_,_,a,b,c,d,_⟩:=x;exact ⟨oe,vs,a,b,c,d⟩
section
variable {M:Model} {A:Around} {E:Value->Shared->Prop} {s:Shared} {base:Heap} {env:Env} {outer:List Env} {L e:Addr}
structure m_ (fr:List Addr) (e:Addr) (lo:Addr->Prop) (h h':Heap):Prop where
 keep:∀b o,h.get? b=some o->b∉fr->b≠e -> ¬lo b->h'.get? b=some o
 slot:∀b o,h.get? b=some o->b∈fr->b≠e -> ¬lo b -> ∃sl,h'.get? b=some {o with slots:=sl}
 there:∀b o,h.get? b=some o -> ∃o',h'.get? b=some o'
theorem m_.trans {fr:List Addr} {lo:Addr->Prop} {h h1 h2:Heap} (a:m_ fr e lo h h1) (b:m_ fr e lo h1 h2):m_ fr e lo h h2 where
 keep:=fun c o q n1 n2 n3=>b.keep c o (a.keep c o q n1 n2 n3) n1 n2 n3
 slot:=fun c o q n1 n2 n3=>by
  obtain ⟨sl,q1⟩:=a.slot c o q n1 n2 n3;obtain ⟨sl2,q2⟩:=b.slot c _ q1 n1 n2 n3;exact ⟨sl2,q2⟩
 there:=fun c o q=>by
  obtain ⟨o1,q1⟩:=a.there c o q;exact b.there c o1 q1
theorem j_ {h:Heap} {a:Addr} {o:Obj} {vs:Array Value} (q:h.get? a=some o) (d:o.data = .fields vs) (i:Nat) (v:Value):
 (h.update a (Obj.mapFields (·.setIfInBounds i v))).get? a=some (Obj.mapFields (·.setIfInBounds i v) o)/\(Obj.mapFields (·.setIfInBounds i v) o).data = .fields (vs.setIfInBounds i v) /\
   (Obj.mapFields (·.setIfInBounds i v) o).cls=o.cls/\(Obj.mapFields (·.setIfInBounds i v) o).dict=o.dict:=by
 have d2:=Obj.data_mapFields d (·.setIfInBounds i v);refine ⟨Heap.get?_update_self _ q (Obj.isFreed_of_fields d2),d2,Obj.cls_mapFields _ _, ?_⟩;obtain ⟨c,dd,dt,sl⟩:=o;simp only at d;subst d;rfl
theorem Hw {oe:Obj} {vs:Array Value} {head:Value} {hadNext:Bool} {cls:Value} {dx:Option Addr} {lo:Addr->Prop} {Q:Unit->Shared->Prop} (hfr:A.frames=some (env::outer)) (hl:s.heap.FunFrames base (env::outer)) (hf:env.frame=some L)
 (he:s.heap.get? e=some oe) (hd:oe.data = .fields vs) (hsz:1<vs.size) (hc:oe.cls=cls) (hdx:oe.dict=dx) (hlo:∀T,s.heap.get? T=none->lo T)
 (h:∀h',m_ (frs (env::outer)) e lo s.heap h'->q_ h' e cls dx lo (some (rawInt L))->Q () {s with heap:=h'}):
 wpAny M A (do let a ←frameOf env;let pl ←entryPlaceOf L hadNext;let b ←EntryCells.newEntry head a .none (rawInt L) .none pl;setField (.ref e) 1 b) Q E s:=by
 have nfr:e∉frs (env::outer):=fun hm=>by
  obtain ⟨_,o,q,nf⟩:=hl.mem hm;rw [he] at q;cases q;exact nf vs hd
 refine wpAny_bind (wpAny_frameOf_fun hfr hl hf fun h1 hs1=> ?_);refine wpAny_bind (wpAny_entryPlaceOf fun pl hpl=> ?_);unfold EntryCells.newEntry newFields;refine wpAny_bind (wpAny_newObj_type ?_ (hpl.sizeOk5 _ _ _ _ _));generalize hob:({cls:= .type "traceback",dict:=none,data:= .fields ([head,.ref L,.none,rawInt L,.none]++(if pl.isEmpty then List.replicate 6 Value.none else pl)).toArray}:Obj)=ob;have q1:h1.get? e=some oe:=(hs1.2.1 e nfr).trans he;have q2:=Heap.get?_push_of_some (h:=h1) ob q1;have nTe:h1.objs.size≠e:=Nat.ne_of_gt (Heap.lt_size q1);have sizes:h1.objs.size=s.heap.objs.size:=hs1.1;have newT:s.heap.get? h1.objs.size=none:=Heap.get?_none_of_le (by rw [sizes];exact Nat.le_refl _);refine wpAny_setField q2 hd hsz (h _ ⟨fun b o q n1 n2 n3=> ?_,fun b o q n1 n2 n3=> ?_,fun b o q=> ?_⟩ ?_)
 ·rw [Heap.get?_update_other _ _ (Ne.symm n2)]
  exact Heap.get?_push_of_some _ ((hs1.2.1 b n1).trans q)
 ·obtain ⟨sl,q3⟩:=hs1.2.2 b o q
  refine ⟨sl, ?_⟩;rw [Heap.get?_update_other _ _ (Ne.symm n2)];exact Heap.get?_push_of_some _ q3
 ·obtain ⟨sl,q3⟩:=hs1.2.2 b o q
  by_cases hb:b=e
  ·subst hb
   exact ⟨_,(j_ q2 hd 1 _).1⟩
  ·refine ⟨{o with slots:=sl}, ?_⟩
   rw [Heap.get?_update_other _ _ (Ne.symm hb)];exact Heap.get?_push_of_some _ q3
 ·obtain ⟨u1,u2,u3,u4⟩:=j_ q2 hd 1 (Value.ref h1.objs.size)
  refine ⟨_,_,h1.objs.size,ob,_,u1,u3.trans hc,u4.trans hdx,u2,by simp [hsz],hlo _ newT,nTe, ?_,by rw [←hob], ?_⟩
  ·rw [Heap.get?_update_other _ _ (Ne.symm nTe)]
   exact Heap.get?_push_size _ (by rw [←hob];rfl)
  ·first |(simp;done)|(rcases hpl with rfl|⟨_,_,_,_,_,_,_,rfl⟩<;>simp)
theorem Pa {cls:Value} {dx:Option Addr} {lo:Addr->Prop} {Q:Unit->Shared->Prop} {fl:Option Value} (hfl:fl=none\/fl=some .none) (hfr:A.frames=some (env::outer)) (hl:s.heap.FunFrames base (env::outer)) (hf:env.frame=some L)
 (x:q_ s.heap e cls dx lo fl) (hlo:∀T,s.heap.get? T=none->lo T)
 (h:∀h',m_ (frs (env::outer)) e lo s.heap h'->q_ h' e cls dx lo (some (rawInt L))->Q () {s with heap:=h'}):wpAny M A (noteFrame (.ref e) env) Q E s:=by
 unfold noteFrame;simp only [hf];rcases hfl with rfl|rfl
 ·obtain ⟨oe,vs,he,hc,hdx,hd,h1⟩:=x
  refine wpAny_bind (wpAny_field he hd h1 ?_);rw [if_neg (by decide)];exact Hw hfr hl hf he hd (Array.getElem?_eq_some_iff.mp h1).1 hc hdx hlo h
 ·obtain ⟨oe,vs,T,oT,ts,he,hc,hdx,hd,h1,hT,nT,K4,hdT,h3⟩:=x
  refine wpAny_bind (wpAny_field he hd h1 ?_);rw [if_pos (show (Value.ref T != Value.none)=true from by simp)];refine wpAny_bind (wpAny_field K4 hdT h3 ?_);rw [if_neg (show ¬((Value.none==rawInt L)=true) from by simp [rawInt])];have hs3:3<ts.size:=(Array.getElem?_eq_some_iff.mp h3).1;refine wpAny_bind (wpAny_setField K4 hdT hs3 ?_);have oth:∀b,b≠T->(s.heap.update T (Obj.mapFields (·.setIfInBounds 3 Value.none))).get? b=s.heap.get? b:=fun b hb=>Heap.get?_update_other _ _ (Ne.symm hb);obtain ⟨u1,u2,u3,u4⟩:=j_ K4 hdT 3 Value.none
  have n0:m_ (frs (env::outer)) e lo s.heap (s.heap.update T (Obj.mapFields (·.setIfInBounds 3 Value.none))):=by
   have nb:∀b,¬lo b->b≠T:=fun b hb z=>hb (by rw [z];exact hT);refine ⟨fun b o q _ _ n3=>(oth b (nb b n3)).trans q,fun b o q _ _ n3=>⟨o.slots,(oth b (nb b n3)).trans q⟩,fun b o q=> ?_⟩
   by_cases hb:b=T
   ·subst hb;exact ⟨_,u1⟩
   ·exact ⟨o,(oth b hb).trans q⟩
  have ffs:(s.heap.update T (Obj.mapFields (·.setIfInBounds 3 Value.none))).FunFrames base (env::outer):=hl.of_keeps fun b o q nf=>by
   by_cases hb:b=T
   ·subst hb;rw [K4] at q;cases q;exact absurd hdT (nf ts)
   ·exact ⟨o,(oth b hb).trans q,rfl⟩
  refine Hw (s:={s with heap:=s.heap.update T (Obj.mapFields (·.setIfInBounds 3 Value.none))}) hfr ffs hf ((oth e (Ne.symm nT)).trans he) hd (Array.getElem?_eq_some_iff.mp h1).1 hc hdx (fun T' z=> ?_) fun h' n1 x1=>h h' (n0.trans n1) x1
  by_cases hb:T'=T
  ·rw [hb];exact hT
  ·exact hlo T' ((oth T' hb).symm.trans z)
theorem Hv {cls:Value} {dx:Option Addr} {lo:Addr->Prop} {Q:Unit->Shared->Prop} {fr:List Addr} {f:Value} (x:q_ s.heap e cls dx lo (some f))
 (h:∀h',m_ fr e lo s.heap h'->q_ h' e cls dx lo (some .none)->Q () {s with heap:=h'}):wpAny M A (setFlight (.ref e) none) Q E s:=by
 obtain ⟨oe,vs,T,oT,ts,he,hc,hdx,hd,h1,hT,nT,K4,hdT,h3⟩:=x;have hs3:3<ts.size:=(Array.getElem?_eq_some_iff.mp h3).1;unfold setFlight;refine wpAny_bind (wpAny_field he hd h1 ?_);rw [if_pos (show (Value.ref T != Value.none)=true from by simp)];have oth:∀b,b≠T->(s.heap.update T (Obj.mapFields (·.setIfInBounds 3 Value.none))).get? b=s.heap.get? b:=fun b hb=>Heap.get?_update_other _ _ (Ne.symm hb);obtain ⟨u1,u2,u3,u4⟩:=j_ K4 hdT 3 Value.none;have nb:∀b,¬lo b->b≠T:=fun b hb z=>hb (by rw [z];exact hT);refine wpAny_setField K4 hdT hs3 (h _ ⟨fun b o q _ _ n3=>(oth b (nb b n3)).trans q,fun b o q _ _ n3=>⟨o.slots,(oth b (nb b n3)).trans q⟩,fun b o q=> ?_⟩ ?_)
 ·by_cases hb:b=T
  ·subst hb;exact ⟨_,u1⟩
  ·exact ⟨o,(oth b hb).trans q⟩
 ·exact ⟨oe,vs,T,_,_,(oth e (Ne.symm nT)).trans he,hc,hdx,hd,h1,hT,nT,u1,u2,by simp [hs3]⟩
end
section
variable {X:Cx} {pins:List (Addr×Obj)} {σ:St} {H:Hp} {s:Shared} {e:Addr}
theorem fP.there {P:Program} {w:World} {H:Hp} {h:Heap} {a:Addr} {o:HO} (x:fP P w H h a o):∃ob,h.get? a=some ob:=by
 induction o with
 | lst xs=>obtain ⟨_,_,_,_,q⟩:=x;exact ⟨_,q⟩
 | tup xs=>obtain ⟨_,_,_,ob,q,_⟩:=x;exact ⟨ob,q⟩
 | dK kvs=>obtain ⟨_,_,_,_,ob,_,_,q,_⟩:=x;exact ⟨ob,q⟩
 | dT kvs=>obtain ⟨_,_,_,_,ob,_,_,q,_⟩:=x;exact ⟨ob,q⟩
 | set S n=>obtain ⟨ob,_,_,_,q,_⟩:=x;exact ⟨ob,q⟩
 | ins C dx fs=>obtain ⟨_,_,_,q,_⟩:=x;exact ⟨_,q⟩
 | own y=>exact x
 | xd fs=>obtain ⟨_,⟨ob,_,_,q,_⟩,_⟩:=x;exact ⟨ob,q⟩
 | rng lo hi=>obtain ⟨_,_,_,q⟩:=x;exact ⟨_,q⟩
 | Af ob u ih=>exact ⟨ob,x.1⟩
 | Pj ps=>exact ⟨_,x⟩
 | met f y=>exact ⟨_,x⟩
 | ext φ=>exact x.2.1
def yU (X:Cx) (pins:List (Addr×Obj)) (H:Hp) (b:Addr):Prop:=
 H b=none/\b≠X.env.locals/\b∉X.fs/\X.s₀.heap.get? b=none/\(∀x c,X.env.cells.lookup x=some c->c≠b) /\ ∀p∈X.pn++pins,p.1≠b
theorem Inv.YZ (I:Inv X pins σ H s) (hx:X.ex=[]) {b:Addr} (hb:s.heap.get? b=none):yU X pins H b:=by
 refine ⟨?_,fun z=> ?_,fun z=> ?_, ?_,fun x c q z=> ?_,fun p hp z=> ?_⟩
 ·cases q:H b with
  | none=>rfl
  | some o=>
    obtain ⟨ob,r⟩:=(I.hok b o q).there;rw [hb] at r;cases r
 ·obtain ⟨m,⟨o,_,_,r,_⟩,_⟩:=I.loc
  rw [←z,hb] at r;cases r
 ·obtain ⟨_,o,r,_⟩:=I.mj.mem z
  rw [hb] at r;cases r
 ·cases q:X.s₀.heap.get? b with
  | none=>rfl
  | some o=>
    obtain ⟨o',r⟩:=I.base.there b o q (by rw [hx];simp);rw [hb] at r;cases r
 ·obtain ⟨v,o,r,_⟩:=I.cell x c q
  rw [z,hb] at r;cases r
 ·obtain ⟨r,_⟩:=I.pin p hp
  rw [z,hb] at r;cases r
theorem Inv.noted {lo:Addr->Prop} {h':Heap} (I:Inv X pins σ H s) (n:m_ (frs X.stack) e lo s.heap h') (hlo:∀b,(b=e\/lo b)->yU X pins H b\/s.heap.get? b=none):Inv X pins σ H {s with heap:=h'}:=by
 have off:∀b o,s.heap.get? b=some o->(¬yU X pins H b)->b≠e /\ ¬lo b:=fun b o q nx=>
  ⟨fun z=>(hlo b (.inl z)).elim nx fun r=>(by rw [r] at q;cases q),fun z=>(hlo b (.inr z)).elim nx fun r=>(by rw [r] at q;cases q)⟩
 have any:∀b o,s.heap.get? b=some o->(¬yU X pins H b) -> ∃sl,h'.get? b=some {o with slots:=sl}:=fun b o q nx=>by
  obtain ⟨n1,n2⟩:=off b o q nx
  by_cases hb:b∈frs X.stack
  ·exact n.slot b o q hb n1 n2
  ·exact ⟨o.slots,n.keep b o q hb n1 n2⟩
 have s0:∀b o,X.s₀.heap.get? b=some o -> ¬yU X pins H b:=fun b o q x=>by rw [x.2.2.2.1] at q;cases q
 have Qa:∀b o,X.s₀.heap.get? b=some o->b≠X.env.locals:=fun b o q=>Nat.ne_of_lt (Nat.lt_of_lt_of_le (Heap.lt_size q) I.ok.above);have nst:∀b,b≠X.env.locals->b∉X.fs->b∉frs X.stack:=fun b n1 n2 z=>(List.mem_cons.mp (I.tD b z)).elim n1 n2;have Bj:∀b o,H b=some o -> ¬yU X pins H b:=fun b o q x=>by rw [x.1] at q;cases q
 have Vh:∀b o,H b=some o->b∉frs X.stack:=fun b o q z=>by rw [I.wM b z] at q;cases q
 have cl:∀x c,X.env.cells.lookup x=some c -> ∀v,s.heap.IsCell c v->h'.IsCell c v:=fun x c q v ⟨o,ho,hd⟩=>by
  obtain ⟨sl,r⟩:=any c o ho fun z=>z.2.2.2.2.1 x c q rfl;exact ⟨_,r,hd⟩
 refine ⟨I.ok,I.os,I.bare,⟨fun b o q nn hb hx=> ?_,fun b o q nn hb hx=> ?_,I.base.free,fun b o q hx=> ?_,I.base.tups,I.base.qU,I.base.rK⟩, ?_,fun x c q=> ?_,I.free,I.iB,fun p hp=> ?_,fun a o q=> ?_,I.len⟩
 ·have q1:=I.base.keep b o q nn hb hx
  obtain ⟨n1,n2⟩:=off b o q1 (s0 b o q);exact n.keep b o q1 (nst b (Qa b o q) hb) n1 n2
 ·obtain ⟨sl,q1⟩:=I.base.slot b o q nn hb hx
  obtain ⟨sl2,q2⟩:=any b _ q1 (s0 b o q);exact ⟨sl2,q2⟩
 ·obtain ⟨o1,q1⟩:=I.base.there b o q hx
  exact n.there b o1 q1
 ·obtain ⟨m,⟨ob,es,ep,ho,r⟩,hl⟩:=I.loc
  obtain ⟨sl,q1⟩:=any _ ob ho fun z=>z.2.1 rfl;refine ⟨m,⟨_,es,ep,q1,r⟩,fun i x v e1 e2 e3=> ?_⟩;obtain ⟨u,ru,l⟩:=hl i x v e1 e2 e3;refine ⟨u,ru, ?_⟩;rcases l with l|⟨k,c,hc,z⟩
  ·exact .inl l
  ·exact .inr ⟨k,c,hc,cl x c hc _ z⟩
 ·obtain ⟨v,z⟩:=I.cell x c q
  exact ⟨v,cl x c q v z⟩
 ·obtain ⟨q,nn,n1,n2,d⟩:=I.pin p hp
  obtain ⟨m1,m2⟩:=off p.1 p.2 q fun z=>z.2.2.2.2.2 p hp rfl;exact ⟨n.keep p.1 p.2 q (nst p.1 n1 n2) m1 m2,nn,n1,n2,d⟩
 ·refine (I.hok a o q).stay (fun b u hb r=> ?_) (fun _ z=>z) fun _ _ z=>z
  rcases hb with rfl|hb
  ·obtain ⟨m1,m2⟩:=off b u r (Bj b o q)
   exact n.keep b u r (Vh b o q) m1 m2
  ·obtain ⟨m1,m2⟩:=off b u r (Bj b _ hb)
   exact n.keep b u r (Vh b _ hb) m1 m2
def oH (P:Program) (w:World):Ht:=fun outer H s E ev s'=>∃(e:Addr) (cls:Value) (dx:Option Addr) (H':Hp),ev = .ref e/\s'.os=s.os/\AllBare s'.gens/\Un (frs outer) [] H H' s.heap s'.heap/\qp P w H' s'.heap /\
 s.heap.get? e=none/\H' e=none/\q_ s'.heap e cls dx (fun T=>s.heap.get? T=none/\H' T=none) (some .none)/\E cls dx H'
def Rz (X:Cx) (E:St->XK):Prop:=∀(pins:List (Addr×Obj)) (σ:St) (H:Hp) (s:Shared) (e:Addr) (cls:Value) (dx:Option Addr) (fl:Option Value),(fl=none\/fl=some .none)->Inv X pins σ H s->yU X pins H e ->
 q_ s.heap e cls dx (yU X pins H) fl->E σ cls dx H->X.xe (.ref e) s
theorem q_.imp {h:Heap} {e:Addr} {cls:Value} {dx:Option Addr} {lo lo':Addr->Prop} {f:Option Value} (x:q_ h e cls dx lo f) (k:∀T,(∃o,h.get? T=some o)->lo T->lo' T):q_ h e cls dx lo' f:=by
 cases f with
 | none=>exact x
 | some f=>
   obtain ⟨oe,vs,T,oT,ts,he,hc,hdx,hd,h1,hT,nT,K4,r⟩:=x;exact ⟨oe,vs,T,oT,ts,he,hc,hdx,hd,h1,k T ⟨oT,K4⟩ hT,nT,K4,r⟩
theorem xX {E:St->XK} {σ:St} (hx:X.ex=[]) (R:Rz X E) {pins:List (Addr×Obj)} {H:Hp} {s s':Shared} {ev:Value} (I:Inv X pins σ H s) (c:oH X.prog X.w X.stack H s (E σ) ev s'):X.xe ev s':=by
 obtain ⟨e,cls,dx,H',rfl,ho,hg,u,hok,ne,he,x,q⟩:=c;have I':Inv X pins σ H' s':=I.call' (ch:=[]) ho u hok hg (fun b hb=>by cases hb)
 have fp:∀T,s.heap.get? T=none->H' T=none->yU X pins H' T:=fun T h1 h2=>by
  obtain ⟨_,a2,a3,a4,a5,a6⟩:=I.YZ hx h1;exact ⟨h2,a2,a3,a4,a5,a6⟩
 exact R pins σ H' s' e cls dx _ (.inr rfl) I' (fp e ne he) (x.imp fun T _ z=>fp T z.1 z.2) q
theorem zP {P:Program} {w:World} {K:PySem.W.Frag} {mg:Str->Option Value} {base:Heap} {N:List Str} {qual:Str} {scope:Scope} {f:Addr} {cd:Value} {A:Around} {outer:List Env} {s:Shared} {H:Hp} {E:XK}:
 Rz (mz (oH P w) P w K mg base N qual scope f cd A outer s H E) (fun _=>E):=by
 intro pins σ H1 s1 e cls dx fl hfl I fe x q;show wpAny (model P w) _ (leaving _ (.ref e)) _ _ s1;unfold leaving;have lo1:∀b,(b=e\/(yU (mz (oH P w) P w K mg base N qual scope f cd A outer s H E) pins H1 b\/s1.heap.get? b=none))->yU (mz (oH P w) P w K mg base N qual scope f cd A outer s H E) pins H1 b\/s1.heap.get? b=none:=fun b z=>z.elim (fun z=> .inl (by rw [z];exact fe)) fun z=>z;have stk:(mz (oH P w) P w K mg base N qual scope f cd A outer s H E).A.frames=some ((mz (oH P w) P w K mg base N qual scope f cd A outer s H E).env::outer):=I.ok.frames;refine wpAny_bind (Pa (base:=base) (lo:=fun T=>yU (mz (oH P w) P w K mg base N qual scope f cd A outer s H E) pins H1 T\/s1.heap.get? T=none) hfl stk I.stack rfl (x.imp fun T _ z=> .inl z) (fun T z=> .inr z) fun h1 n1 x1=> ?_);refine Hv (fr:=frs ((mz (oH P w) P w K mg base N qual scope f cd A outer s H E).env::outer)) x1 fun h2 n2 x2=> ?_;have I2:Inv (mz (oH P w) P w K mg base N qual scope f cd A outer s H E) pins σ H1 {s1 with heap:=h2}:=I.noted (n1.trans n2) lo1;refine ⟨e,cls,dx,H1,rfl,I2.os,I2.bare,I2.base,I2.hok,fe.2.2.2.1,fe.1,x2.imp fun T _ z=> ?_,q⟩;rcases z with z|z
 ·exact ⟨z.2.2.2.1,z.1⟩
 ·have y:=I.YZ rfl z
  exact ⟨y.2.2.2.1,y.1⟩
end
end L2
set_option Elab.async false
set_option linter.all false
set_option maxRecDepth 100000
set_option maxHeartbeats 4000000
namespace L2
open PySem PySem.Spec PyProof.Rows
def Fb (P:Program) (w:World) (K:PySem.W.Frag) (mg:Str->Option Value) (base:Heap) (k:Nat) (x:Str) (ps:List Str) (sp:Sp):Prop:=
 ∃f fd,bU P w K mg base (oH P w) k f fd ps sp/\mg x=some (.ref f)/\PySem.W.keepIn K (.ref f)=true/\Binds K fd ps []
def QK (sp:Sp) (E:St->XK) (t:TA):TE:=fun σ H Q=>t σ H fun vs H1=>sp vs H1 Q (E σ)
section
variable {X:Cx} {k:Nat} {x:Str} {ps:List Str} {sp:Sp} {e:Expr} {es:List Expr} {t:TA} {p pos:Pos} {E:St->XK}
theorem IV (F:Fb X.prog X.w X.K X.mg X.base k x ps sp) (hx:X.ex=[]) (R:Rz X E) (hr:dN k X.A) (hg:Gl X x) (ha:PA X (e::es) t) (hd:(x==("__debug__" :Str))=false:=by decide)
 (he:starEach (e::es) X.env=(false,eval e X.env)::starEach es X.env:=by rfl) (hpl:(backTo pos (starEach es X.env)).any (·.1)=false:=by rfl):
 PE X (.Call (.Name x p) (e::es) [] pos) (QK sp E t):=by
 obtain ⟨f,fd,G,hm,hk,hb⟩:=F;intro pins s σ H Q I h;refine wpAny_Call_Name_kw (lu I hg hm ?_ hd);refine PySem.W.callWith_K (h₀:=X.base) I.ok.mod.Ho hk (dH (ha pos pins s σ H _ I h) fun us s1 ⟨vs,H1,I1,r,q⟩=>⟨I1.mZ, ?_⟩) he hpl;have hlen:us.length=ps.length:=by rw [←r.length];exact G.len _ _ _ _ q
 have hbd:=hb s1 us I1.mZ (by rw [List.append_nil];exact hlen);rw [List.append_nil] at hbd;refine wpAny_call (codeAny_mono (G.run X.A X.stack s1 H1 ⟨us,[]⟩ us vs Q (E σ) hr I1.env0 hbd r q) fun res s' hq=> ?_)
 match res,hq with
 | .error ev,hq=>exact xX hx R I1 hq
 | .ok (.ret u),hq=>exact I1.after hq
end
section
variable {P:Program} {w:World} {K:PySem.W.Frag} {mg:Str->Option Value} {base:Heap}
theorem fj.M4 {x qual:Str} {st:Stmt} {f:Addr} {fd:FuncData} {N ps:List Str} {k:Nat} {sp:Sp} (F:fj K x qual st f fd) (S:bA N ps (aN st)) (len:∀vs H Q E,sp vs H Q E->vs.length=ps.length)
 (hbody:∀(cdv:Value) (A:Around) (outer:List Env) (s:Shared) (H:Hp) (vs:List V) (Q:VK) (E:XK),dN k (A.deeper (envOfC qual (aN st) s.heap.objs.size f cdv))->sp vs H Q E ->
   Rz (mz (oH P w) P w K mg base N qual (aN st) f cdv A outer s H E) (fun _=>E) ->
   ∃t,Ay (mz (oH P w) P w K mg base N qual (aN st) f cdv A outer s H E) (eX st) t/\t {nx:=fun _ H'=>Q .non H',rt:=Q} (start N vs) H):bU P w K mg base (oH P w) (k+1) f fd ps sp:=by
 obtain ⟨oc,od,kV,doc,pm,an,cdv,ct,osl,rfl,lk,hcd⟩:=F.ex;exact JT lk hcd S len fun A outer s H vs Q E hr hsp=>hbody cdv A outer s H vs Q E hr hsp zP
end
theorem NQ {K:PySem.W.Frag} {h:Heap} {C:Addr} {bmB:List Value} {newId:String} (X:K.In h) (q:PySem.W.excIn K C bmB newId=true):
 ∃bm N nm qn bs hdct sn sub ab col dd k0 k1 k2 k3 k5 mN,h.get? C=some (excClassObj nm qn C N bs bm hdct sn sub ab col dd k0 k1 k2 k3 k5 newId)/\h.Ns N mN/\mN "__init__" = none/\OwnTail h bmB bm:=by
 unfold PySem.W.excIn at q;split at q
 ·rename_i d0 c0 s0 lk
  split at q
  ·rename_i C1 tl a0 a1 a2 a3 nn a5 em es
   simp only [Bool.and_eq_true,beq_iff_eq,Bool.not_eq_true'] at q;obtain ⟨⟨⟨⟨⟨e1,e2⟩,e3⟩,e4⟩,e5⟩,e6⟩:=q;subst e1 e2;obtain ⟨f1,f2,f3,f4,f5,f6,f7,f8,f9,f10,f11⟩:=c0;dsimp only at em e3 e5 e6;subst em e3
   have ez:s0 = #[a0,a1,a2,a3,some (.builtin nn),a5]:=by
    obtain ⟨l⟩:=s0;simp only at es;rw [es]
   subst ez;exact ⟨tl,f4,_,_,_,_,_,_,_,_,_,_,_,_,_,_,_,X _ _ lk,.of_isNs (PySem.W.isNs_of_in X e5),PySem.W.nsMap_none_of_in X e5 e6,PySem.W.tail_of_in X e4⟩
  ·cases q
 ·cases q
def QF (cls:Value) (E:St->XK) (ta:TA):TS:=fun _ σ H=>ta σ H fun vs H1=>vs.length<=sizeLine/\E σ cls none H1
section
variable {X:Cx} {E:St->XK} {x:Str} {C:Addr} {B newId initId:String} {bmB:List Value} {e0:Expr} {rest:List Expr} {ta:TA} {np cpos pos:Pos}
theorem pY (FB:ExcBaseFacts B newId initId bmB) (q:PySem.W.excIn X.K C bmB newId=true) (hm:X.mg x=some (.ref C)) (hg:Gl X x) (hc:X.calm=true) (hx:X.ex=[]) (R:Rz X E) (ha:PA X (e0::rest) ta)
 (he:starEach (e0::rest) X.env=(false,eval e0 X.env)::starEach rest X.env:=by rfl) (hplain:(backTo cpos (starEach rest X.env)).any (·.1)=false:=by rfl) (hd:(x==("__debug__" :Str))=false:=by decide):
 PS X (.Raise (some (.Call (.Name x np) (e0::rest) [] cpos)) none pos) (QF (.ref C) E ta):=by
 intro pins s σ H D I h;obtain ⟨bm,N,nm,qn,bs,hdct,sn,sub,ab,col,dd,k0,k1,k2,k3,k5,mN,hC,hN,hni,T⟩:=NQ I.ok.mod.Ho q
 refine wpAny_Raise_call_subT (k5:=k5) (k3:=k3) (k2:=k2) (k1:=k1) (k0:=k0) (dd:=dd) (col:=col) (ab:=ab) (sub:=sub) (sn:=sn) (hdct:=hdct) (bs:=bs) (q:=qn) (nm:=nm)
  (C:=C) (N:=N) (bm:=bm) (mN:=mN) FB (T.hasType FB.hasBase) (I.ok.hd hc) (by rw [he];show (false||(backTo cpos (starEach rest X.env)).any (·.1))=false;rw [hplain];rfl) hni (lu I hg hm ⟨rfl, ?_⟩ hd)
 have h2:=ha cpos pins s σ H _ I h;rw [he] at h2 ⊢;refine Calls.evalArgs_plain (dH h2 fun us s1 ⟨vs,H1,I1,r,hl,hE⟩=>⟨rfl,by rw [←r.length];exact hl,I1.bk _ _ hC,hN.keeps I1.bk,T.keeps I1.bk,fun h' e mk=> ?_⟩);obtain ⟨t,ht,_,_⟩:=mk.there;have I2:Inv X pins σ H1 {s1 with heap:=h'}:=I1.kept (t':=s1.toks) mk.keeps;exact R pins σ H1 _ e (.ref C) none none (.inl rfl) I2 (I1.YZ hx mk.new) ⟨_,_,ht,rfl,rfl,rfl,rfl⟩ hE
end
def XO (C:Addr) (dx:Option Addr) (e:Addr):HO:= .ext fun h=>∃oe vs,h.get? e=some oe/\oe.cls = .ref C/\oe.dict=dx/\oe.data = .fields vs
def yH (X:Cx) (e:Addr):Cx:={X with A:=X.A.mark (some (.ref e)),calm:=false,xe:=fun _ _=>False}
def uN (X:Cx) (pins:List (Addr×Obj)) (xe:Value->Shared->Prop):Cx:={X with pn:=X.pn++pins,xe:=xe}
section
variable {X:Cx} {pins:List (Addr×Obj)} {σ:St} {H:Hp} {s:Shared}
theorem Inv.Vi (I:Inv X pins σ H s) (xe:Value->Shared->Prop):Inv (uN X pins xe) [] σ H s:=
 ⟨⟨I.ok.mod,I.ok.kind,I.ok.glob,I.ok.blt,I.ok.above,I.ok.inj,I.ok.has,I.ok.cab,I.ok.hd,I.ok.frames,I.ok.stk,I.ok.U4,I.ok.bs,I.ok.CP,I.ok.yh,I.ok.Ah,I.ok.mj,I.ok.Hr⟩,I.os,I.bare,I.base,I.loc,I.cell,I.free,I.iB,
   fun p hp=>I.pin p (by rw [List.append_nil] at hp;exact hp),I.hok,I.len⟩
theorem Inv.vU {xe:Value->Shared->Prop} {lO:List (Addr×Obj)} (I:Inv (uN X pins xe) lO σ H s):Inv X pins σ H s:=
 ⟨⟨I.ok.mod,I.ok.kind,I.ok.glob,I.ok.blt,I.ok.above,I.ok.inj,I.ok.has,I.ok.cab,I.ok.hd,I.ok.frames,I.ok.stk,I.ok.U4,I.ok.bs,I.ok.CP,I.ok.yh,I.ok.Ah,I.ok.mj,I.ok.Hr⟩,I.os,I.bare,I.base,I.loc,I.cell,I.free,I.iB,
   fun p hp=>I.pin p (List.mem_append_left _ hp),I.hok,I.len⟩
theorem Inv.HW (I:Inv X pins σ H s) (e:Addr):Inv (yH X e) pins σ H s:=
 ⟨⟨I.ok.mod,I.ok.kind,I.ok.glob,I.ok.blt,I.ok.above,I.ok.inj,I.ok.has,I.ok.cab,fun z=>(by cases z),I.ok.frames,I.ok.stk,I.ok.U4,I.ok.bs,I.ok.CP,I.ok.yh,I.ok.Ah,I.ok.mj,I.ok.Hr⟩,I.os,I.bare,I.base,I.loc,I.cell,I.free,I.iB,
   I.pin,I.hok,I.len⟩
theorem Inv.yg {e:Addr} (I:Inv (yH X e) pins σ H s) (hd:X.calm=true->X.A.handled=none):Inv X pins σ H s:=
 ⟨⟨I.ok.mod,I.ok.kind,I.ok.glob,I.ok.blt,I.ok.above,I.ok.inj,I.ok.has,I.ok.cab,hd,I.ok.frames,I.ok.stk,I.ok.U4,I.ok.bs,I.ok.CP,I.ok.yh,I.ok.Ah,I.ok.mj,I.ok.Hr⟩,I.os,I.bare,I.base,I.loc,I.cell,I.free,I.iB,
   I.pin,I.hok,I.len⟩
theorem Inv.track {e C:Addr} {dx:Option Addr} {lo:Addr->Prop} {fl:Option Value} (I:Inv X pins σ H s) (hx:X.ex=[]) (fe:yU X pins H e) (x:q_ s.heap e (.ref C) dx lo fl):Inv X pins σ (upd H e (XO C dx e)) s:=by
 obtain ⟨f1,f2,f3,f4,f5,f6⟩:=fe;obtain ⟨oe,vs,q,hc,hdx,hd⟩:=x.there;have ne:∀b o,H b=some o->b≠e:=fun b o r=>aC r f1;refine ⟨I.ok,I.os,I.bare,⟨I.base.keep,I.base.slot,fun b o r n hh=> ?_,I.base.there,fun b xs r=> ?_,fun b o u r=> ?_,fun b ps r=> ?_⟩,I.loc,I.cell, ?_,fun y c r=> ?_,fun p hp=> ?_,fun a o r=> ?_,I.len⟩
 ·rw [aD (fun z=>by rw [z,f4] at r;cases r)]
  exact I.base.free b o r n hh
 ·have r2:=I.base.tups b xs r
  rw [aD (ne b _ r2)];exact r2
 ·have r2:=I.base.qU b o u r
  rw [aD (ne b _ r2)];exact r2
 ·obtain ⟨m,r2⟩:=I.base.rK b ps r
  exact ⟨m,by rw [aD (ne b _ r2)];exact r2⟩
 ·rw [aD (Ne.symm f2)];exact I.free
 ·rw [aD (f5 y c r)];exact I.iB y c r
 ·obtain ⟨a1,a2,a3⟩:=I.pin p hp
  exact ⟨a1,by rw [aD (f6 p hp)];exact a2,a3⟩
 ·by_cases ha:a=e
  ·subst ha
   rw [ao] at r;cases r;exact ⟨⟨oe,vs,q,hc,hdx,hd⟩,⟨oe,q⟩,fun h1 h2 ⟨o1,v1,p1,p2⟩ k=>⟨o1,v1,k _ p1,p2⟩⟩
  ·rw [aD ha] at r
   refine (I.hok a o r).stay (fun _ _ _ z=>z) (fun b z=>by rw [aD (ne b _ z)];exact z) fun b ys z=>by rw [aD (ne b _ z)];exact z
end
section
variable {M:Model} {A:Around} {Er:Value->Shared->Prop} {s:Shared} {K:PySem.W.Frag} {e C D:Addr}
theorem zZ {oe:Obj} {b:Bool} {Q:Bool->Shared->Prop} (X:K.In s.heap) (he:s.heap.get? e=some oe) (hc:oe.cls = .ref C) (hD:(PySem.W.clsIn K D).isSome=true) (hty:PySem.W.typeIn K (.ref D)=some (.type "type"))
 (hB:PySem.W.subIn K (.ref D) (.type "BaseException")=some true) (hs:PySem.W.subIn K (.ref C) (.ref D)=some b) (hq:Q b s):wpAny M A (excMatches (.ref e) (.ref D)) Q Er s:=by
 obtain ⟨hh,g,d,t,os⟩:=s;have L1:PySem.W.Looks M hh (typeOf (.ref D)) (.type "type"):=PySem.W.looks_typeIn X hty;have L2:PySem.W.Looks M hh (isSubtype (.ref D) (.type "BaseException")) true:=PySem.W.looks_subIn X hB;have L3:PySem.W.Looks M hh (isSubtype (.ref C) (.ref D)) b:=PySem.W.looks_subIn X hs
 have L4:PySem.W.Looks M hh (isType (.ref D)) true:=by
  unfold PySem.W.clsIn at hD;split at hD
  ·rename_i c' d' cd' sl' ho
   intro A' Q' E' s' k q;unfold isType loadHead;exact wpAny_bind (wpAny_loadPart (k _ _ (X _ _ ho)) (wpAny_pure q))
  ·cases hD
 have f:=tc_notTuple;unfold excMatches isExcClass isInstance;refine wpAny_bind (wpAny_bind (L1.at ?_));refine wpAny_of_eq f ?_;rw [if_neg (by decide)];refine wpAny_bind (wpAny_pure ?_);simp only [List.forIn_cons,List.forIn_nil];refine wpAny_bind (wpAny_bind (wpAny_bind (wpAny_bind (L4.at ?_))));rw [if_pos rfl];refine L2.at ?_;simp only [Bool.not_true,Bool.false_eq_true,if_false];refine wpAny_pure (wpAny_pure ?_)
 have L0:PySem.W.Looks M hh (typeOf (.ref e)) (.ref C):=by
  intro A' Q' E' s' k q;unfold typeOf;refine wpAny_bind (wpAny_loadPart (k _ _ he) ?_);rw [hc];exact wpAny_pure q
 refine wpAny_bind (L0.at ?_);refine wpAny_bind (wpAny_bind (wpAny_bind (L3.at ?_)));cases b with
 | true=>exact wpAny_pure (wpAny_pure (wpAny_pure hq))
 | false=>exact wpAny_pure (wpAny_pure (wpAny_pure hq))
end
end L2
set_option Elab.async false
set_option linter.all false
set_option maxRecDepth 100000
set_option maxHeartbeats 4000000
namespace L2
open PySem PySem.Spec PyProof.Rows
section
variable {X:Cx} {pins:List (Addr×Obj)} {σ:St} {H:Hp} {s:Shared}
theorem Inv.gone {i:Nat} {n:Str} {m:Str->Option Value} {v:Option Value} {h':Heap} {t:Nat} (I:Inv X pins σ H s) (hN:X.N.Nodup) (hi:X.N[i]? = some n)
 (hm:∀(j:Nat) (x:Str) (u:V),X.N[j]? = some x->σ[j]? = some (some u)->Xk X.env.scope x -> ∃w',RelV u w'/\Look X.env s.heap m x w')
 (hn:h'.Ns X.env.locals (fun x=>if x=n then v else m x)) (sb:Heap.SameBut X.env.locals s.heap h'):Inv X pins (σ.set i none) H {s with heap:=h',toks:=t}:=by
 have Qa:∀b o,X.s₀.heap.get? b=some o->b≠X.env.locals:=fun b o q=>Nat.ne_of_lt (Nat.lt_of_lt_of_le (Heap.lt_size q) I.ok.above);have cl:∀x c,X.env.cells.lookup x=some c -> ∀w',s.heap.IsCell c w'->h'.IsCell c w':=fun x c q w' ⟨o,ho,hd⟩=>⟨o,(sb.2 c (I.Ql x c q)).trans ho,hd⟩;have Bj:∀b o,H b=some o->b≠X.env.locals:=fun b o q=>aC q I.free;refine ⟨I.ok,I.os,I.bare,⟨fun b o q nn hb hx=>(sb.2 b (Qa b o q)).trans (I.base.keep b o q nn hb hx),fun b o q nn hb hx=> ?_,I.base.free,fun b o q hx=> ?_,I.base.tups,I.base.qU,I.base.rK⟩,⟨_,hn,fun j x u e1 e2 e3=> ?_⟩,fun x c q=> ?_,I.free,I.iB,fun p hp=> ?_,fun a o q=> ?_, ?_⟩
 ·obtain ⟨sl,r⟩:=I.base.slot b o q nn hb hx
  exact ⟨sl,(sb.2 b (Qa b o q)).trans r⟩
 ·obtain ⟨o',r⟩:=I.base.there b o q hx
  exact ⟨o',(sb.2 b (Qa b o q)).trans r⟩
 ·have hji:j≠i:=by
   rintro rfl
   by_cases hlt:j<σ.length
   ·rw [List.getElem?_set_self hlt] at e2
    cases e2
   ·rw [List.getElem?_eq_none (by rw [List.length_set];omega)] at e2
    cases e2
  rw [List.getElem?_set_ne (Ne.symm hji)] at e2;obtain ⟨w',r,l⟩:=hm j x u e1 e2 e3;refine ⟨w',r, ?_⟩;have hxn:x≠n:=fun z=>hji (uz hN e1 (by rw [z];exact hi));rcases l with ⟨k,q⟩|⟨k,c,hc,z⟩
  ·exact .inl ⟨k,by show (if x=n then v else m x)=some w';rw [if_neg hxn];exact q⟩
  ·exact .inr ⟨k,c,hc,cl x c hc _ z⟩
 ·obtain ⟨w',z⟩:=I.cell x c q
  exact ⟨w',cl x c q w' z⟩
 ·obtain ⟨q,nn,n1,r⟩:=I.pin p hp
  exact ⟨(sb.2 p.1 n1).trans q,nn,n1,r⟩
 ·refine (I.hok a o q).stay (fun b u hb r=> ?_) (fun _ z=>z) fun _ _ z=>z
  rcases hb with rfl|hb
  ·exact (sb.2 b (Bj b o q)).trans r
  ·exact (sb.2 b (Bj b _ hb)).trans r
 ·show (σ.set i none).length=X.N.length
  rw [List.length_set];exact I.len
theorem nM {M:Model} {A:Around} {E:Value->Shared->Prop} {i:Nat} {n:Str} {pos:Pos} {Q:Unit->Shared->Prop} (I:Inv X pins σ H s) (hN:X.N.Nodup) (hi:X.N[i]? = some n) (hl:X.env.kindOf n=some .local)
 (h:∀s',Inv X pins (σ.set i none) H s'->Q () s'):wpAny M A (do bindName X.env n .none;unbindBehindTheSuite X.env n pos) Q E s:=by
 obtain ⟨m,hn,hm⟩:=I.loc;exact wpAny_nameGoes_keeps hl hn (by rw [I.ok.kind];rfl) fun h' v hn' sb=>h _ (I.gone hN hi hm hn' sb)
end
def W6 (D:Ends) (i:Nat):Ends:={nx:=fun σ H=>D.nx (σ.set i none) H,rt:=D.rt,bk:=fun σ H=>D.bk (σ.set i none) H,ct:=fun σ H=>D.ct (σ.set i none) H}
def Zc (K:PySem.W.Frag) (i:Nat) (Dc:Addr) (tb:(St->XK)->TS) (th:TS):TS:=fun D σ H=>
 tb (fun σ1 cls dx H1=>∃C,cls = .ref C/\PySem.W.subIn K (.ref C) (.ref Dc)=some true /\ ∀e,H1 e=none->th (W6 D i) (σ1.set i (some (.ref e))) (upd H1 e (XO C dx e))) D σ H
structure YL (K:PySem.W.Frag) (D:Addr):Prop where
 cl:(PySem.W.clsIn K D).isSome=true
 ty:PySem.W.typeIn K (.ref D)=some (.type "type")
 bs:PySem.W.subIn K (.ref D) (.type "BaseException")=some true
section
variable {X:Cx} {body suite:List Stmt} {b0:Stmt} {n cn:Str} {i:Nat} {Dc:Addr} {tb:(St->XK)->TS} {th:TS} {cp hpos pos:Pos}
theorem Q6 (hc:X.calm=true) (hx:X.ex=[]) (hst:X.stack=X.env::X.outer) (hfm:X.env.frame=some X.env.locals) (hN:X.N.Nodup) (hi:X.N[i]? = some n) (hl:X.env.kindOf n=some .local) (hg:Gl X cn) (hm:X.mg cn=some (.ref Dc)) (hD:YL X.K Dc)
 (hb:∀(pn:List (Addr×Obj)) (xe:Value->Shared->Prop) (E:St->XK),PassesOwn (model X.prog X.w) X.A X.env xe->Rz {X with pn:=pn,xe:=xe} E->Ay {X with pn:=pn,xe:=xe} body (tb E))
 (hh:∀e,Ay (yH X e) (b0::suite) th) (hd:(cn==("__debug__" :Str))=false:=by decide):
 PS X (.Try body [.ExceptHandler (some (.Name cn cp)) (some n) (b0::suite) hpos] [] [] pos) (Zc X.K i Dc tb th):=by
 intro pins s σ H D I h;refine wpAny_Try_except ?_
 refine wpAny_mono (hb (X.pn++pins) (fun e s₁=>wpAny (model X.prog X.w) X.A (noteFrame e X.env) (fun _ s₂=>wpAny (model X.prog X.w) X.A (setFlight e none) (fun _ s₃=>wpAny (model X.prog X.w) X.A (handleBy e X.env [.ExceptHandler (some (.Name cn cp)) (some n) (b0::suite) hpos]) (SP X pins D) X.xe s₃) X.xe s₂) X.xe s₁) _
  PassesOwn.looking ?_ [] s σ H D (I.Vi _) h) (fun f s1 q=> ?_) fun _ _ q=>q
 ·
  intro lO σ1 H1 s1 e cls dx fl hfl I1 fe x hE;obtain ⟨C,rfl,hsub,hth⟩:=hE;have lo1:∀b,(b=e\/(yU (uN X pins X.xe) lO H1 b\/s1.heap.get? b=none))->yU (uN X pins X.xe) lO H1 b\/s1.heap.get? b=none:=fun b z=>z.elim (fun z=> .inl (by rw [z];exact fe)) fun z=>z;have hfr:X.A.frames=some (X.env::X.outer):=by rw [←hst];exact I.ok.frames
  have hff:s1.heap.FunFrames X.base (X.env::X.outer):=by rw [←hst];exact I1.stack
  refine Pa (base:=X.base) (lo:=fun T=>yU (uN X pins X.xe) lO H1 T\/s1.heap.get? T=none) hfl hfr hff hfm (x.imp fun T _ z=> .inl z) (fun T z=> .inr z) fun h1 n1 x1=> ?_;refine Hv (fr:=frs (X.env::X.outer)) x1 fun h2 n2 x2=> ?_;have n12:m_ (frs X.stack) e (fun T=>yU (uN X pins X.xe) lO H1 T\/s1.heap.get? T=none) s1.heap h2:=by rw [hst];exact n1.trans n2
  have I2:Inv X pins σ1 H1 {s1 with heap:=h2}:=(I1.noted n12 lo1).vU;refine wpAny_handleBy_cons (codeAny_handlers_test (lu (I2.HW e) hg hm ?_ hd)) (by intro z;cases z);obtain ⟨oe,vs,q1,q2,q3,q4⟩:=x2.there;refine zZ (K:=X.K) I2.mZ q1 q2 hD.cl hD.ty hD.bs hsub ?_;rw [if_pos rfl];refine codeAny_handlers_suite_as ?_;refine Hv (fr:=frs (X.env::X.outer)) x2 fun h3 n3 x3=> ?_;have n13:m_ (frs X.stack) e (fun T=>yU (uN X pins X.xe) lO H1 T\/s1.heap.get? T=none) s1.heap h3:=by rw [hst];exact (n1.trans n2).trans n3
  have I3:Inv X pins σ1 H1 {s1 with heap:=h3}:=(I1.noted n13 lo1).vU;have feX:yU X pins H1 e:=⟨fe.1,fe.2.1,fe.2.2.1,fe.2.2.2.1,fe.2.2.2.2.1,fun p hp=>fe.2.2.2.2.2 p (List.mem_append_left _ hp)⟩;have I4:Inv X pins σ1 (upd H1 e (XO C dx e)) {s1 with heap:=h3}:=I3.track hx feX x3;refine pO (X:=yH X e) (I4.HW e) hN hi (.inl hl) (v:= .ref e) rfl (fun s5 I5=> ?_) (.inr hl);refine wpAny_mono (hh e pins s5 _ _ (W6 D i) I5 (hth e fe.1)) (fun f s6 q6=> ?_) fun _ _ z=>z.elim;cases f with
  | next=>
    obtain ⟨σ6,H6,J6,r6⟩:=q6;exact nM (J6.yg I.ok.hd) hN hi hl fun s7 J7=>⟨_,H6,J7,r6⟩
  | brk=>
    obtain ⟨σ6,H6,J6,r6⟩:=q6;exact nM (J6.yg I.ok.hd) hN hi hl fun s7 J7=>⟨_,H6,J7,r6⟩
  | cont=>
    obtain ⟨σ6,H6,J6,r6⟩:=q6;exact nM (J6.yg I.ok.hd) hN hi hl fun s7 J7=>⟨_,H6,J7,r6⟩
  | ret u=>
    obtain ⟨v6,σ6,H6,J6,rv,r6⟩:=q6;exact nM (J6.yg I.ok.hd) hN hi hl fun s7 J7=>⟨v6,_,H6,J7,rv,r6⟩
 ·cases f with
  | next=>obtain ⟨σ1,H1,J,r⟩:=q;exact wpAny_execs_nil ⟨σ1,H1,J.vU,r⟩
  | brk=>obtain ⟨σ1,H1,J,r⟩:=q;exact ⟨σ1,H1,J.vU,r⟩
  | cont=>obtain ⟨σ1,H1,J,r⟩:=q;exact ⟨σ1,H1,J.vU,r⟩
  | ret u=>obtain ⟨v,σ1,H1,J,rv,r⟩:=q;exact ⟨v,σ1,H1,J.vU,rv,r⟩
end
section
variable {X:Cx} {K:PySem.W.Frag}
theorem vA {o:Obj} {vs:Array Value} (h:o.data = .fields vs):PySem.W.notCls o=true:=by
 obtain ⟨c,d,dt,sl⟩:=o;simp only at h;subst h;rfl
theorem K_ {C e:Addr} {P:Program} {w:World} {H:Hp} {h:Heap} (x:fP P w H h e (XO C none e)):∃ox odo,PySem.W.InstAt h e ox C odo:=by
 obtain ⟨⟨oe,vs,q,hc,hd,hf⟩,_⟩:=x;exact ⟨oe,none,⟨q,hc,vA hf,by rw [hd];trivial⟩⟩
theorem Ar {c:Value} {cv:V} (hk:X.K=K) (rc:∀u,RelV cv u->u=c):iZ X (.builtin "isinstance") (fun xs H Q=>∃(e C:Addr) (b:Bool),xs=[.ref e,cv]/\H e=some (XO C none e)/\PySem.W.Tz K C/\PySem.W.kitOne K (.ref C) c=some b/\Q (.bl b) H):=by
 subst hk;intro pins s σ H xs us Q I r h;obtain ⟨e,C,b,rfl,he,xc,hb,q⟩:=h;obtain ⟨u,w',rfl,r1,r2⟩:=vals2 r;cases (show u=Value.ref e from r1);have:=rc _ r2;subst this;exact PySem.W.kia_one (PySem.W.JC xc) I.mZ (K_ (I.hok e _ he)) hb (by intro z;cases z) fun tk=>⟨.bl b,H,I.tok _,rfl,q⟩
end
end L2
set_option Elab.async false
set_option linter.all false
set_option maxRecDepth 100000
set_option maxHeartbeats 4000000
namespace L2
open PySem PySem.Spec PyProof.Rows
section
variable {X:Cx} {K:PySem.W.Frag}
end
structure lV (K:PySem.W.Frag) (C D:Addr) (b:Bool):Prop where
 ne:(Value.ref C==Value.ref D)=false
 sub:PySem.W.subIn K (.ref C) (.ref D)=some b
theorem Ed {K:PySem.W.Frag} {C D:Addr} {b:Bool} (h:YL K D) (p:lV K C D b):PySem.W.kitOne K (.ref C) (.ref D)=some b:=by
 unfold PySem.W.kitOne;rw [if_neg (by rw [p.ne];decide)];show (if ((PySem.W.clsIn K D).isSome&&PySem.W.typeIn K (.ref D)==some (.type "type"))=true then PySem.W.subIn K (.ref C) (.ref D) else none)=some b;rw [if_pos (by rw [h.cl,h.ty];rfl)];exact p.sub
theorem Ac {K:PySem.W.Frag} {C:Addr}:PySem.W.kitOne K (.ref C) (.ref C)=some true:=by
 unfold PySem.W.kitOne;rw [if_pos (by simp)]
end L2
namespace L2
open PySem
structure Xr (K:PySem.W.Frag) (mg:Str->Option Value) (C:Addr) (nm:Str):Prop where
 bd:mg nm=some (.ref C)
 hd:YL K C
 xc:PySem.W.Tz K C
 ex:PySem.W.excIn K C [.type "ValueError",.type "Exception",.type "BaseException",.type "object"] "ValueError.__new__" = true
 ve:PySem.W.subIn K (.ref C) (.type "ValueError")=some true
structure Xo (K:PySem.W.Frag) (mg:Str->Option Value) (C D:Addr) (nm:Str) (b:Bool):Prop where
 bd:mg nm=some (.ref D)
 hd:YL K D
 pr:lV K C D b
end L2
set_option Elab.async false
set_option linter.all false
set_option maxRecDepth 100000
set_option maxHeartbeats 4000000
namespace L2
open PySem PySem.Spec PyProof.Rows
section
variable {X:Cx} {pins:List (Addr×Obj)} {σ:St} {H:Hp} {s:Shared} {h':Heap}
theorem Inv.rY {t':Nat} {fp:List Addr} (I:Inv X pins σ H s) (hf:∀b∈fp,nY X pins H b) (k:∀b o,b∉fp->s.heap.get? b=some o->h'.get? b=some o):Inv X pins σ H {s with heap:=h',toks:=t'}:=by
 have Wc:∀b u,H b=some u->b∉fp:=fun b u e z=>by rw [(hf b z).1] at e;cases e
 refine I.step (g':=s.gens) (d':=s.drawn) (ch:=fp) (fun b hb=> ?_) (fun b o _ _ hc e _=>k b o hc e) (fun b o _ _ hc e _=>⟨o.slots,k b o hc e⟩) (fun _ _ _ _ n=>n)
  (fun b o hc e=>⟨o,k b o hc e⟩) (fun _ _ e=>e) (fun _ _ _ e=>e) (fun b ps e=>⟨#[],by rw [e];simp⟩) (fun m hm=> ?_) (fun b u e=> ?_) I.bare
 ·obtain ⟨f0,f1,f2,f3,f4,f5⟩:=hf b hb
  exact ⟨f3,f1,f4,f5⟩
 ·obtain ⟨o,es,ep,ho,r⟩:=hm
  exact ⟨o,es,ep,k _ o (fun z=>(hf _ z).2.1 rfl) ho,r⟩
 ·refine (I.hok b u e).stay (fun c v hc q=>k c v ?_ q) (fun _ q=>q) fun _ _ q=>q
  rcases hc with z|z
  ·rw [z];exact Wc b u e
  ·exact Wc c _ z
theorem nY.upd {b p:Addr} {o:HO} (h:nY X pins H b) (n:b≠p):nY X pins (upd H p o) b:=by
 obtain ⟨f0,r⟩:=h;exact ⟨by rw [aD n];exact f0,r⟩
theorem Ad {h:Heap} {o u:Obj} {b:Addr} (ho:o.isFreed=false) (e:(h.push o).get? b=some u):(b=h.objs.size/\u=o)\/h.get? b=some u:=by
 by_cases hb:b=h.objs.size
 ·subst hb
  rw [Heap.get?_push_size _ ho] at e;exact .inl ⟨rfl,(Option.some.inj e).symm⟩
 ·refine .inr ?_
  have lt:=Heap.lt_size e
  have Qd:b<h.objs.size:=by
   have:(h.push o).objs.size=h.objs.size+1:=by simp [Heap.push]
   rw [this] at lt;exact Nat.lt_of_le_of_ne (Nat.le_of_lt_succ lt) hb
  have:(h.push o).get? b=h.get? b:=by
   simp only [Heap.get?,Heap.push];rw [Array.getElem?_push_lt Qd,Array.getElem?_eq_getElem Qd]
  rw [←this];exact e
end
section
variable {X:Cx}
end
def Qs (K:PySem.W.Frag) (l1 l2:Addr):It:=
 ⟨fun i H=>∃xs ys x y,aY K H l1 xs/\aY K H l2 ys/\xs[i]? = some x/\ys[i]? = some y,
  fun i H x H'=>∃(p:Addr) (y z:V),x = .ref p/\H p=none/\(∀xs,aY K H l1 xs->xs[i]? = some y)/\(∀ys,aY K H l2 ys->ys[i]? = some z)/\H'=upd H p (.tup [y,z]),
  fun i H=>∃xs ys,aY K H l1 xs/\aY K H l2 ys/\(xs.length<=i\/ys.length<=i)⟩
theorem zx {P:Program} {w:World} {K:PySem.W.Frag} {elts:List Expr} {x1:Nat} {pos:Pos} (z TI TO i1 i2 l1 l2:Addr) (ap:ZipApart z TI TO i1 i2 l1 l2):Turn P w K (.Tuple elts x1 pos) (Qs K l1 l2) [z,TI,TO,i1,i2] z
 (fun i h=>IsZip h z TI TO .none/\IsPair h TI (.ref i1) (.ref i2)/\(∃a b,IsPair h TO a b)/\h.IsListIter i1 l1 i/\h.IsListIter i2 l2 i) where
 mem:=by simp
 obj:=fun i h st b hb=>by
  obtain ⟨hz,hTI,⟨a,c,hTO⟩,⟨o1,h1,c1,d1⟩,⟨o2,h2,c2,d2⟩⟩:=st;have hb':b=z\/b=TI\/b=TO\/b=i1\/b=i2:=by simpa using hb
  rcases hb' with rfl|rfl|rfl|rfl|rfl
  ·exact ⟨_,hz,fun v z=>by cases z⟩
  ·exact ⟨_,hTI,fun v z=>by cases z⟩
  ·exact ⟨_,hTO,fun v z=>by cases z⟩
  ·exact ⟨_,h1,fun v z=>by rw [d1] at z;cases z⟩
  ·exact ⟨_,h2,fun v z=>by rw [d2] at z;cases z⟩
 keep:=fun i h h' st k=>by
  obtain ⟨hz,hTI,⟨a,c,hTO⟩,⟨o1,h1,c1,d1⟩,⟨o2,h2,c2,d2⟩⟩:=st;exact ⟨k z (by simp) _ hz,k TI (by simp) _ hTI,⟨a,c,k TO (by simp) _ hTO⟩,⟨o1,k i1 (by simp) _ h1,c1,d1⟩,⟨o2,k i2 (by simp) _ h2,c2,d2⟩⟩
 item:=by
  intro X hP hw hK hc i pins s σ H E I hf st hg;subst hP hw hK;obtain ⟨xs,ys,x,y,hq1,hq2,hx,hy⟩:=hg;obtain ⟨yt,KY,p1,hz1⟩:=I.list hq1;obtain ⟨its2,Lp,p2,hz2⟩:=I.list hq2;obtain ⟨u1,hu1,Zx⟩:=KY.get hx;obtain ⟨u2,hu2,VG⟩:=Lp.get hy;obtain ⟨hz,hTI,⟨a,c,hTO⟩,hi1,hi2⟩:=st;have Uh:=Heap.lt_size hz;have TQ:=Heap.lt_size hTI;have TJ:=Heap.lt_size hTO;have R_:i1<s.heap.objs.size:=by obtain ⟨o,ho,_⟩:=id hi1;exact Heap.lt_size ho
  have R0:i2<s.heap.objs.size:=by obtain ⟨o,ho,_⟩:=id hi2;exact Heap.lt_size ho
  refine wpAny_pyNext_zip_item ap hz hTI hTO hi1 hi2 p1.isList p2.isList (x:=u1) (y:=u2) (by simpa using hu1) (by simpa using hu2) fun h' hz' SJ Sy hi2' hnew hsz hk=> ?_;refine ⟨_,rfl, ?_⟩;refine wpAny_letOwnedTupleGo_zip hz' fun h2 Sd sb=> ?_;have hfr:H s.heap.objs.size=none:=I.hok.fresh (Nat.le_refl _)
  have I0:Inv X pins σ (upd H s.heap.objs.size (.tup [x,y])) {s with heap:=s.heap.push {cls:= .type "tuple",data:= .seq #[u1,u2]}}:=
   I.laid (t':=s.toks) (fun b u e=>Heap.get?_push_of_some _ e) (Nat.le_refl _) ⟨by show 2<=sizeLine;decide,[u1,u2],.cons Zx (.cons VG .nil),⟨_,Heap.get?_push_size _ rfl,rfl,_,rfl⟩⟩
  have WQ:∀b∈[z,TI,TO,i1,i2],nY X pins (upd H s.heap.objs.size (.tup [x,y])) b:=fun b hb=>by
   refine (hf b hb).upd ?_;have hb':b=z\/b=TI\/b=TO\/b=i1\/b=i2:=by simpa using hb
   rcases hb' with rfl|rfl|rfl|rfl|rfl
   ·exact Nat.ne_of_lt Uh
   ·exact Nat.ne_of_lt TQ
   ·exact Nat.ne_of_lt TJ
   ·exact Nat.ne_of_lt R_
   ·exact Nat.ne_of_lt R0
  have I1:=I0.rY (h':=h2) (t':=s.toks) WQ (fun b o hb eb=>by
   have b1:b≠z:=fun e=>hb (by simp [e]);have b2:b≠TO:=fun e=>hb (by simp [e]);have b3:b≠i1:=fun e=>hb (by simp [e]);have b4:b≠i2:=fun e=>hb (by simp [e]);rw [sb.2 b b1];rcases Ad rfl eb with ⟨rfl,rfl⟩|eb
   ·exact hnew
   ·exact hk b o b1 b2 b3 b4 eb)
  refine ⟨.ref s.heap.objs.size,_,I1,rfl,⟨s.heap.objs.size,x,y,rfl,hfr,fun ys hy=>by rw [I.uG hy hq1];exact hx,fun ys' hy'=>by rw [I.uG hy' hq2];exact hy,rfl⟩, ?_,fun b hb=>(WQ b hb).1⟩;obtain ⟨o1,ho1,c1,d1⟩:=Sy;obtain ⟨o2,ho2,c2,d2⟩:=hi2';exact ⟨Sd,(sb.2 TI ap.TIz).trans (hk TI _ ap.TIz ap.TITO ap.TIi1 ap.TIi2 hTI),⟨_,_,(sb.2 TO ap.TOz).trans SJ⟩,⟨o1,(sb.2 i1 ap.i1z).trans ho1,c1,d1⟩,⟨o2,(sb.2 i2 ap.i2z).trans ho2,c2,d2⟩⟩
 done:=by
  intro X hP hw hK hc i pins s σ H E I hf st hg;subst hP hw hK;obtain ⟨xs,ys,hq1,hq2,hx⟩:=hg;obtain ⟨yt,KY,p1,hz1⟩:=I.list hq1;obtain ⟨its2,Lp,p2,hz2⟩:=I.list hq2;obtain ⟨hz,hTI,⟨a,c,hTO⟩,hi1,hi2⟩:=st;have hl1:=KY.length;have hl2:=Lp.length;refine wpAny_pyNext_zip_end (I.ok.hd hc) ap hz hTI hTO hi1 hi2 p1.isList p2.isList ?_ fun h' eb=>⟨rfl,I.rY (t':=s.toks) hf (fun b o hb e=>eb b o (fun z=>hb (by simp [z])) (fun z=>hb (by simp [z])) (fun z=>hb (by simp [z])) (fun z=>hb (by simp [z])) e)⟩;rcases hx with hx|hx
  ·exact .inl (by simp;omega)
  ·exact .inr (by simp;omega)
 self:=fun _ _ _ _ _ st h=>wpAny_pyIter_zip st.1 h
section
variable {X:Cx}
def aaQ (K:PySem.W.Frag) (ta:TA):TI:=fun σ H R=>ta σ H fun vs H1=>∃l1 l2 xs ys,vs=[.ref l1,.ref l2]/\aY K H1 l1 xs/\aY K H1 l2 ys/\R (Qs K l1 l2) H1
theorem LR {K:PySem.W.Frag} {a b:Expr} {ta:TA} {p pos:Pos} {elts:List Expr} {x1:Nat} {tpos:Pos} (hK:X.K=K) (hg:Gl X "zip") (hm:X.mg "zip" = none) (ha:PA X [a,b] ta) (hs:starEach [a,b] X.env=[(false,eval a X.env),(false,eval b X.env)]:=by rfl) (hs2:starEach [b] X.env=[(false,eval b X.env)]:=by rfl):PI X (.Tuple elts x1 tpos) (.Call (.Name "zip" p) [a,b] [] pos) (aaQ K ta):=by
 subst hK;intro pins s σ H R I h;refine Call_ (qP I hg hm boot_zip (PyProof.Rows.callWith_type1 (dH (ha pos pins s σ H _ I h) fun us s1 ⟨vs,H1,I1,r1,q1⟩=> ?_) (by rw [hs,hs2]) (by rw [hs2];rfl)));obtain ⟨l1,l2,xs,ys,e,hq1,hq2,q⟩:=q1;subst e;cases r1 with
 | cons r rr=>
   cases rr with
   | cons r' rr=>
     cases rr;cases r;cases r';obtain ⟨yt,KY,LK,hz1⟩:=I1.list hq1;obtain ⟨its2,Lp,KZ,hz2⟩:=I1.list hq2;have Wk:l1<s1.heap.objs.size:=by obtain ⟨o,ho,_⟩:=LK.isList;exact Heap.lt_size ho
     have Qd:l2<s1.heap.objs.size:=by obtain ⟨o,ho,_⟩:=KZ.isList;exact Heap.lt_size ho
     refine call_zip_2 LK.isList KZ.isList fun h' hZ hTI hTO hi1 hi2 hsz hk=> ?_;refine wpAny_pyIter_zip hZ ?_;have I2:Inv X pins σ H1 {s1 with heap:=h'}:=I1.kept (t':=s1.toks) hk;refine ⟨s1.heap.objs.size+4,[s1.heap.objs.size+4,s1.heap.objs.size+2,s1.heap.objs.size+3,s1.heap.objs.size,s1.heap.objs.size+1],_,_,H1,rfl,I2,zx _ _ _ _ _ l1 l2 (zipApart_new Wk Qd),⟨hZ,hTI,⟨_,_,hTO⟩,hi1,hi2⟩,fun b hb=> ?_,q⟩
     have hb':s1.heap.objs.size<=b:=by
      have:b=s1.heap.objs.size+4\/b=s1.heap.objs.size+2\/b=s1.heap.objs.size+3\/b=s1.heap.objs.size\/b=s1.heap.objs.size+1:=by simpa using hb
      rcases this with rfl|rfl|rfl|rfl|rfl
      ·exact Nat.le_add_right _ _
      ·exact Nat.le_add_right _ _
      ·exact Nat.le_add_right _ _
      ·exact Nat.le_refl _
      ·exact Nat.le_add_right _ _
     exact I1.yG hb' (I1.hok.fresh hb')
end
end L2
set_option Elab.async false
set_option linter.all false
set_option maxRecDepth 100000
set_option maxHeartbeats 4000000
namespace L2
open PySem PySem.Spec PyProof.Rows
section
variable {K:PySem.W.Frag} {a l1 l2 D:Addr} {xs ys:List V} {g:TG} {tc:TT} {te:TE} {Q:VK} {σ0:St} {H1:Hp}
theorem Kf {n:Nat} (hn1:xs.length=n) (hn2:ys.length=n) (Pv:Nat->St->Hp->Prop) (h0:Pv 0 σ0 (upd H1 D (.lst []))) (hl:∀i σ H,i<=n->Pv i σ H->aY K H l1 xs/\aY K H l2 ys)
 (hs:∀i x y σ H p,xs[i]? = some x->ys[i]? = some y->Pv i σ H->H p=none->g (.ref p) σ (upd H p (.tup [x,y])) fun σ2 H2=>tc σ2 H2 fun b H3=>
   if b=true then te σ2 H3 fun y H4=>∃acc,H4 D=some (.lst acc)/\acc.length<sizeLine/\Pv (i+1) σ2 (upd H4 D (.lst (acc++[y]))) else Pv (i+1) σ2 H3)
 (hd:∀σ H,Pv n σ H->Q (.ref D) H):jF (Qs K l1 l2) g tc te Q D σ0 H1:=by
 refine ⟨fun i m σ H=>m=n - i/\i<=n/\Pv i σ H,⟨n,by simp,Nat.zero_le _,h0⟩, ?_⟩;rintro i m σ H ⟨rfl,hi,p⟩;obtain ⟨q1,q2⟩:=hl i σ H hi p
 by_cases hlt:i<n
 ·refine .inr ⟨⟨xs,ys,xs[i],ys[i],q1,q2,by simp [hn1,hlt],by simp [hn2,hlt]⟩,Pv (i+1),fun σ' H' p'=>⟨n - (i+1),by omega,rfl,hlt,p'⟩,fun x H' y=> ?_⟩
  obtain ⟨t,z,u,rfl,ht,hz,hu,rfl⟩:=y;exact hs i z u σ _ t (hz xs q1) (hu ys q2) p ht
 ·have e:i=n:=by omega
  subst e;exact .inl ⟨⟨xs,ys,q1,q2,.inl (by omega)⟩,hd σ H p⟩
end
section
variable {K:PySem.W.Frag} {a l1 l2:Addr} {xs ys:List V} {g:TG} {tb:TS} {D:Ends} {σ:St} {H:Hp}
end
section
variable {X:Cx}
def Lw:V->List V->Hp->VK->Prop:=fun x vs H Q=>∃l xs i y,x = .ref l/\vs=[.int i,y]/\H l=some (.lst xs)/\0<=i/\i<=xs.length/\xs.length<sizeLine/\Q .non (upd H l (.lst (xs.take i.toNat++y::xs.drop i.toNat)))
theorem Gm:MtM X "list.insert" Lw:=by
 intro pins s σ H x vs v us Q I rx rv h;obtain ⟨l,xs,i,y,rfl,rfl,hH,i0,i1,hz,q⟩:=h;cases rx;obtain ⟨u,u2,rfl,ru,VG⟩:=rv.two;obtain ⟨t,rfl⟩:=ru;obtain ⟨z,its,n,r,hl,e⟩:=I.Gp hH;have l63:=qO
 refine call_meets F.slot_list_insert ⟨_,e,rfl⟩ F.entry_list_insert (F.args_list_insert_3 _ _ _)
  (AutoSeq1.list_insert_list_int_val_1 l its.toArray n i t u2 (by rw [show Builtin.List.listFitsIndex i=true from fitsIndex_both (by omega) (by omega)];decide) (by rw [List.size_toArray];omega)) ⟨e, ?_⟩
 refine ⟨.non,_,I.RN (its':=its.take i.toNat++u2::its.drop i.toNat) hH e ?_ ((r.take _).append (.cons VG (r.drop _))) ?_,rfl,q⟩
 ·have hi:¬i<0:=by omega
  simp only [hi,if_false];have hm:min i.toNat its.toArray.size=i.toNat:=by rw [List.size_toArray];omega
  simp only [hm];apply Array.ext';simp [List.extract_eq_drop_take,List.take_of_length_le]
 ·simp only [List.length_append,List.length_cons,List.length_take,List.length_drop]
  omega
theorem sX:∀{ns:List Int} {us:List Value},Vals (ns.map V.int) us->IntsAre us ns
 | [],us,r=>by cases r;exact .nil
 | n::ns,us,r=>by
   cases r with
   | cons r rs=>
     obtain ⟨t,rfl⟩:=r;exact .cons n t (sX rs)
def Lz:V->List V->Hp->VK->Prop:=fun x vs H Q=>∃(l:Addr) (ns:List Int) (i:Int),x = .ref l/\vs=[.int i]/\aY X.K H l (ns.map V.int)/\Q (.int (ns.count i)) H
theorem Jv:TX X "list.count" (Lz (X:=X)):=by
 intro pins s σ H x vs v us Q I rx rv h;obtain ⟨l,ns,i,rfl,rfl,hq,q⟩:=h;cases rx;obtain ⟨u,rfl,ru⟩:=rv.one;obtain ⟨t,rfl⟩:=ru;obtain ⟨its,r',pl,hz⟩:=I.list hq;exact count_list_ints pl.isList (sX r') ⟨.int _,H,I.tok _,⟨_,rfl⟩,q⟩
theorem ur (ns:List Int):∀n,n<=ns.length->preSum (fun i=>(ns[i]?).getD 0) n=(ns.take n).sum
 | 0,_=>by simp [preSum]
 | n+1,h=>by
   have ih:=ur ns n (by omega);have hn:n<ns.length:=h;rw [List.take_succ,List.sum_append,←ih];simp [preSum,hn]
def Zy (K:PySem.W.Frag):List V->Hp->VK->Prop:=fun xs H Q=>∃(p:Addr) (ns:List Int),xs=[.ref p]/\aY K H p (ns.map V.int)/\Q (.int ns.sum) H
theorem wu {K:PySem.W.Frag} (hK:X.K=K) (hc:X.calm=true):iZ X (.builtin "sum") (Zy K):=by
 subst hK;intro pins s σ H xs us Q I r h;obtain ⟨p,ns,rfl,hq,q⟩:=h;obtain ⟨u,rfl,rx⟩:=vals1 r;cases rx;obtain ⟨its,rv,pl,hz⟩:=I.list hq;have e:=sX rv;have hlen:its.length=ns.length:=by rw [←rv.length,List.length_map]
 refine call_sum_walkG (wpAny_pyIter_list pl.isList ⟨s.heap.objs.size,[s.heap.objs.size,p],[s.heap.objs.size],its.length,_,_,fun i=>(ns[i]?).getD 0,rfl,
  sW (show X.A.in1.handled=none from I.ok.hd hc) s.heap.objs.size p ?_ its,⟨⟨_,Heap.get?_push_size _ rfl,rfl,rfl⟩, ?_⟩, ?_, ?_, ?_⟩)
 ·intro z
  obtain ⟨o,ho,_⟩:=pl.isList;have:=Heap.lt_size ho;rw [←z] at this;exact Nat.lt_irrefl _ this
 ·obtain ⟨o,ho,hcl⟩:=pl.isList
  exact ⟨o,Heap.get?_push_of_some _ ho,hcl⟩
 ·intro b hb
  have hsz:(s.heap.push {cls:= .type "list_iterator",data:= .fields #[.ref p,.int 0 0]}).objs.size=s.heap.objs.size+1:=by simp [Heap.push]
  have hb':b=s.heap.objs.size\/b=p:=by simpa using hb
  show b<(s.heap.push _).objs.size;rw [hsz];rcases hb' with rfl|rfl
  ·exact Nat.lt_succ_self _
  ·obtain ⟨o,ho,_⟩:=pl.isList
   exact Nat.lt_succ_of_lt (Heap.lt_size ho)
 ·intro i v hP
  obtain ⟨j,hj,rj⟩:∃j,ns[i]? = some j /\ ∃t,v = .int j t:=by
   have hi:i<its.length:=(List.getElem?_eq_some_iff.mp hP).1;have hv:=(rv.get (i:=i) (x:=V.int (ns[i]'(by omega))) (by simp [show i<ns.length by omega]));obtain ⟨u,hu,ru⟩:=hv;rw [hP] at hu;cases hu;obtain ⟨t,ht⟩:=ru;exact ⟨ns[i]'(by omega),by simp [show i<ns.length by omega],t,ht⟩
  obtain ⟨t,rfl⟩:=rj;exact ⟨t,by simp [hj]⟩
 ·intro h' tk t' k
  rw [ur ns its.length (by omega),List.take_of_length_le (by omega)];have f:=I.yG (H':=H) (b:=s.heap.objs.size) (Nat.le_refl _) (I.hok.fresh (Nat.le_refl _));have I2:Inv X pins σ H {s with heap:=h',toks:=tk}:=I.turned (h':=h') (t':=tk) (it:=s.heap.objs.size) (fun b o hb e=>k b o (by simpa using hb) (Heap.get?_push_of_some _ e)) f.1 f.2.1 f.2.2.2.1 f.2.2.2.2.1 f.2.2.2.2.2;exact ⟨.int _,H,I2,⟨_,rfl⟩,q⟩
theorem o8 {K:PySem.W.Frag} {T name id:String} {r:V->List V->Hp->VK->Prop} {o e:Expr} {es:List Expr} {to:TE} {t:TA} {apos cpos:Pos} (h:X.K=K) (pa:PlainAttrs T) (slot:Slot T name id) (hty:typeOf (.builtin id)=pure (.type "method_descriptor")) (hm:TX X id r) (ho:PE X o to) (ha:PA X (e::es) t)
 (hbase:attributeBase o name X.env (eval o X.env)=eval o X.env:=by rfl)
 (hfew:((backTo cpos (starEach (e::es) X.env)).all (fun x=> !x.1)&&(backToKw cpos (keywordEach [] X.env)).all (fun x=>x.1.isSome)
   && decide ((e::es).length+([]:List Keyword).length+(if ([]:List Keyword).isEmpty then 0 else 1)<30))=true:=by rfl)
 (hline:(apos.endLine==cpos.line)=true:=by rfl) (hs:starEach (e::es) X.env=(false,eval e X.env)::starEach es X.env:=by rfl) (hplain:(backTo cpos (starEach es X.env)).any (·.1)=false:=by rfl):
 PE X (.Call (.Attribute o name apos) (e::es) [] cpos) (Zg K T r to t):=by
 subst h;exact PN pa slot hty hm ho ha hbase hfew hline hs hplain
def QV (K:PySem.W.Frag):V->List V->Hp->VK->Prop:=fun x vs H Q=>∃(l:Addr) (ns:List Int) (i:Int),x = .ref l/\vs=[.int i]/\aY K H l (ns.map V.int)/\Q (.int (ns.count i)) H
theorem Gn {K:PySem.W.Frag} (h:X.K=K):TX X "list.count" (QV K):=by subst h;exact Jv
theorem xV {K:PySem.W.Frag} {es:List Expr} {k:Nat} {t:K7} {n:Nat} {pos:Pos} (hK:X.K=K) (hc:X.calm=true) (h:U9 X es t)
 (hn:(assignEach es X.env).length=n:=by rfl) (hst:(assignEach es X.env).findIdx? (·.1)=none:=by rfl):PG X (.Tuple es k pos) (NK K n t):=by subst hK;exact Rc hc h hn hst
end
end L2
set_option Elab.async false
set_option linter.all false
set_option maxRecDepth 100000
set_option maxHeartbeats 4000000
namespace L2
open PySem
section
variable {K:PySem.W.Frag} {a D:Addr} {xs:List V} {tc:TT} {te:TE} {Q:VK} {rest:St} {H1:Hp}
theorem eV {α:Type} (f:Nat->Option α) (n:Nat):(List.range (n+1)).filterMap f=(List.range n).filterMap f++(f n).toList:=by
 rw [List.range_succ,List.filterMap_append];cases h:f n<;>simp [h]
theorem uK {α:Type} (f:Nat->Option α) (n:Nat):((List.range n).filterMap f).length<=n:=by
 have:=List.length_filterMap_le f (List.range n);simpa using this
theorem Same.newly {H H1:Hp} {D:Addr} {o:HO} (h:Same H H1) (n:H D=none):Same H (upd H1 D o):=fun b u e=>by rw [aD (aC e n)];exact h b u e
theorem fX (f:Nat->Option V) (hD:H1 D=none) (hq:aY K H1 a xs) (hx:xs.length<=100000)
 (hs:∀i x H (G:Hp->Prop) (F:VK),xs[i]? = some x->Same H1 H->(∀H',Same H H'->f i=none->G H')->(∀y H',Same H H'->f i=some y->F y H')->tc (some x::rest) H fun b H3=>if b=true then te (some x::rest) H3 F else G H3)
 (hd:∀H,Same H1 H->H D=some (.lst ((List.range xs.length).filterMap f))->Q (.ref D) H):jF (K9 K a) (bV 0) tc te Q D (none::rest) H1:=by
 refine eE (K:=K) (xs:=xs) (fun i σ H=>(∃v,σ=v::rest)/\Same H1 H/\H D=some (.lst ((List.range i).filterMap f))) ⟨⟨none,rfl⟩,aF hD,ao⟩ (fun i σ H _ ⟨_,sm,_⟩=>sm.Fy _ _ hq) ?_ (fun σ H ⟨_,sm,e⟩=>hd H sm e);rintro i x σ H hi ⟨⟨v,rfl⟩,sm,e⟩;have hil:i<xs.length:=(List.getElem?_eq_some_iff.mp hi).1;refine hs i x H _ _ hi sm (fun H3 s3 ef=>⟨⟨_,rfl⟩,sm.trans s3,by rw [s3 _ _ e,eV,ef];simp⟩) (fun y H4 s4 ef=> ?_);refine ⟨_,s4 _ _ e, ?_,⟨_,rfl⟩,(sm.trans s4).newly hD, ?_⟩
 ·have:=uK f i
  rw [sizeLine_eq];omega
 ·rw [ao,eV,ef];rfl
theorem j5 {n:Nat} (f:Nat->Option V) (hD:H1 D=none) (hx:n<=100000)
 (hs:∀i H (G:Hp->Prop) (F:VK),i<n->Same H1 H->(∀H',Same H H'->f i=none->G H')->(∀y H',Same H H'->f i=some y->F y H')->tc (some (.int (0+i))::rest) H fun b H3=>if b=true then te (some (.int (0+i))::rest) H3 F else G H3)
 (hd:∀H,Same H1 H->H D=some (.lst ((List.range n).filterMap f))->Q (.ref D) H):jF (Oz 0 n) (bV 0) tc te Q D (none::rest) H1:=by
 refine lD (lo:=0) (n:=n) (fun i σ H=>(∃v,σ=v::rest)/\Same H1 H/\H D=some (.lst ((List.range i).filterMap f))) ⟨⟨none,rfl⟩,aF hD,ao⟩ ?_ (fun σ H ⟨_,sm,e⟩=>hd H sm e);rintro i σ H hi ⟨⟨v,rfl⟩,sm,e⟩;refine hs i H _ _ hi sm (fun H3 s3 ef=>⟨⟨_,rfl⟩,sm.trans s3,by rw [s3 _ _ e,eV,ef];simp⟩) (fun y H4 s4 ef=> ?_);refine ⟨_,s4 _ _ e, ?_,⟨_,rfl⟩,(sm.trans s4).newly hD, ?_⟩
 ·have:=uK f i
  rw [sizeLine_eq];omega
 ·rw [ao,eV,ef];rfl
theorem GK {l1 l2:Addr} {ys:List V} {n:Nat} (hn1:xs.length=n) (hn2:ys.length=n) (f:Nat->Option V) (hD:H1 D=none) (hq1:aY K H1 l1 xs) (hq2:aY K H1 l2 ys) (hx:n<=100000)
 (hs:∀i x y H (G:Hp->Prop) (F:VK),xs[i]? = some x->ys[i]? = some y->Same H1 H->(∀H',Same H H'->f i=none->G H')->(∀y H',Same H H'->f i=some y->F y H')->tc (some x::some y::rest) H fun b H3=>if b=true then te (some x::some y::rest) H3 F else G H3)
 (hd:∀H,Same H1 H->H D=some (.lst ((List.range n).filterMap f))->Q (.ref D) H):jF (Qs K l1 l2) (NK K 2 (Ae (bV 0) (Ae (bV 1) S5))) tc te Q D (none::none::rest) H1:=by
 refine Kf (K:=K) (xs:=xs) (ys:=ys) hn1 hn2 (fun i σ H=>(∃u v,σ=u::v::rest)/\Same H1 H/\H D=some (.lst ((List.range i).filterMap f))) ⟨⟨none,none,rfl⟩,aF hD,ao⟩ (fun i σ H _ ⟨_,sm,_⟩=>⟨sm.Fy _ _ hq1,sm.Fy _ _ hq2⟩) ?_ (fun σ H ⟨_,sm,e⟩=>hd H sm e);rintro i x y σ H p hix hiy ⟨⟨u,v,rfl⟩,sm,e⟩ hp;have sp:=aF (o:=HO.tup [x,y]) hp;refine ⟨p,[x,y],rfl,cu.of ao,rfl,_,_,rfl,_,_,rfl,rfl, ?_⟩;have hil:i<xs.length:=(List.getElem?_eq_some_iff.mp hix).1;refine hs i x y _ _ _ hix hiy (sm.trans sp) (fun H3 s3 ef=>⟨⟨_,_,rfl⟩,(sm.trans sp).trans s3,by rw [s3 _ _ (sp _ _ e),eV,ef];simp⟩) (fun y H4 s4 ef=> ?_);refine ⟨_,s4 _ _ (sp _ _ e), ?_,⟨_,_,rfl⟩,((sm.trans sp).trans s4).newly hD, ?_⟩
 ·have:=uK f i
  rw [sizeLine_eq];omega
 ·rw [ao,eV,ef];rfl
theorem Ag {α β:Type} {f g:α->Option β}:∀(l:List α) (_:True) (h:∀x∈l,f x=g x),l.filterMap f=l.filterMap g
 | [],_,_=>rfl
 | x::l,_,h=>by
   rw [List.filterMap_cons,List.filterMap_cons,h x (by simp),Ag l trivial fun y hy=>h y (by simp [hy])]
theorem snocInd {α:Type} {P:List α->Prop} (h0:P []) (hs:∀xs x,P xs->P (xs++[x])) (xs:List α):P xs:=by
 rw [←List.reverse_reverse xs]
 induction xs.reverse with
 | nil=>exact h0
 | cons x l ih=>rw [List.reverse_cons];exact hs _ _ ih
theorem jd {α β:Type} (xs:List α) (g:α->β):(List.range xs.length).filterMap (fun i=>(xs[i]?).map g)=xs.map g:=by
 refine snocInd (P:=fun xs=>(List.range xs.length).filterMap (fun i=>(xs[i]?).map g)=xs.map g) rfl (fun xs x ih=> ?_) xs
 ·show (List.range (xs++[x]).length).filterMap (fun i=>((xs++[x])[i]?).map g)=(xs++[x]).map g
  rw [List.length_append,List.length_singleton,eV,List.map_append];congr 1
  ·rw [←ih]
   refine Ag _ trivial fun i hi=> ?_;have:i<xs.length:=by simpa using hi
   rw [List.getElem?_append_left this]
  ·simp
end
end L2
namespace L2
open PySem
section
variable {X:Cx} {K:PySem.W.Frag}
end
end L2
namespace L2
open PySem
theorem pQ {a b:TS} {D:Ends} {σ:St} {H:Hp} (h:∀R:St->Hp->Prop,(∀σ' H',b D σ' H'->R σ' H')->a {D with nx:=R} σ H):Fv a b D σ H:=h _ (fun _ _ x=>x)
theorem g_ {a b:TS} {D:Ends} {σ:St} {H:Hp} (P:St->Hp->Prop) (h1:∀D':Ends,(∀σ' H',P σ' H'->D'.nx σ' H')->D'.rt=D.rt->a D' σ H) (h2:∀σ' H',P σ' H'->b D σ' H'):Fv a b D σ H:=h1 _ h2 rfl
end L2
namespace L2
open PySem PySem.Spec PyProof.Rows
section
variable {X:Cx} {K:PySem.W.Frag} {a:Expr} {ta:TE} {pos:Pos}
end
end L2
set_option Elab.async false
set_option linter.all false
set_option maxRecDepth 100000
set_option maxHeartbeats 4000000
namespace L2
open PySem PySem.Spec PyProof.Rows
section
variable {X:Cx} {K:PySem.W.Frag}
theorem xW {T name id:String} {r:V->List V->Hp->VK->Prop} {o:Expr} {to:TE} {apos cpos:Pos} (h:X.K=K) (pa:PlainAttrs T) (slot:Slot T name id) (hty:typeOf (.builtin id)=pure (.type "method_descriptor")) (hm:TX X id r) (ho:PE X o to)
 (hbase:attributeBase o name X.env (eval o X.env)=eval o X.env:=by rfl) (hline:(apos.endLine==cpos.line)=true:=by rfl):PE X (.Call (.Attribute o name apos) [] [] cpos) (Vs K T r to):=by
 subst h;exact Rh pa slot hty hm ho hbase hline
end
section
variable {K:PySem.W.Frag} {a D:Addr} {xs:List V} {te:TE} {Q:VK} {rest:St} {H1:Hp}
theorem v9 {H:Hp} {vs:List V} {ds:List PyData} {v:V} {d:PyData} (h:bH H vs ds) (hd:Dat H v d):bH H (vs++[v]) (ds++[d]):=bH.append h (by simp only [bH,and_true];exact hd)
end
end L2
set_option Elab.async false
set_option linter.all false
namespace L2
open PySem
def Gv (mg:Str->Option Value) (x:Str) (v:V):Prop:=∃u,mg x=some u/\RelV v u
end L2
set_option Elab.async false
set_option linter.all false
set_option maxRecDepth 100000
set_option maxHeartbeats 4000000
namespace L2
open PySem PySem.Spec PyProof.Rows
section
variable {prog:Program} {w:World} {K:Type} [DecidableEq K] {knd:HeapKind prog w K}
end
section
variable {X:Cx} {o e f:Expr} {td ty tx:TE} {apos cpos:Pos}
end
end L2
namespace L2
open PySem PySem.Spec PyProof.Rows
section
variable {X:Cx} {K:PySem.W.Frag}
end
end L2
namespace L2
open PySem
end L2
set_option Elab.async false
set_option linter.all false
set_option maxRecDepth 100000
set_option maxHeartbeats 4000000
namespace L2
open PySem PySem.Spec PyProof.Rows
section
variable {X:Cx} {K:PySem.W.Frag}
end
def cat:List Str->Str
 | []=>Str.empty
 | x::xs=>x++cat xs
end L2
set_option Elab.async false
set_option linter.all false
set_option maxRecDepth 100000
set_option maxHeartbeats 4000000
namespace L2
open PySem PySem.Spec PyProof.Rows
section
variable {X:Cx} {body suite:List Stmt} {b0:Stmt} {cn:Str} {Dc:Addr} {tb:(St->XK)->TS} {th:TS} {cp hpos pos:Pos}
end
end L2
namespace L2
open PySem PySem.Spec PyProof.Rows
section
variable {X:Cx}
def XH (i j:Int):Prop:=0<j/\j<1329227995784915872903807060280344576
theorem zT:nU X (binaryOp .FloorDiv) (rI XH fun i j=> .int (i / j)):=V4 fun i j _ _ _ _ _ hc q=>by
 have h1:(0:Int)<j:=hc.1;have h2:j<1329227995784915872903807060280344576:=hc.2;refine floordiv_int (by omega) (by rw [Int.fdiv_eq_ediv_of_nonneg i (by omega)];exact q) (.inl ?_);unfold Builtin.divisionGoesByPylong;have hn:j.natAbs<2 ^ 120:=by omega
 have hl:j.natAbs.log2<120:=(Nat.log2_lt (by omega)).mpr hn
 have hz:(j==0)=false:=by
  rw [beq_eq_false_iff_ne];omega
 simp only [hz,Bool.false_eq_true,if_false];have:¬j.natAbs.log2 / 30+1>300:=by omega
 rw [decide_eq_false this,Bool.false_and]
end
end L2
set_option Elab.async false
set_option linter.all false
set_option maxRecDepth 100000
set_option maxHeartbeats 4000000
namespace L2
open PySem PySem.Spec PyProof.Rows
section
variable {X:Cx} {pins:List (Addr×Obj)} {σ:St} {H:Hp} {s:Shared} {d:Addr} {u u':HO}
end
section
variable {X:Cx} {tg:Expr}
end
section
variable {d D:Addr} {o:Obj} {kvs:List (Key×V)} {tc:TT} {te:TE} {Q:VK} {rest:St} {H1:Hp}
end
end L2
set_option Elab.async false
set_option linter.all false
set_option maxRecDepth 100000
set_option maxHeartbeats 4000000
namespace L2
open PySem PySem.Spec PyProof.Rows
section
variable {X:Cx} {tg:Expr}
end
end L2
set_option Elab.async false
set_option linter.all false
set_option maxRecDepth 100000
set_option maxHeartbeats 4000000
namespace L2
open PySem PySem.Spec PyProof.Rows
section
variable {X:Cx} {tg:Expr}
end
end L2
set_option Elab.async false
set_option linter.all false
set_option maxRecDepth 100000
set_option maxHeartbeats 4000000
namespace L2
open PySem PySem.Spec PyProof.Rows
section
variable {X:Cx}
end
end L2
set_option Elab.async false
set_option linter.all false
set_option maxRecDepth 100000
set_option maxHeartbeats 4000000
namespace L2
open PySem PySem.Spec PyProof.Rows
section
variable {H H':Hp}
mutual
theorem Dat.same (k:Same H H'):∀(d:PyData) {v:V},Dat H v d->Dat H' v d
 | .none,_,h=>by simp only [Dat] at h ⊢;exact h
 | .bool _,_,h=>by simp only [Dat] at h ⊢;exact h
 | .int _,_,h=>by simp only [Dat] at h ⊢;exact h
 | .str _,_,h=>by simp only [Dat] at h ⊢;exact h
 | .list ds,_,h=>by simp only [Dat] at h ⊢;obtain ⟨a,vs,e,q,r⟩:=h;exact ⟨a,vs,e,k _ _ q,bH.same k ds r⟩
 | .tuple ds,_,h=>by simp only [Dat] at h ⊢;obtain ⟨a,vs,e,q,r⟩:=h;exact ⟨a,vs,e,k _ _ q,bH.same k ds r⟩
 | .dict _,_,h=>by simp only [Dat] at h
theorem bH.same (k:Same H H'):∀(ds:List PyData) {vs:List V},bH H vs ds->bH H' vs ds
 | [],[],_=>by simp only [bH]
 | d::ds,v::vs,h=>by simp only [bH] at h ⊢;exact ⟨Dat.same k d h.1,bH.same k ds h.2⟩
 | _::_,[],h=>by simp only [bH] at h
 | [],_::_,h=>by simp only [bH] at h
end
end
section
variable {X:Cx} {K:PySem.W.Frag}
theorem m6 (K:PySem.W.Frag):PySem.W.kitOne K (.type "tuple") (.type "list")=some false:=by kernel_rfl
theorem jw (K:PySem.W.Frag):PySem.W.kitOne K (.type "list") (.type "tuple")=some false:=by kernel_rfl
end
section
variable {K:PySem.W.Frag} {a D:Addr} {xs:List V} {tc:TT} {te:TE} {Q:VK} {rest:St} {H1:Hp}
end
section
variable {X:Cx}
end
end L2
set_option Elab.async false
set_option linter.all false
set_option maxRecDepth 100000
set_option maxHeartbeats 4000000
namespace L2
open PySem PySem.Spec PyProof.Rows
section
variable {X:Cx} {K:PySem.W.Frag} {e st:Expr} {te tk:TE} {pos p2:Pos}
end
end L2
set_option Elab.async false
set_option linter.all false
set_option maxRecDepth 100000
set_option maxHeartbeats 4000000
namespace L2
open PySem PySem.Spec PyProof.Rows
section
variable {H:Hp}
mutual
theorem Dat.fn:∀(d e:PyData) {v:V},Dat H v d->Dat H v e->d=e
 | .none,e,v,h,g=>by cases e<;>simp only [Dat] at h g<;>first |rfl|(subst h;first |(obtain ⟨_,_,z,_⟩:=g;cases z;done)|(cases g;done))
 | .bool _,e,v,h,g=>by cases e<;>simp only [Dat] at h g<;>first |(subst h;first |(injection g with g;rw [g];done)|(obtain ⟨_,_,z,_⟩:=g;cases z;done)|(cases g;done))
 | .int _,e,v,h,g=>by cases e<;>simp only [Dat] at h g<;>first |(subst h;first |(injection g with g;rw [g];done)|(obtain ⟨_,_,z,_⟩:=g;cases z;done)|(cases g;done))
 | .str _,e,v,h,g=>by cases e<;>simp only [Dat] at h g<;>first |(subst h;first |(injection g with g;rw [g];done)|(obtain ⟨_,_,z,_⟩:=g;cases z;done)|(cases g;done))
 | .list ds,.list es,v,h,g=>by
   simp only [Dat] at h g;obtain ⟨a,vs,rfl,ha,da⟩:=h;obtain ⟨b,ws,e,hb,db⟩:=g;injection e with e
   subst e;rw [ha] at hb;injection hb with hb
   injection hb with hb
   subst hb;rw [bH.fn ds es da db]
 | .tuple ds,.tuple es,v,h,g=>by
   simp only [Dat] at h g;obtain ⟨a,vs,rfl,ha,da⟩:=h;obtain ⟨b,ws,e,hb,db⟩:=g;injection e with e
   subst e;rw [ha] at hb;injection hb with hb
   injection hb with hb
   subst hb;rw [bH.fn ds es da db]
 | .list ds,.tuple es,v,h,g=>by
   simp only [Dat] at h g;obtain ⟨a,vs,rfl,ha,da⟩:=h;obtain ⟨b,ws,e,hb,db⟩:=g;injection e with e
   subst e;rw [ha] at hb;injection hb with hb
   cases hb
 | .tuple ds,.list es,v,h,g=>by
   simp only [Dat] at h g;obtain ⟨a,vs,rfl,ha,da⟩:=h;obtain ⟨b,ws,e,hb,db⟩:=g;injection e with e
   subst e;rw [ha] at hb;injection hb with hb
   cases hb
 | .list ds,.none,v,h,g=>by simp only [Dat] at h g;obtain ⟨a,vs,rfl,_⟩:=h;cases g
 | .list ds,.bool _,v,h,g=>by simp only [Dat] at h g;obtain ⟨a,vs,rfl,_⟩:=h;cases g
 | .list ds,.int _,v,h,g=>by simp only [Dat] at h g;obtain ⟨a,vs,rfl,_⟩:=h;cases g
 | .list ds,.str _,v,h,g=>by simp only [Dat] at h g;obtain ⟨a,vs,rfl,_⟩:=h;cases g
 | .tuple ds,.none,v,h,g=>by simp only [Dat] at h g;obtain ⟨a,vs,rfl,_⟩:=h;cases g
 | .tuple ds,.bool _,v,h,g=>by simp only [Dat] at h g;obtain ⟨a,vs,rfl,_⟩:=h;cases g
 | .tuple ds,.int _,v,h,g=>by simp only [Dat] at h g;obtain ⟨a,vs,rfl,_⟩:=h;cases g
 | .tuple ds,.str _,v,h,g=>by simp only [Dat] at h g;obtain ⟨a,vs,rfl,_⟩:=h;cases g
 | .list ds,.dict _,v,h,g=>by simp only [Dat] at g
 | .tuple ds,.dict _,v,h,g=>by simp only [Dat] at g
 | .dict _,_,v,h,g=>by simp only [Dat] at h
theorem bH.fn:∀(ds es:List PyData) {vs:List V},bH H vs ds->bH H vs es->ds=es
 | [],[],_,_,_=>rfl
 | d::ds,e::es,v::vs,h,g=>by
   simp only [bH] at h g;rw [Dat.fn d e h.1 g.1,bH.fn ds es h.2 g.2]
 | [],_::_,[],_,g=>by simp only [bH] at g
 | [],_::_,_::_,h,_=>by simp only [bH] at h
 | _::_,[],[],h,_=>by simp only [bH] at h
 | _::_,[],_::_,_,g=>by simp only [bH] at g
 | _::_,_::_,[],h,_=>by simp only [bH] at h
end
end
section
variable {X:Cx}
end
end L2
set_option Elab.async false
set_option linter.all false
set_option maxRecDepth 100000
set_option maxHeartbeats 4000000
namespace L2
open PySem PySem.Spec PyProof.Rows
section
variable {X:Cx} {K:PySem.W.Frag} {e e1 e2 l:Expr} {te t1 t2 tl:TE} {pos:Pos} {tg:Expr}
end
section
variable {X:Cx}
end
end L2
set_option Elab.async false
set_option linter.all false
set_option maxRecDepth 100000
set_option maxHeartbeats 4000000
namespace L2
open PySem PySem.Spec PyProof.Rows PySem.Builtin PySem.Builtin.Str
section
variable {X:Cx} {K:PySem.W.Frag}
def Its (x:Str):It:=⟨fun i _=>i<x.cps.size,fun i H v H'=>H'=H /\ ∃c,x.cps[i]? = some c/\v = .str ⟨#[c]⟩,fun i _=>x.cps.size<=i⟩
theorem HS {P:Program} {w:World} {K:PySem.W.Frag} {tg:Expr} (x:Str) (t:Tok) (it:Addr):Turn P w K tg (Its x) [it] it (fun i h=>i<=x.cps.size/\(h.IsStrIter it "str_ascii_iterator" x t i\/h.IsStrIter it "str_iterator" x t i)) where
 mem:=by simp
 obj:=fun i h st b hb=>by
  have e:b=it:=by simpa using hb
  subst e;rcases st.2 with ⟨o,e,c,d⟩|⟨o,e,c,d⟩
  ·exact ⟨o,e,fun v z=>by rw [d] at z;cases z⟩
  ·exact ⟨o,e,fun v z=>by rw [d] at z;cases z⟩
 keep:=fun i h h' st k=>⟨st.1,st.2.imp (fun ⟨o,e,r⟩=>⟨o,k it (by simp) o e,r⟩) (fun ⟨o,e,r⟩=>⟨o,k it (by simp) o e,r⟩)⟩
 item:=by
  intro X hP hw hK hc i pins s σ H E I hf st hg;subst hP hw hK;have hi:i<x.cps.size:=hg;have hx:x.cps[i]? = some x.cps[i]:=by simp [hi]
  obtain ⟨f0,f1,f2,f3,f4,f5⟩:=hf it (by simp);rcases st.2 with st|st
  ·refine wpAny_pyNext_ascii_item st hx fun h' st' sb=> ?_
   have I1:Inv X pins σ H {s with heap:=h',toks:=s.toks+1}:=I.turned (t':=s.toks+1) (fun b o hb e=>(sb.2 b hb).trans e) f0 f1 f3 f4 f5;obtain ⟨o,e,c,d⟩:=id st';exact ⟨_,rfl,Ej (s:={s with heap:=h',toks:=s.toks+1}) e c d (by decide) ⟨.str ⟨#[x.cps[i]]⟩,H,I1,⟨_,rfl⟩,⟨rfl,_,hx,rfl⟩,⟨hi,.inl st'⟩,fun b hb=>(hf b hb).1⟩⟩
  ·refine wpAny_pyNext_wide_item st hx fun h' st' sb=> ?_
   have I1:Inv X pins σ H {s with heap:=h',toks:=s.toks+1}:=I.turned (t':=s.toks+1) (fun b o hb e=>(sb.2 b hb).trans e) f0 f1 f3 f4 f5;obtain ⟨o,e,c,d⟩:=id st';exact ⟨_,rfl,Ej (s:={s with heap:=h',toks:=s.toks+1}) e c d (by decide) ⟨.str ⟨#[x.cps[i]]⟩,H,I1,⟨_,rfl⟩,⟨rfl,_,hx,rfl⟩,⟨hi,.inr st'⟩,fun b hb=>(hf b hb).1⟩⟩
 done:=by
  intro X hP hw hK hc i pins s σ H E I hf st hg;subst hP hw hK;have hx:x.cps[i]? = none:=by simpa using (show x.cps.size<=i from hg)
  obtain ⟨f0,f1,f2,f3,f4,f5⟩:=hf it (by simp);rcases st.2 with st|st
  ·exact wpAny_pyNext_ascii_end (I.ok.hd hc) st hx fun h' eb=>⟨rfl,I.turned (t':=s.toks) (fun b o hb e=>eb b o hb e) f0 f1 f3 f4 f5⟩
  ·exact wpAny_pyNext_wide_end (I.ok.hd hc) st hx fun h' eb=>⟨rfl,I.turned (t':=s.toks) (fun b o hb e=>eb b o hb e) f0 f1 f3 f4 f5⟩
 self:=fun _ _ _ _ _ st h=>st.2.elim (fun st=>wpAny_pyIter_striter_ascii st h) (fun st=>wpAny_pyIter_striter_wide st h)
def aaR (tl:TE):TI:=fun σ H R=>tl σ H fun x H1=>∃a,x = .str a/\R (Its a) H1
theorem Rb {tg l:Expr} {tl:TE} (hl:PE X l tl):PI X tg l (aaR tl):=by
 intro pins s σ H R I h;refine dH (hl pins s σ H _ I h) fun v s1 ⟨x,H1,I1,r1,q1⟩=> ?_;obtain ⟨a,rfl,q⟩:=q1;obtain ⟨t,rfl⟩:=r1
 have fin:∀o,(s1.heap.push o).IsStrIter s1.heap.objs.size "str_ascii_iterator" a t 0\/(s1.heap.push o).IsStrIter s1.heap.objs.size "str_iterator" a t 0->PIE X pins σ tg R (.ref s1.heap.objs.size) {s1 with heap:=s1.heap.push o}:=by
  intro o st;refine ⟨s1.heap.objs.size,[s1.heap.objs.size],_,_,H1,rfl,I1.kept (t':=s1.toks) fun b o e=>Heap.get?_push_of_some _ e,HS a t _,⟨Nat.zero_le _,st⟩,fun b hb=> ?_,q⟩;have e:b=s1.heap.objs.size:=by simpa using hb
  subst e;exact I1.yG (Nat.le_refl _) (I1.hok.fresh (Nat.le_refl _))
 cases ha:a.cps.all (· < 128)
 ·exact wpAny_pyIter_wide ha (fin _ (.inr ⟨_,Heap.get?_push_size _ rfl,rfl,rfl⟩))
 ·exact wpAny_pyIter_ascii ha (fin _ (.inl ⟨_,Heap.get?_push_size _ rfl,rfl,rfl⟩))
end
section
variable {K:PySem.W.Frag} {D:Addr} {tc:TT} {te:TE} {Q:VK} {rest:St} {H1:Hp}
theorem GQ {x:Str} {g:TG} {σ0:St} (Pv:Nat->St->Hp->Prop) (h0:Pv 0 σ0 (upd H1 D (.lst [])))
 (hs:∀i c σ H,x.cps[i]? = some c->Pv i σ H->g (.str ⟨#[c]⟩) σ H fun σ2 H2=>tc σ2 H2 fun b H3=>
   if b=true then te σ2 H3 fun y H4=>∃acc,H4 D=some (.lst acc)/\acc.length<sizeLine/\Pv (i+1) σ2 (upd H4 D (.lst (acc++[y]))) else Pv (i+1) σ2 H3)
 (hd:∀σ H,Pv x.cps.size σ H->Q (.ref D) H):jF (Its x) g tc te Q D σ0 H1:=by
 refine ⟨fun i m σ H=>m=x.cps.size - i/\i<=x.cps.size/\Pv i σ H,⟨x.cps.size,by simp,Nat.zero_le _,h0⟩, ?_⟩;rintro i m σ H ⟨rfl,hi,p⟩
 by_cases hlt:i<x.cps.size
 ·refine .inr ⟨hlt,Pv (i+1),fun σ' H' p'=>⟨x.cps.size - (i+1),by omega,rfl,hlt,p'⟩,fun y H' e=> ?_⟩
  obtain ⟨e,c,hc,rfl⟩:=e;subst e;exact hs i c σ _ hc p
 ·have e:i=x.cps.size:=by omega
  subst e;exact .inl ⟨Nat.le_refl _,hd σ H p⟩
theorem GP {x:Str} (f:Nat->Option V) (hD:H1 D=none) (hx:x.cps.size<=100000)
 (hs:∀i c H (G:Hp->Prop) (F:VK),x.cps[i]? = some c->Same H1 H->(∀H',Same H H'->f i=none->G H')->(∀y H',Same H H'->f i=some y->F y H')->tc (some (.str ⟨#[c]⟩)::rest) H fun b H3=>if b=true then te (some (.str ⟨#[c]⟩)::rest) H3 F else G H3)
 (hd:∀H,Same H1 H->H D=some (.lst ((List.range x.cps.size).filterMap f))->Q (.ref D) H):jF (Its x) (bV 0) tc te Q D (none::rest) H1:=by
 refine GQ (fun i σ H=>(∃v,σ=v::rest)/\Same H1 H/\H D=some (.lst ((List.range i).filterMap f))) ⟨⟨none,rfl⟩,aF hD,ao⟩ ?_ (fun σ H ⟨_,sm,e⟩=>hd H sm e);rintro i c σ H hi ⟨⟨v,rfl⟩,sm,e⟩;have hil:i<x.cps.size:=(Array.getElem?_eq_some_iff.mp hi).1;refine hs i c H _ _ hi sm (fun H3 s3 ef=>⟨⟨_,rfl⟩,sm.trans s3,by rw [s3 _ _ e,eV,ef];simp⟩) (fun y H4 s4 ef=> ?_);refine ⟨_,s4 _ _ e, ?_,⟨_,rfl⟩,(sm.trans s4).newly hD, ?_⟩
 ·have:=uK f i
  rw [sizeLine_eq];omega
 ·rw [ao,eV,ef];rfl
end
section
variable {X:Cx}
end
end L2
set_option Elab.async false
set_option linter.all false
set_option maxRecDepth 100000
set_option maxHeartbeats 4000000
namespace L2
open PySem PySem.Spec PyProof.Rows PySem.Builtin PySem.Builtin.Str
end L2
set_option Elab.async false
set_option linter.all false
set_option maxRecDepth 100000
set_option maxHeartbeats 4000000
namespace L2
open PySem PySem.Spec PyProof.Rows
section
variable (P:Program) (w:World) (K:PySem.W.Frag) (mg:Str->Option Value) (base:Heap)
def MethAt (k:Nat) (C:Addr) (m:Str) (ps:List Str) (sp:Sp):Prop:=∃f fd,bU P w K mg base gF k f fd ps sp/\Meth K C m f/\Binds K fd ps []
def gw (k:Nat) (C:Addr) (m:Str) (ps:List Str) (sp:Sp):Prop:=∃f fd,bU P w K mg base (oH P w) k f fd ps sp/\Meth K C m f/\Binds K fd ps []
def lF (k:Nat) (C:Addr) (x:Str) (ps:List Str) (oA:List V) (sp:Sp):Prop:=∃f fd ds,bU P w K mg base gF k f fd ps sp/\Mk K C f/\mg x=some (.ref C)/\Binds K fd ps ds/\Vals oA ds
def sS (k:Nat) (C:Addr) (x:Str) (ps:List Str) (oA:List V) (sp:Sp):Prop:=∃f fd ds,bU P w K mg base (oH P w) k f fd ps sp/\Mk K C f/\mg x=some (.ref C)/\Binds K fd ps ds/\Vals oA ds
def yX (k:Nat) (C:Addr) (x:Str) (ps:List Str) (kn:Str) (sp:Sp):Prop:=∃f fd,bU P w K mg base (oH P w) k f fd ps sp/\Mk K C f/\mg x=some (.ref C) /\
 ∀(s:Shared) (us:List Value) (z:Value),K.In s.heap->(us++[z]).length=ps.length->BindsTo s fd ⟨us,[(kn,z)]⟩ (ps.zip (us++[z]))
end
section
variable {P:Program} {w:World} {K:PySem.W.Frag} {mg:Str->Option Value} {base:Heap} {k:Nat} {C:Addr} {m x:Str} {ps:List Str} {sp:Sp} {oA:List V}
theorem bU.calm {f:Addr} {fd:FuncData} (G:bU P w K mg base (oH P w) k f fd ps sp):bU P w K mg base gF k f fd ps (fun vs H Q _=>sp vs H Q fun _ _ _=>False):=by
 refine ⟨fun vs H Q E q=>G.len vs H Q _ q,fun A outer s H args us vs Q E hr he hbd hv hs=> ?_⟩;refine codeAny_mono (G.run A outer s H args us vs Q (fun _ _ _=>False) hr he hbd hv hs) fun res s' hq=> ?_
 match res,hq with
 | .error ev,hq=>
   obtain ⟨e,cls,dx,H',_,_,_,_,_,_,_,_,z⟩:=hq;exact z.elim
 | .ok (.ret u),hq=>exact hq
theorem gw.calm (F:gw P w K mg base k C m ps sp):MethAt P w K mg base k C m ps (fun vs H Q _=>sp vs H Q fun _ _ _=>False):=by
 obtain ⟨f,fd,G,r⟩:=F;exact ⟨f,fd,G.calm,r⟩
theorem sS.calm (F:sS P w K mg base k C x ps oA sp):lF P w K mg base k C x ps oA (fun vs H Q _=>sp vs H Q fun _ _ _=>False):=by
 obtain ⟨f,fd,ds,G,r⟩:=F;exact ⟨f,fd,ds,G.calm,r⟩
end
section
variable {X:Cx} {k:Nat} {C:Addr} {x m:Str} {ps:List Str} {sp:Sp} {oA:List V} {e o:Expr} {es:List Expr} {ta:TE} {t:TA} {p pos apos:Pos} {E:St->XK}
theorem cO {pl:Sem Bool} (M:MethAt X.prog X.w X.K X.mg X.base k C m ps sp) (c:Cls X.K C) (hr:dN k X.A) (he:PE X o ta) (ha:PA X (e::es) t)
 (hst:starEach (e::es) X.env=(false,eval e X.env)::starEach es X.env:=by rfl) (hpl:(backTo pos (starEach es X.env)).any (·.1)=false:=by rfl)
 (ht:eval (.Call (.Attribute o m apos) (e::es) [] pos) X.env=(do
   let ov ←eval o X.env
   standAt apos.atName
   let (f,first) ←holding [ov] (getMethod ov m pl)
   callWith pos f first (backTo pos (starEach (e::es) X.env)) (backToKw pos (keywordEach [] X.env))):=by rfl):
 PE X (.Call (.Attribute o m apos) (e::es) [] pos) (Dl C m sp [] E0 ta t):=by
 obtain ⟨f,fd,G,hm,hb⟩:=M;exact Mf he c hm G hr hb .nil zR ha hst hpl ht
theorem cY {pl:Sem Bool} (M:MethAt X.prog X.w X.K X.mg X.base k C m ps sp) (c:Cls X.K C) (hr:dN k X.A) (he:PE X o ta)
 (ht:eval (.Call (.Attribute o m apos) [] [] pos) X.env=(do
   let ov ←eval o X.env
   standAt apos.atName
   let (f,first) ←holding [ov] (getMethod ov m pl)
   callWith pos f first (backTo pos (starEach [] X.env)) (backToKw pos (keywordEach [] X.env))):=by rfl):
 PE X (.Call (.Attribute o m apos) [] [] pos) (Dl C m sp [] E0 ta sZ):=by
 obtain ⟨f,fd,G,hm,hb⟩:=M;exact Iz he c hm G hr hb .nil zR ht
def QG (C:Addr) (m:Str) (sp:Sp) (E:St->XK) (ta:TE) (t:TA):TE:=fun σ H Q=>ta σ H fun x H1=>∃a dx fs,x = .ref a/\H1 a=some (.ins C dx fs)/\fs.lookup m=none/\t σ H1 fun vs H2=>sp (x::vs) H2 Q (E σ)
theorem Lq {pins:List (Addr×Obj)} {σ:St} {H:Hp} {s:Shared} {Q:VK} {us:List Value} {vs:List V} {f:Addr} {fd:FuncData} (G:bU X.prog X.w X.K X.mg X.base (oH X.prog X.w) k f fd ps sp) (hx:X.ex=[]) (R:Rz X E) (hr:dN k X.A) (hb:Binds X.K fd ps [])
 (I:Inv X pins σ H s) (r:Vals vs us) (q:sp vs H Q (E σ)):wpAny (model X.prog X.w) X.A (call (.ref f) us) (EP X pins σ Q) X.xe s:=by
 have hlen:us.length=ps.length:=by rw [←r.length];exact G.len _ _ _ _ q
 have hbd:=hb s us I.mZ (by rw [List.append_nil];exact hlen);rw [List.append_nil] at hbd;refine wpAny_call (codeAny_mono (G.run X.A X.stack s H ⟨us,[]⟩ us vs Q (E σ) hr I.env0 hbd r q) fun res s' hq=> ?_)
 match res,hq with
 | .error ev,hq=>exact xX hx R I hq
 | .ok (.ret u),hq=>exact I.after hq
theorem iz {pl:Sem Bool} (M:gw X.prog X.w X.K X.mg X.base k C m ps sp) (c:Cls X.K C) (hx:X.ex=[]) (R:Rz X E) (hr:dN k X.A) (he:PE X o ta) (ha:PA X (e::es) t)
 (hst:starEach (e::es) X.env=(false,eval e X.env)::starEach es X.env:=by rfl) (hpl:(backTo pos (starEach es X.env)).any (·.1)=false:=by rfl)
 (ht:eval (.Call (.Attribute o m apos) (e::es) [] pos) X.env=(do
   let ov ←eval o X.env
   standAt apos.atName
   let (f,first) ←holding [ov] (getMethod ov m pl)
   callWith pos f first (backTo pos (starEach (e::es) X.env)) (backToKw pos (keywordEach [] X.env))):=by rfl):
 PE X (.Call (.Attribute o m apos) (e::es) [] pos) (QG C m sp E ta t):=by
 obtain ⟨f,fd,G,hm,hb⟩:=M;intro pins s σ H Q I h;refine PySem.W.methodCall_KW (pl:=pl) (dH (he pins s σ H _ I h) fun u s1 ⟨x,H1,I1,rx,a,dx,fs,ex,ea,l,q⟩=> ?_) ht;subst ex;obtain rfl:u=Value.ref a:=rx;refine pG I1 ea c hm l ?_;refine PySem.W.callWith_K (first:=[.ref a]) (h₀:=X.base) I.ok.mod.Ho hm.kp (dH (ha pos pins s1 σ H1 _ I1 q) fun us s2 ⟨vs,H2,I2,r,q2⟩=>⟨I2.mZ, ?_⟩) hst hpl;exact Lq (us:= .ref a::us) (vs:= .ref a::vs) G hx R hr hb I2 (.cons rfl r) q2
theorem jY (M:lF X.prog X.w X.K X.mg X.base k C x ps oA sp) (hr:dN (k+1) X.A) (hg:Gl X x) (ha:PA X (e::es) t) (hdb:(x==("__debug__" :Str))=false:=by decide)
 (he:starEach (e::es) X.env=(false,eval e X.env)::starEach es X.env:=by rfl) (hpl:(backTo pos (starEach es X.env)).any (·.1)=false:=by rfl):
 PE X (.Call (.Name x p) (e::es) [] pos) (Pn C sp oA E0 t):=by
 obtain ⟨f,fd,ds,G,mk,hm,hb,hd⟩:=M;exact Mg mk G hr hg hm hb hd zR ha hdb he hpl
theorem FP {pins:List (Addr×Obj)} {σ:St} {H:Hp} {s:Shared} {Q:VK} {args:Args} {us:List Value} {vs:List V} {f:Addr} {fd:FuncData} (M:Mk X.K C f) (G:bU X.prog X.w X.K X.mg X.base (oH X.prog X.w) k f fd ps sp) (hx:X.ex=[]) (R:Rz X E) (hr:dN (k+1) X.A)
 (I:Inv X pins σ H s) (r:Vals vs us) (hb:∀s':Shared,X.K.In s'.heap -> ∀a:Addr,(Value.ref a::us).length=ps.length->BindsTo s' fd ⟨Value.ref a::args.pos,args.kw⟩ (ps.zip (Value.ref a::us)))
 (h:∀x dx,H x=none->H dx=none->dx≠x->sp (.ref x::vs) (upd (upd H dx (.own x)) x (.ins C dx [])) (fun v H2=>v = .non/\Q (.ref x) H2) (E σ)):
 wpAny (model X.prog X.w) X.A (call (.ref C) args.pos args.kw) (EP X pins σ Q) X.xe s:=by
 have hq:=h (s.heap.objs.size+1) s.heap.objs.size (I.hok.fresh (Nat.le_succ _)) (I.hok.fresh (Nat.le_refl _)) (Nat.ne_of_lt (Nat.lt_succ_self _));have I2:=Inv.made (C:=C) I;have r2:Vals (V.ref (s.heap.objs.size+1)::vs) (Value.ref (s.heap.objs.size+1)::us):= .cons rfl r
 have hl:(Value.ref (s.heap.objs.size+1)::us).length=ps.length:=by
  have e:=r2.length;rw [G.len _ _ _ _ hq] at e;exact e.symm
 refine wpAny_call (z_ (f:=f) I.mZ M.makes M.init (beq_iff_eq.mp M.fn) (codeAny_mono (G.run _ X.stack _ _ ⟨Value.ref (s.heap.objs.size+1)::args.pos,args.kw⟩ (Value.ref (s.heap.objs.size+1)::us) _ _ (E σ) (hr.make C args.pos args.kw)
  (I2.env0.make C args.pos args.kw) (hb _ I2.mZ _ hl) r2 hq) fun r s' hq'=> ?_))
 match r,hq' with
 | .error ev,hq'=>exact xX hx R I2 hq'
 | .ok (.ret u),hq'=>
   obtain ⟨v,H',I3,rv,ev,q3⟩:=I2.after hq';subst ev;exact ⟨rv,⟨V.ref (s.heap.objs.size+1),H',I3,rfl,q3⟩⟩
end
end L2
namespace L2
open PySem PySem.Spec PyProof.Rows PySem.Builtin PySem.Builtin.Str
section
variable {X:Cx} {K:PySem.W.Frag} {o e value:Expr} {f:Str} {pos pos' tpos:Pos} {ta tv:TE}
theorem bJ (hK:X.K=K) (he:PE X e ta) (hb:attributeBase e f X.env (eval e X.env)=eval e X.env):PE X (.Attribute e f pos) (Vr K ta f):=by subst hK;exact Rg he hb
theorem dD (hK:X.K=K) (ha:PE X o ta) (hv:PE X value tv) (hs:swapsWith value (some (.Attribute o f pos')) pos.line X.env=pure false):PS X (.Assign [.Attribute o f pos'] value pos) (Vx K ta tv f):=by subst hK;exact Q7 ha hv hs
theorem uq {op:Operator} {rd:V->V->Hp->VK->Prop} (hK:X.K=K) (ha:PE X o ta) (hv:PE X value tv) (hop:XF X op rd):PS X (.AugAssign (.Attribute o f tpos) op value pos) (Dy K ta tv rd f):=by subst hK;exact FT ha hv hop
def VN:V->List V->Hp->VK->Prop:=fun x vs H Q=>∃(a y:Str) (i:Nat) (r:List Nat),x = .str a/\vs=[.str y]/\occurrences a y 0 a.length 1=i::r/\Q (.int i) H
theorem jZ:TX X "str.index" VN:=by
 intro pins s σ H x vs v us Q I rx rv h;obtain ⟨a,y,i,r,rfl,rfl,ho,q⟩:=h;obtain ⟨t,rfl⟩:=rx;obtain ⟨u,rfl,ru⟩:=rv.one;obtain ⟨t2,rfl⟩:=ru;exact call_meets PySem.F.slot_str_index (typeIs_str _ _ _) PySem.F.entry_str_index (PySem.F.args_str_index_2 _ _) (gives_str_index a y t t2 i r ho).meets ⟨.int i,H,I.tok _,⟨_,rfl⟩,q⟩
end
structure OD (K:PySem.W.Frag) (x qual:Str) (st:Stmt) (ds:List Value) (f:Addr) (fd:FuncData):Prop where
 ex:∃(oc:Value) (od:Option Addr) (T:Addr) (kV doc pm:Value) (an:Option Addr) (cdv ct:Value) (osl:Array (Option Value)) (tc:Value) (td:Option Addr) (tn:Nat) (Pb:Array (Option Value)),
  fd=PySem.W.fnOf x qual (dF st) (eX st) (aN st) (.ref T) kV doc pm an cdv ct/\K.lookup f=some ⟨oc,od,.func fd,osl⟩/\PySem.W.codeIn K cdv qual=true/\K.lookup T=some ⟨tc,td,.seq ds.toArray tn,Pb⟩
 kp:PySem.W.keepIn K (.ref f)=true
section
variable {P:Program} {w:World} {K:PySem.W.Frag} {mg:Str->Option Value} {base:Heap}
theorem OD.M4 {x qual:Str} {st:Stmt} {ds:List Value} {f:Addr} {fd:FuncData} {N ps:List Str} {k:Nat} {sp:Sp} (F:OD K x qual st ds f fd) (S:bA N ps (aN st)) (len:∀vs H Q E,sp vs H Q E->vs.length=ps.length)
 (hbody:∀(cdv:Value) (A:Around) (outer:List Env) (s:Shared) (H:Hp) (vs:List V) (Q:VK) (E:XK),dN k (A.deeper (envOfC qual (aN st) s.heap.objs.size f cdv))->sp vs H Q E ->
   Rz (mz (oH P w) P w K mg base N qual (aN st) f cdv A outer s H E) (fun _=>E) ->
   ∃t,Ay (mz (oH P w) P w K mg base N qual (aN st) f cdv A outer s H E) (eX st) t/\t {nx:=fun _ H'=>Q .non H',rt:=Q} (start N vs) H):bU P w K mg base (oH P w) (k+1) f fd ps sp:=by
 obtain ⟨oc,od,T,kV,doc,pm,an,cdv,ct,osl,tc,td,tn,Pb,rfl,lk,hcd,_⟩:=F.ex;exact JT lk hcd S len fun A outer s H vs Q E hr hsp=>hbody cdv A outer s H vs Q E hr hsp zP
end
section
variable {X:Cx} {k:Nat} {C:Addr} {x kn:Str} {ps:List Str} {sp:Sp} {e ke:Expr} {es:List Expr} {te:TE} {t:TA} {p pos kpos:Pos} {E:St->XK}
def QH (C:Addr) (sp:Sp) (E:St->XK) (t:TA) (te:TE):TE:=fun σ H Q=>t σ H fun vs H1=>te σ H1 fun z H2=>∃z',[z]=[z'] /\ ∀x dx,H2 x=none->H2 dx=none->dx≠x ->
 sp (.ref x::(vs++[z'])) (upd (upd H2 dx (.own x)) x (.ins C dx [])) (fun v H3=>v = .non/\Q (.ref x) H3) (E σ)
theorem IK (M:yX X.prog X.w X.K X.mg X.base k C x ps kn sp) (hx:X.ex=[]) (R:Rz X E) (hr:dN (k+1) X.A) (hg:Gl X x) (ha:PA X (e::es) t) (hk:PE X ke te) (hdb:(x==("__debug__" :Str))=false:=by decide)
 (hall:(backToKw pos (keywordEach [⟨some kn,ke,kpos⟩] X.env)).all (·.1.isSome)=true:=by rfl) (hks:(backToKw pos (keywordEach [⟨some kn,ke,kpos⟩] X.env)).filterMap (·.1)=[kn]:=by rfl)
 (he:starEach (e::es) X.env=(false,eval e X.env)::starEach es X.env:=by rfl)
 (hpl:((backTo pos (starEach (e::es) X.env)).any (·.1)||(backToKw pos (keywordEach [⟨some kn,ke,kpos⟩] X.env)).any (·.1.isNone))=false:=by rfl):
 PE X (.Call (.Name x p) (e::es) [⟨some kn,ke,kpos⟩] pos) (QH C sp E t te):=by
 obtain ⟨f,fd,G,mk,hm,hb⟩:=M;intro pins s σ H Q I h;refine wpAny_Call_Name_kw (lu I hg hm ?_ hdb);refine PySem.W.callWith_KW (h₀:=X.base) I.ok.mod.Ho mk.kp hall (dH (ha pos pins s σ H _ I h) fun us s1 ⟨vs,H1,I1,r,q⟩=> ?_) hpl he
 refine dH ((LQ (nm:=some kn) (kpos:=kpos) hk Ra) pos pins s1 σ H1 (fun zs H2=>∃z',zs=[z'] /\ ∀x dx,H2 x=none->H2 dx=none->dx≠x ->
  sp (.ref x::(vs++[z'])) (upd (upd H2 dx (.own x)) x (.ins C dx [])) (fun v H3=>v = .non/\Q (.ref x) H3) (E σ)) I1 q) fun ws s2 ⟨zs,H2,I2,rz,z',ez,q2⟩=>⟨I2.mZ, ?_⟩
 subst ez;obtain ⟨z,rfl,rz1⟩:=rz.one;rw [hks];exact FP (args:=⟨us,[(kn,z)]⟩) (us:=us++[z]) (vs:=vs++[z']) mk G hx R hr I2 (r.append rz) (fun s' ki a hl=>hb s' (Value.ref a::us) z ki hl) q2
end
end L2
set_option Elab.async false
set_option linter.all false
set_option maxRecDepth 100000
set_option maxHeartbeats 4000000
namespace L2
open PySem PySem.Spec PyProof.Rows
section
variable {prog:Program} {w:World} {A:Around} {E:Value->Shared->Prop} {s:Shared} {it d:Addr} {ep:Nat} {od:Obj} {es:Array DictEntry}
end
end L2
set_option Elab.async false
set_option linter.all false
set_option maxRecDepth 100000
set_option maxHeartbeats 4000000
namespace L2
open PySem PySem.Spec PyProof.Rows
section
variable {X:Cx} {pins:List (Addr×Obj)} {σ:St} {H:Hp} {s:Shared} {d:Addr}
end
section
variable {X:Cx} {tg:Expr}
end
section
variable {d D:Addr} {o:Obj} {kvs:List (List Key×V)} {tc:TT} {te:TE} {Q:VK} {rest:St} {H1:Hp}
end
end L2
set_option Elab.async false
set_option linter.all false
set_option maxRecDepth 100000
set_option maxHeartbeats 4000000
namespace L2
open PySem PySem.Spec PyProof.Rows
section
variable {prog:Program} {w:World} {A:Around} {E:Value->Shared->Prop} {s:Shared}
theorem zu {l:Addr} {u v:Value} {Q:List Value->Shared->Prop} (hh:A.handled=none) (hl:s.heap.IsList l #[u,v]) (hQ:∀h',Heap.ExtBut s.heap.objs.size s.heap h'->Q [u,v] {s with heap:=h'}):
 wpAny (model prog w) A (unpackItems (.ref l) 2 none) Q E s:=by
 obtain ⟨o,ho,hc,hd⟩:=id hl;have ne:l≠s.heap.objs.size:=Nat.ne_of_lt (Heap.lt_size ho);unfold unpackItems notIterableAtAll;refine wpAny_bind (wpAny_bind (wpAny_specialOf (T:= "list") ⟨o,ho,hc⟩ F.slot_list_iter.lookup (wpAny_pure ?_)));simp only [Bool.false_eq_true,if_false];refine wpAny_bind (wpAny_holding (wpAny_pyIter_list hl (wpAny_bind (wpAny_holding ?_))));have l1:(s.heap.push {cls:= .type "list_iterator",data:= .fields #[.ref l,.int 0 0]}).IsList l #[u,v]:=⟨o,Heap.get?_push_of_some _ ho,hc,hd⟩;show wpAny _ _ (pyNext (.ref s.heap.objs.size) >>= _) _ _ _;refine wpAny_bind (wpAny_pyNext_list_item ⟨_,Heap.get?_push_size _ rfl,rfl,rfl⟩ l1 (x:=u) rfl fun h1 i1 b1=>wpAny_bind (wpAny_holding ?_));have l2:h1.IsList l #[u,v]:=by obtain ⟨o',ho',r⟩:=l1;exact ⟨o',(b1.2 l ne).trans ho',r⟩
 show wpAny _ _ (pyNext (.ref s.heap.objs.size) >>= _) _ _ _;refine wpAny_bind (wpAny_pyNext_list_item i1 l2 (x:=v) rfl fun h2 i2 b2=>wpAny_bind (wpAny_holding ?_));have l3:h2.IsList l #[u,v]:=by obtain ⟨o',ho',r⟩:=l2;exact ⟨o',(b2.2 l ne).trans ho',r⟩
 show wpAny _ _ (pure []) _ _ _;refine wpAny_pure (wpAny_pure (wpAny_pure ?_));rw [if_neg (by simp)];refine wpAny_bind (wpAny_holding (wpAny_pyNext_list_end hh i2 l3 rfl fun h3 e3=> ?_));simp only [Option.isSome_none,Bool.false_eq_true,if_false];exact wpAny_pure (hQ h3 fun b o hb e=>e3 b o hb ((b2.2 b hb).trans ((b1.2 b hb).trans (Heap.get?_push_of_some _ e))))
end
section
variable {X:Cx} {pos:Pos}
def WY (K:PySem.W.Frag) (t:K7):TG:=fun v σ H Q=>∃a x y,v = .ref a/\aY K H a [x,y]/\t [x,y] σ H Q
theorem Iv {K:PySem.W.Frag} {es:List Expr} {k:Nat} {t:K7} (hK:X.K=K) (hc:X.calm=true) (h:U9 X es t)
 (hn:(assignEach es X.env).length=2:=by rfl) (hst:(assignEach es X.env).findIdx? (·.1)=none:=by rfl):PG X (.Tuple es k pos) (WY K t):=by
 subst hK;intro pins s σ H v u Q I r hw;obtain ⟨a,x,y,e1,hq,hw⟩:=hw;subst e1;cases r;obtain ⟨its,rv,p,hz⟩:=I.list hq;obtain ⟨u1,u2,rfl,r1,r2⟩:=vals2 rv;rw [assign_Tuple];refine wpAny_bind (wpAny_standAt ?_);unfold unpack;rw [hn,hst];refine wpAny_bind (wpAny_holding (zu (I.ok.hd hc) p.isList fun h' hx=> ?_));have I1:Inv X pins σ H {s with heap:=h'}:=I.kept (t':=s.toks) fun b o e=>hx b o (Nat.ne_of_lt (Heap.lt_size e)) e;exact h pins _ σ H _ _ Q I1 rv hw
end
end L2
set_option Elab.async false
set_option linter.all false
set_option maxRecDepth 100000
set_option maxHeartbeats 4000000
namespace L2
open PySem
abbrev Tg:=Addr->List Nat
def aM (τ:Tg) (x:Addr) (t:List Nat):Tg:=fun y=>if y=x then t else τ y
theorem bB {τ:Tg} {x:Addr} {t:List Nat}:aM τ x t x=t:=if_pos rfl
theorem aP {τ:Tg} {x y:Addr} {t:List Nat} (h:y≠x):aM τ x t y=τ y:=if_neg h
def j8 (τ:Tg) (H:Hp):Prop:=∀x,H x=none->τ x=[]
theorem j8.dom {τ:Tg} {H H':Hp} (u:j8 τ H) (d:∀x,H' x=none->H x=none):j8 τ H':=fun x e=>u x (d x e)
theorem j8.same {τ:Tg} {H H':Hp} (u:j8 τ H) (k:Same H H'):j8 τ H':=u.dom fun _ e=>k.free e
theorem j8.claim {τ:Tg} {H H':Hp} {p:Addr} {t:List Nat} (u:j8 τ H) (k:Same H H') (hp:∃o,H' p=some o):j8 (aM τ p t) H':=fun x e=>by
 have n:x≠p:=fun z=>by
  obtain ⟨o,ho⟩:=hp;rw [z,ho] at e;cases e
 rw [aP n];exact u.same k x e
theorem bZ {τ:Tg} {a b:Addr} {s t:List Nat} (ha:τ a=s) (hb:τ b=t) (h:s≠t):a≠b:=fun e=>h (by rw [←ha,←hb,e])
structure lW (i:Nat) (τ:Tg) (H H':Hp):Prop where
 keep:∀x o,H x=some o->(τ x).head?≠some i->H' x=some o
 tup:∀x xs,H x=some (.tup xs)->H' x=some (.tup xs)
 dom:∀x,H' x=none->H x=none
theorem lW.of_same {i:Nat} {τ:Tg} {H H':Hp} (k:Same H H'):lW i τ H H':=⟨fun x o e _=>k _ _ e,fun x xs e=>k _ _ e,fun x e=>k.free e⟩
theorem lW.trans {i:Nat} {τ:Tg} {H H1 H2:Hp} (a:lW i τ H H1) (b:lW i τ H1 H2):lW i τ H H2:=⟨fun x o e n=>b.keep _ _ (a.keep _ _ e n) n,fun x xs e=>b.tup _ _ (a.tup _ _ e),fun x e=>a.dom _ (b.dom _ e)⟩
theorem lW.set {i:Nat} {τ:Tg} {H:Hp} {x:Addr} {o u:HO} (ht:(τ x).head?=some i) (hx:H x=some o) (hn:∀xs,o ≠ .tup xs):lW i τ H (upd H x u):=by
 refine ⟨fun y v e n=> ?_,fun y xs e=> ?_,fun y e=> ?_⟩
 ·have z:y≠x:=fun z=>n (by rw [z];exact ht)
  rw [aD z];exact e
 ·rw [aD (cG e hx fun z=>hn xs z.symm)];exact e
 ·by_cases z:y=x
  ·rw [z,ao] at e;cases e
  ·rw [aD z] at e;exact e
theorem lW.un {i:Nat} {τ:Tg} {H H':Hp} (a:lW i τ H H') (u:j8 τ H):j8 τ H':=u.dom a.dom
structure Mv (i:Nat) (τ:Tg) (H:Hp) (τ':Tg) (H':Hp):Prop where
 keep:∀x o,H x=some o->τ x=[0]\/(τ x).head?=some i->H' x=some o/\τ' x=τ x
 tup:∀x xs,H x=some (.tup xs)->H' x=some (.tup xs)
theorem Mv.of_same {i:Nat} {τ:Tg} {H H':Hp} (k:Same H H'):Mv i τ H τ H':=⟨fun x o e _=>⟨k _ _ e,rfl⟩,fun x xs e=>k _ _ e⟩
theorem Mv.tags {i:Nat} {τ τ':Tg} {H H':Hp} (k:Same H H') (t:∀x o,H x=some o->τ' x=τ x):Mv i τ H τ' H':=⟨fun x o e _=>⟨k _ _ e,t x o e⟩,fun x xs e=>k _ _ e⟩
theorem Mv.claim {i:Nat} {τ:Tg} {H H':Hp} {p:Addr} {t:List Nat} (k:Same H H') (hp:H p=none):Mv i τ H (aM τ p t) H':= .tags k fun x o e=>aP (aC e hp)
theorem Mv.gC {i j:Nat} {τ:Tg} {H H':Hp} (k:lW j τ H H') (h:j≠i) (h0:j≠0):Mv i τ H τ H':=⟨fun x o e t=>⟨k.keep _ _ e (by
 rcases t with t|t
 ·rw [t];intro z;exact h0 (Option.some.inj z).symm
 ·rw [t];intro z;exact h (Option.some.inj z).symm),rfl⟩,k.tup⟩
theorem Mv.V6 {i:Nat} {τ:Tg} {H H':Hp} {a:Addr} {o:HO} (k:Kp a H H') (ha:H a=some o) (hn:∀xs,o ≠ .tup xs) (ht:τ a=[]):Mv i τ H τ H':=⟨fun x u e t=>⟨k _ _ e (fun z=>by
 rw [z,ht] at t;rcases t with t|t<;>cases t),rfl⟩,fun x xs e=>k _ _ e (cG e ha fun z=>hn xs z.symm)⟩
theorem Mv.trans {i:Nat} {τ τ1 τ2:Tg} {H H1 H2:Hp} (a:Mv i τ H τ1 H1) (b:Mv i τ1 H1 τ2 H2):Mv i τ H τ2 H2:=⟨fun x o e t=>by
 obtain ⟨e1,t1⟩:=a.keep x o e t;obtain ⟨e2,t2⟩:=b.keep x o e1 (by rw [t1];exact t);exact ⟨e2,by rw [t2,t1]⟩,fun x xs e=>b.tup _ _ (a.tup _ _ e)⟩
end L2
set_option Elab.async false
set_option linter.all false
set_option maxRecDepth 100000
set_option maxHeartbeats 4000000
namespace Prf
open PySem L2
inductive Hs where
 | num (n:Int)
 | box (b:Nat)
 deriving DecidableEq
inductive zj where
 | one (x:Hs)
 | two (p:Bool) (x y:Hs)
 deriving DecidableEq
inductive Rw where
 | load (b c:Nat)
 | store (c:Nat) (e:zj)
 | swap (b c:Nat) (e:zj)
 | pC (b:Nat) (e:zj)
 | say (e:zj)
 | go (k:Nat)
 | oh (q:Bool) (e f:zj) (k:Nat)
 deriving DecidableEq
def qg (b:Nat):Str:=⟨#[97+b]⟩
def vI:Hs->PyData
 | .num n=> .tuple [.str "number",.int n]
 | .box b=> .tuple [.str "box",.str (qg b)]
def j4:zj->PyData
 | .one x=>vI x
 | .two p x y=> .tuple [.str (if p then "plus" else "minus"),vI x,vI y]
def jg:Rw->PyData
 | .load b c=> .tuple [.str "load",.str (qg b),.int c]
 | .store c e=> .tuple [.str "store",.int c,j4 e]
 | .swap b c e=> .tuple [.str "swap",.str (qg b),.int c,j4 e]
 | .pC b e=> .tuple [.str "let",.str (qg b),j4 e]
 | .say e=> .tuple [.str "say",j4 e]
 | .go k=> .tuple [.str "go",.int k]
 | .oh q e f k=> .tuple [.str "unless",.str (if q then "=" else "<"),j4 e,j4 f,.int k]
def HB:Hs->Prop
 | .num n=>0<=n/\n<1000
 | .box b=>b<8
def nW:zj->Prop
 | .one x=>HB x
 | .two _ x y=>HB x/\HB y
def um (m:Nat):Rw->Prop
 | .load b c=>b<8/\c<m
 | .store c e=>c<m/\nW e
 | .swap b c e=>b<8/\c<m/\nW e
 | .pC b e=>b<8/\nW e
 | .say e=>nW e
 | .go _=>True
 | .oh _ e f _=>nW e/\nW f
theorem Cv:∀x:Hs,Ei (vI x)=true
 | .num _=>rfl
 | .box _=>rfl
theorem qT:∀e:zj,Ei (j4 e)=true
 | .one x=>Cv x
 | .two p x y=>by simp only [j4,Ei,qR,Cv,Bool.and_self]
theorem pD:∀r:Rw,Ei (jg r)=true
 | .load _ _=>rfl
 | .store _ e=>by simp only [jg,Ei,qR,qT,Bool.and_self]
 | .swap _ _ e=>by simp only [jg,Ei,qR,qT,Bool.and_self]
 | .pC _ e=>by simp only [jg,Ei,qR,qT,Bool.and_self]
 | .say e=>by simp only [jg,Ei,qR,qT,Bool.and_self]
 | .go _=>rfl
 | .oh _ e f _=>by simp only [jg,Ei,qR,qT,Bool.and_self]
section
variable {H:Hp} {v:V}
theorem d9 {vs:List V} {d:PyData} {ds:List PyData} (h:bH H vs (d::ds)):∃v ws,vs=v::ws/\Dat H v d/\bH H ws ds:=by
 cases vs with
 | nil=>exact h.elim
 | cons v ws=>exact ⟨v,ws,rfl,h.1,h.2⟩
theorem je {vs:List V} (h:bH H vs []):vs=[]:=by
 cases vs with
 | nil=>rfl
 | cons v ws=>exact h.elim
theorem Ez {x:Hs} (h:Dat H v (vI x)):∃t,v = .ref t/\H t=some (.tup (match x with | .num n=>[.str "number",.int n] | .box b=>[.str "box",.str (qg b)])):=by
 cases x<;>simp only [vI,Dat] at h<;>obtain ⟨t,vs,rfl,e,d⟩:=h<;>refine ⟨t,rfl, ?_⟩<;>rw [e] <;>
 ·obtain ⟨_,_,rfl,e1,U8⟩:=d9 d
  obtain ⟨_,_,rfl,e2,Kd⟩:=d9 U8;cases je Kd;cases e1;cases e2;rfl
theorem Ks {p:Bool} {x y:Hs} (h:Dat H v (j4 (.two p x y))):∃t a b,v = .ref t/\H t=some (.tup [.str (if p then "plus" else "minus"),a,b])/\Dat H a (vI x)/\Dat H b (vI y):=by
 simp only [j4,Dat] at h;obtain ⟨t,vs,rfl,e,d⟩:=h;obtain ⟨_,_,rfl,e1,U8⟩:=d9 d;obtain ⟨_,_,rfl,e2,Kd⟩:=d9 U8;obtain ⟨_,_,rfl,e3,sI⟩:=d9 Kd;cases je sI;cases e1;exact ⟨t,_,_,rfl,e,e2,e3⟩
def Parts (H:Hp) (vs:List V):Rw->Prop
 | .load b c=>vs=[.str "load",.str (qg b),.int c]
 | .store c e=>∃x,vs=[.str "store",.int c,x]/\Dat H x (j4 e)
 | .swap b c e=>∃x,vs=[.str "swap",.str (qg b),.int c,x]/\Dat H x (j4 e)
 | .pC b e=>∃x,vs=[.str "let",.str (qg b),x]/\Dat H x (j4 e)
 | .say e=>∃x,vs=[.str "say",x]/\Dat H x (j4 e)
 | .go k=>vs=[.str "go",.int k]
 | .oh q e f k=>∃x y,vs=[.str "unless",.str (if q then "=" else "<"),x,y,.int k]/\Dat H x (j4 e)/\Dat H y (j4 f)
theorem rH {r:Rw} (h:Dat H v (jg r)):∃t vs,v = .ref t/\H t=some (.tup vs)/\Parts H vs r:=by
 cases r<;>simp only [jg,Dat] at h<;>obtain ⟨t,vs,rfl,e,d⟩:=h<;>refine ⟨t,vs,rfl,e, ?_⟩<;>obtain ⟨_,_,rfl,e1,U8⟩:=d9 d<;>cases e1<;>obtain ⟨_,_,rfl,e2,Kd⟩:=d9 U8
 ·obtain ⟨_,_,rfl,e3,sI⟩:=d9 Kd
  cases je sI;cases e2;cases e3;rfl
 ·obtain ⟨_,_,rfl,e3,sI⟩:=d9 Kd
  cases je sI;cases e2;exact ⟨_,rfl,e3⟩
 ·obtain ⟨_,_,rfl,e3,sI⟩:=d9 Kd
  obtain ⟨_,_,rfl,e4,d14⟩:=d9 sI;cases je d14;cases e2;cases e3;exact ⟨_,rfl,e4⟩
 ·obtain ⟨_,_,rfl,e3,sI⟩:=d9 Kd
  cases je sI;cases e2;exact ⟨_,rfl,e3⟩
 ·cases je Kd
  exact ⟨_,rfl,e2⟩
 ·cases je Kd
  cases e2;rfl
 ·obtain ⟨_,_,rfl,e3,sI⟩:=d9 Kd
  obtain ⟨_,_,rfl,e4,d14⟩:=d9 sI;obtain ⟨_,_,rfl,e5,d15⟩:=d9 d14;cases je d15;cases e2;cases e5;exact ⟨_,_,rfl,e3,e4⟩
end
def v1 (bs:List Int):Hs->Int
 | .num n=>n % 1000
 | .box b=>(bs[b]?).getD 0
def vx (bs:List Int):zj->Int
 | .one x=>v1 bs x
 | .two true x y=>(v1 bs x+v1 bs y) % 1000
 | .two false x y=>(v1 bs x - v1 bs y) % 1000
structure aO where
 (rws:List Rw) (pos:Nat) (bs sy:List Int) (st:Str)
def touch:Rw->Bool
 | .load _ _=>true
 | .store _ _=>true
 | .swap _ _ _=>true
 | _=>false
def iT (bs:List Int):Rw->Bool
 | .oh true e f _=>decide (vx bs e=vx bs f)
 | .oh false e f _=>decide (vx bs e<vx bs f)
 | _=>false
def lR (s:aO):Rw->aO
 | .pC b e=>{s with pos:=s.pos+1,bs:=s.bs.set b (vx s.bs e)}
 | .say e=>{s with pos:=s.pos+1,sy:=s.sy++[vx s.bs e]}
 | .go k=>{s with pos:=k}
 | .oh q e f k=>{s with pos:=if iT s.bs (.oh q e f k) then s.pos+1 else k}
 | _=>s
def led:Nat->aO->aO
 | 0,s=>match s.rws[s.pos]? with
   | none=>{s with st:= "ends" }
   | some r=>if touch r then {s with st:= "waits" } else {s with st:= "lost" }
 | n+1,s=>match s.rws[s.pos]? with
   | none=>{s with st:= "ends" }
   | some r=>if touch r then {s with st:= "waits" } else led n (lR s r)
def lead (s:aO):aO:=led 60 s
theorem qX (s:aO) (r:Rw):(lR s r).rws=s.rws:=by cases r<;>rfl
theorem uM (s:aO) (r:Rw):(lR s r).sy.length<=s.sy.length+1:=by cases r<;>simp [lR]
theorem k_:∀(n:Nat) (s:aO),(led n s).rws=s.rws
 | 0,s=>by
   unfold led;split
   ·rfl
   ·split<;>rfl
 | n+1,s=>by
   unfold led;split
   ·rfl
   ·split
    ·rfl
    ·rw [k_,qX]
theorem Cm:∀(n:Nat) (s:aO),(led n s).sy.length<=s.sy.length+n
 | 0,s=>by
   unfold led;split
   ·simp
   ·split<;>simp
 | n+1,s=>by
   unfold led;split
   ·simp
   ·split
    ·simp
    ·rename_i r _ _
     have:=Cm n (lR s r);have:=uM s r;omega
theorem Jy:∀(n:Nat) (s:aO) (x:Str),led n {s with st:=x}=led n s
 | 0,s,x=>rfl
 | n+1,s,x=>by
   simp only [led];split
   ·rfl
   ·split
    ·rfl
    ·rename_i r _ tr
     rw [show lR {s with st:=x} r={lR s r with st:=x} by cases r<;>rfl];exact Jy n _ x
def qp (s:aO):Prop:=s.st = "waits" -> ∃r,s.rws[s.pos]? = some r/\touch r=true
theorem En:(Str.ofString "ends")≠Str.ofString "waits" :=by decide +kernel
theorem Nb:(Str.ofString "lost")≠Str.ofString "waits" :=by decide +kernel
theorem Cp:∀(n:Nat) (s:aO),qp (led n s)
 | 0,s=>by
   unfold led qp;split
   ·intro z;exact absurd z En
   ·rename_i r e
    split
    ·intro _;exact ⟨r,e,by assumption⟩
    ·intro z;exact absurd z Nb
 | n+1,s=>by
   unfold led;split
   ·intro z;exact absurd z En
   ·rename_i r e
    split
    ·intro _;exact ⟨r,e,by assumption⟩
    ·exact Cp n _
def new (rws:List Rw):aO:=⟨rws,0,List.replicate 8 0,[],"waits"⟩
structure ji where
 (m:Nat) (ns:List Int) (hs:List aO) (ts:List Int)
def qd:Rw->Nat
 | .load _ c=>c
 | .store c _=>c
 | .swap _ c _=>c
 | _=>0
def n_:Rw->Str
 | .load _ _=> "load"
 | .store _ _=> "store"
 | .swap _ _ _=> "swap"
 | .pC _ _=> "let"
 | .say _=> "say"
 | .go _=> "go"
 | .oh _ _ _ _=> "unless"
def Im (ns:List Int):Rw->Option Int
 | .load _ c=>ns[c]?
 | .swap _ c _=>ns[c]?
 | _=>none
def HD (bs:List Int):Rw->Option Int
 | .store _ e=>some (vx bs e)
 | .swap _ _ e=>some (vx bs e)
 | _=>none
def oV:Option Int->V
 | none=> .non
 | some i=> .int i
def oD:Option Int->PyData
 | none=> .none
 | some i=> .int i
def sY (ns bs:List Int) (r:Rw):List V:=[.str (n_ r),.int (qd r),oV (Im ns r),oV (HD bs r)]
def uT (ns bs:List Int):Rw->List Int
 | .load b c=>bs.set b ((ns[c]?).getD 0)
 | .swap b c _=>bs.set b ((ns[c]?).getD 0)
 | _=>bs
def iU (ns bs:List Int):Rw->List Int
 | .store c e=>ns.set c (vx bs e)
 | .swap _ c e=>ns.set c (vx bs e)
 | _=>ns
def jx (ns:List Int) (s:aO) (r:Rw):aO:=lead {s with pos:=s.pos+1,bs:=uT ns s.bs r}
def dY (S:ji) (k:Nat):ji:=match S.hs[k]? with
 | none=>S
 | some s=>match s.rws[s.pos]? with
   | none=>S
   | some r=>{S with ns:=iU S.ns s.bs r,hs:=S.hs.set k (jx S.ns s r),ts:=S.ts++[(k:Int)]}
def lE (m:Nat) (ns:List Int) (rws:List (List Rw)):ji:=⟨m,ns,rws.map fun r=>lead (new r),[]⟩
end Prf
namespace L2
open PySem Prf
theorem bH.kp {H H':Hp} {vs:List V} {rws:List Rw} (d:bH H vs (rws.map jg)) (t:∀x xs,H x=some (.tup xs)->H' x=some (.tup xs)):bH H' vs (rws.map jg):=d.keep t _ (uI jg pD rws)
end L2
set_option Elab.async false
set_option linter.all false
set_option maxRecDepth 100000
set_option maxHeartbeats 4000000
namespace L2
open PySem PySem.Spec PyProof.Rows
section
variable {X:Cx} {k:Nat} {C:Addr} {sp:Sp}
theorem rzF:Rz X (fun _ _ _ _=>False):=by
 intro pins σ H s e cls dx fl hf I fp xo z;exact z.elim
theorem Dz {pins:List (Addr×Obj)} {σ:St} {H:Hp} {s:Shared} {Q:VK} {us:List Value} {vs:List V} {f:Addr} {fd:FuncData} {ps:List Str} (G:bU X.prog X.w X.K X.mg X.base gF k f fd ps sp) (hr:dN (k+1) X.A) (hb:Binds X.K fd ps [])
 (I:Inv X pins σ H s) (r:Vals vs us) (q:sp vs H Q E0):wpAny (model X.prog X.w) X.A.in1 (call (.ref f) us) (EP X pins σ Q) X.xe s:=by
 have hlen:us.length=ps.length:=by rw [←r.length];exact G.len _ _ _ _ q
 have hbd:=hb s us I.mZ (by rw [List.append_nil];exact hlen);rw [List.append_nil] at hbd;refine wpAny_call (codeAny_mono (G.run X.A.in1 X.stack s H ⟨us,[]⟩ us vs Q E0 hr.in1 I.env0.in1 hbd r q) fun res s' hq=> ?_)
 match res,hq with
 | .error ev,hq=>exact False.elim hq
 | .ok (.ret u),hq=>exact I.after hq
def VJ (C:Addr) (sp:Sp):List V->Hp->VK->Prop:=fun xs H Q=>∃(a dx:Addr) (fs:List (Str×V)),xs=[.ref a]/\H a=some (.ins C dx fs)/\sp [.ref a] H (fun v H'=>∃n:Int,v = .int n/\0<=n/\n<2 ^ 62/\Q (.int n) H') E0
theorem wB (M:MethAt X.prog X.w X.K X.mg X.base k C "__len__" ["self"] sp) (hr:dN (k+1) X.A):iZ X (.builtin "len") (VJ C sp):=by
 intro pins s σ H xs us Q I rv h;obtain ⟨f,fd,G,hm,hb⟩:=M;obtain ⟨a,dx,fs,rfl,ea,q⟩:=h;obtain ⟨u,rfl,ru⟩:=rv.one;obtain rfl:u=Value.ref a:=ru;obtain ⟨mm,Fm⟩:=I.fr;obtain ⟨mA,O,_⟩:=jc I.hok ea;obtain ⟨od,J,_⟩:=O.look;refine PySem.W.len_K Fm I.mod.Ho J hm.at_ hm.fn (dH (Dz (us:=[.ref a]) (vs:=[.ref a]) G hr hb I (.cons rfl .nil) q) fun v s' hv=> ?_)
 obtain ⟨x,H',I',rx,n,rfl,n0,n1,q'⟩:=hv;obtain ⟨t,rfl⟩:=rx;exact ⟨⟨n0,by omega⟩,.int n,H',I'.tok _,⟨_,rfl⟩,q'⟩
def VP (C:Addr) (sp:Sp):R2:=fun x y H Q=>∃(a b dx dy:Addr) (fs gs:List (Str×V)),x = .ref a/\y = .ref b/\H a=some (.ins C dx fs)/\H b=some (.ins C dy gs)/\sp [.ref a,.ref b] H (fun v H'=>∃t:Bool,v = .bl t/\Q (.bl t) H') E0
theorem BX (M:MethAt X.prog X.w X.K X.mg X.base k C "__eq__" ["self","other"] sp) (hr:dN (k+1) X.A):nU X (compareOp .Eq) (VP C sp):=by
 intro pins s σ H x y u v Q I rx ry h;obtain ⟨f,fd,G,hm,hb⟩:=M;obtain ⟨a,b,dx,dy,fs,gs,rfl,rfl,ea,eb,q⟩:=h;obtain rfl:u=Value.ref a:=rx;obtain rfl:v=Value.ref b:=ry;obtain ⟨mA,O,_⟩:=jc I.hok ea;obtain ⟨od,J,_⟩:=O.look;obtain ⟨mB,O2,_⟩:=jc I.hok eb;obtain ⟨od2,J2,_⟩:=O2.look;obtain ⟨mm,Fm⟩:=I.fr;refine PySem.W.cmp_ofEq (PySem.W.cmp_K hr.Qy Fm I.mod.Ho J J2.type (by simp [PySem.W.notFirst]) hm.at_ hm.fn (dH (xR (us:=[.ref a,.ref b]) (vs:=[.ref a,.ref b]) (oA:=[]) (ds:=[]) G (hr.mono (Nat.le_succ _)) hb .nil zR I (.cons rfl (.cons rfl .nil)) q) fun v s' hv=> ?_));obtain ⟨x,H',I',rx,t,rfl,q'⟩:=hv;obtain rfl:v=Value.bool t:=rx;exact ⟨.bl t,H',I',rfl,q'⟩
end
structure YT (K:PySem.W.Frag) (mg:Str->Option Value) (C:Addr) (nm:Str):Prop where
 bd:mg nm=some (.ref C)
 ha:PySem.W.findIn K (.ref C) "__class__" = some (some (.builtin "object.__class__"))
 hn:PySem.W.specialIn K (.builtin "object.__class__") "__get__" = some (some (.builtin "getset_descriptor.__get__"))
 ht:PySem.W.takesIn K (.builtin "object.__class__")=some true
 hm:PySem.W.mroIn K C (.type "object")=some true
theorem YT.ty {K:PySem.W.Frag} {mg:Str->Option Value} {C:Addr} {nm:Str} (o:YT K mg C nm) {H:Hp} {a dx:Addr} {fs:List (Str×V)} (e:H a=some (.ins C dx fs)) (c:Cls K C):pJ K H (.ref a) (.ref C):= .ins e c o.ha o.hn o.ht o.hm
end L2
set_option Elab.async false
set_option linter.all false
set_option maxRecDepth 100000
set_option maxHeartbeats 4000000
namespace L2
open PySem PySem.Spec PyProof.Rows
section
variable {prog:Program} {w:World} {A:Around} {E:Value->Shared->Prop} {s:Shared}
theorem nxT {it t:Addr} {i:Nat} {its:Array Value} {x:Value} {Q:Value->Shared->Prop} (hi:s.heap.IsTupleIter it t i) (ht:s.heap.IsTuple t its) (hx:its[i]? = some x)
 (k:∀h',h'.IsTupleIter it t (i+1)->Heap.SameBut it s.heap h'->Q x {s with heap:=h'}):wpAny (model prog w) A (Builtin.SmallTypes.nextOf (.ref it)) Q E s:=by
 obtain ⟨ob,e1,e2,e3⟩:=id hi;obtain ⟨ot,f1,_,nn,f3⟩:=ht;unfold Builtin.SmallTypes.nextOf;refine wpAny_bind (wpAny_callSpecial?_slot (name:=Str.ofString "__next__") hi.typeIs PySem.F.slot_tuple_iterator_next (wpAny_call_entry PySem.F.slot_tuple_iterator_next hi.typeIs PySem.F.entry_tuple_iterator_next ?_ (PySem.F.args_tuple_iterator_next_1 _)));show wpAny _ _ (field (.ref it) 0 >>= _) _ _ s;refine wpAny_bind (wpAny_field e1 e3 (x:= .ref t) rfl ?_);show wpAny _ _ (if (Value.ref t==Value.none)=true then _ else _) _ _ s;rw [if_neg (show ¬((Value.ref t==Value.none)=true) from Bool.false_ne_true)];show wpAny _ _ (field (.ref it) 1 >>= _) _ _ s;refine wpAny_bind (wpAny_field e1 e3 (x:= .int i 0) rfl ?_);show wpAny _ _ (seqItems? (.ref t) >>= _) _ _ s;refine wpAny_bind (wpAny_seqItems f1 f3 ?_);simp only [Int.toNat_natCast,hx];refine wpAny_bind (wpAny_setField e1 e3 (by simp) (wpAny_pure ⟨x,rfl,wpAny_pure (k _ ?_ (Heap.SameBut.update ..))⟩));refine ⟨_,Heap.get?_update_self _ e1 (Obj.isFreed_of_fields (Obj.data_mapFields e3 _)),(Obj.cls_mapFields ..).trans e2, ?_⟩;rw [Obj.data_mapFields e3];simp [rawInt]
theorem aau {it t:Addr} {i:Nat} {its:Array Value} {Q:Value->Shared->Prop} (hh:A.handled=none) (hi:s.heap.IsTupleIter it t i) (ht:s.heap.IsTuple t its) (hx:its[i]? = none)
 (k:∀h' e,Heap.ExtBut it s.heap h'->(∃o,h'.get? e=some o/\o.cls = .type "StopIteration")->E (.ref e) {s with heap:=h'}):wpAny (model prog w) A (Builtin.SmallTypes.nextOf (.ref it)) Q E s:=by
 obtain ⟨ob,e1,e2,e3⟩:=id hi;obtain ⟨ot,f1,_,nn,f3⟩:=ht;unfold Builtin.SmallTypes.nextOf;refine wpAny_bind (wpAny_callSpecial?_slot (name:=Str.ofString "__next__") hi.typeIs PySem.F.slot_tuple_iterator_next (wpAny_call_entry PySem.F.slot_tuple_iterator_next hi.typeIs PySem.F.entry_tuple_iterator_next ?_ (PySem.F.args_tuple_iterator_next_1 _)));show wpAny _ _ (field (.ref it) 0 >>= _) _ _ s;refine wpAny_bind (wpAny_field e1 e3 (x:= .ref t) rfl ?_);show wpAny _ _ (if (Value.ref t==Value.none)=true then _ else _) _ _ s;rw [if_neg (show ¬((Value.ref t==Value.none)=true) from Bool.false_ne_true)];show wpAny _ _ (field (.ref it) 1 >>= _) _ _ s;refine wpAny_bind (wpAny_field e1 e3 (x:= .int i 0) rfl ?_);show wpAny _ _ (seqItems? (.ref t) >>= _) _ _ s;refine wpAny_bind (wpAny_seqItems f1 f3 ?_);simp only [Int.toNat_natCast,hx];refine wpAny_bind (wpAny_rule (wpAny_bind (wpAny_setField e1 e3 (by simp) ?_)));show wpAny _ _ (newExc (.type "StopIteration") [] >>= _) _ _ _;refine wpAny_bind ?_;simp only [newExc,newTuple];refine wpAny_bind (wpAny_newObj_type ?_ (by size_fits));refine wpAny_bind (m:=firstArgMember _ _) (wpAny_of_eq (a:=Value.none) (by first |rfl|(simp only [firstArgMember];rfl)) ?_);refine wpAny_newObj_type ?_ (by size_fits);simp only [raiseNew];refine wpAny_bind (wpAny_handled ?_)
 first |rw [show A.in1.handled=none from hh]|rw [hh]
 refine wpAny_bind (wpAny_pure (wpAny_throw (k _ _ (((Heap.SameBut.update ..).extBut.push _).push _) ⟨_,Heap.get?_push_size _ rfl,rfl⟩)))
theorem Qu {z TI TO i1 i2 l1 l2:Addr} {k1 k2:Nat} {xs ys:Array Value} {x y a b:Value} {Q:Option Value->Shared->Prop} (D:ZipApart z TI TO i1 i2 l1 l2) (hz:IsZip s.heap z TI TO .none) (hI:IsPair s.heap TI (.ref i1) (.ref i2)) (hO:IsPair s.heap TO a b)
 (h1:s.heap.IsTupleIter i1 l1 k1) (h2:s.heap.IsTupleIter i2 l2 k2) (m1:s.heap.IsTuple l1 xs) (m2:s.heap.IsTuple l2 ys) (hx:xs[k1]? = some x) (hy:ys[k2]? = some y)
 (k:∀h',IsZip h' z TI TO (rawInt s.heap.objs.size)->IsPair h' TO x y->h'.IsTupleIter i1 l1 (k1+1)->h'.IsTupleIter i2 l2 (k2+1)->IsPair h' s.heap.objs.size x y->h'.objs.size=s.heap.objs.size+1->(∀c o,c≠z->c≠TO->c≠i1->c≠i2->s.heap.get? c=some o->h'.get? c=some o)->Q (some (.ref s.heap.objs.size)) {s with heap:=h'}):
 wpAny (model prog w) A (pyNext (.ref z)) Q E s:=by
 have tz:s.TypeIs (.ref z) "zip" :=⟨_,hz,rfl⟩;unfold pyNext;refine wpAny_bind (wpAny_attempt (wpAny_callSpecial?_slot (name:=Str.ofString "__next__") tz PySem.F.slot_zip_next (wpAny_call_entry PySem.F.slot_zip_next tz PySem.F.entry_zip_next ?_ (PySem.F.args_zip_next_1 _))));show wpAny _ _ (field (.ref z) 2 >>= _) _ _ _;refine wpAny_bind (wpAny_field hz rfl (x:= .bool false) rfl ?_);show wpAny _ _ (field (.ref z) 3 >>= _) _ _ _;refine wpAny_bind (wpAny_field hz rfl (x:= .ref TI) rfl ?_);refine wpAny_bind (wpAny_seqItems hI rfl ?_);show wpAny _ _ (Builtin.SmallTypes.ownedTupleIsFree (.ref z) >>= _) _ _ _;refine wpAny_bind ?_;unfold Builtin.SmallTypes.ownedTupleIsFree;refine wpAny_bind (wpAny_field hz rfl (x:= .none) rfl (wpAny_pure ?_));simp only [if_true];refine wpAny_bind (wpAny_rule (wpAny_bind (wpAny_field hz rfl (x:= .ref TO) rfl ?_)));refine wpAny_bind (wpAny_setField_rec hz (by simp) fun g1 z1 s1=> ?_)
 replace z1:IsZip g1 z TI TO .ellipsis:=z1
 refine wpAny_bind ?_;simp only [List.zipIdx_cons,List.zipIdx_nil,List.forIn_cons,List.forIn_nil];refine wpAny_bind (wpAny_bind (wpAny_onRaise ?_));show wpAny _ _ (Builtin.SmallTypes.nextOf (.ref i1) >>= _) _ _ _
 refine wpAny_bind (nxT (h1.extBut s1.extBut D.i1z) (m1.extBut s1.extBut D.l1z) hx fun g2 j1 s2=>wpAny_pure ?_);have O2:IsPair g2 TO a b:=s2.extBut _ _ D.TOi1 (s1.extBut _ _ D.TOz hO);refine wpAny_bind (wpAny_seqItems O2 rfl ?_);refine wpAny_bind (wpAny_updateSeq_pair O2 fun g3 O3 s3=> ?_)
 replace O3:IsPair g3 TO x b:=O3
 refine wpAny_bind (wpAny_letGo (wpAny_pure (wpAny_bind (wpAny_bind (wpAny_onRaise ?_)))));show wpAny _ _ (Builtin.SmallTypes.nextOf (.ref i2) >>= _) _ _ _
 refine wpAny_bind (nxT (((h2.extBut s1.extBut D.i2z).extBut s2.extBut D.i12.symm).extBut s3.extBut D.TOi2.symm) (((m2.extBut s1.extBut D.l2z).extBut s2.extBut D.l2i1).extBut s3.extBut D.l2TO) hy fun g4 j2 s4=>wpAny_pure ?_);have O4:IsPair g4 TO x b:=s4.extBut _ _ D.TOi2 O3;refine wpAny_bind (wpAny_seqItems O4 rfl ?_);refine wpAny_bind (wpAny_updateSeq_pair O4 fun g5 O5 s5=> ?_)
 replace O5:IsPair g5 TO x y:=O5
 refine wpAny_bind (wpAny_letGo (wpAny_pure (wpAny_pure (wpAny_bind (wpAny_seqItems O5 rfl (wpAny_bind (wpAny_newTuple ?_)))))));have sz:g5.objs.size=s.heap.objs.size:=by rw [s5.1,s4.1,s3.1,s2.1,s1.1]
 have z5:IsZip g5 z TI TO .ellipsis:=s5.extBut _ _ D.TOz.symm (s4.extBut _ _ D.i2z.symm (s3.extBut _ _ D.TOz.symm (s2.extBut _ _ D.i1z.symm z1)));have k5:∀c o,c≠z->c≠TO->c≠i1->c≠i2->s.heap.get? c=some o->g5.get? c=some o:=fun c o n1 n2 n3 n4 e=>s5.extBut _ _ n2 (s4.extBut _ _ n4 (s3.extBut _ _ n2 (s2.extBut _ _ n3 (s1.extBut _ _ n1 e))));have p1:g5.IsTupleIter i1 l1 (k1+1):=((j1.extBut s3.extBut D.TOi1.symm).extBut s4.extBut D.i12).extBut s5.extBut D.TOi1.symm;have p2:g5.IsTupleIter i2 l2 (k2+1):=j2.extBut s5.extBut D.TOi2.symm;have Uh:z<g5.objs.size:=Heap.lt_size z5;show wpAny _ _ (Builtin.SmallTypes.ownedTupleHandOut (.ref z) (.ref g5.objs.size) >>= _) _ _ _;refine wpAny_bind ?_;unfold Builtin.SmallTypes.ownedTupleHandOut;have z6:IsZip (g5.push {cls:= .type "tuple",data:= .seq #[x,y]}) z TI TO .ellipsis:=Heap.get?_push_of_some _ z5;refine wpAny_bind (wpAny_setField_rec z6 (by simp) fun g7 z7 s7=> ?_)
 replace z7:IsZip g7 z TI TO (rawInt g5.objs.size):=z7
 refine wpAny_setField_rec z7 (by simp) fun g8 z8 s8=> ?_
 replace z8:IsZip g8 z TI TO (rawInt g5.objs.size):=z8
 have up:∀c o,c≠z->g5.get? c=some o->g8.get? c=some o:=fun c o n1 e=>s8.extBut _ _ n1 (s7.extBut _ _ n1 (Heap.get?_push_of_some _ e));have t8:IsPair g8 g5.objs.size x y:=s8.extBut _ _ (Nat.ne_of_gt Uh) (s7.extBut _ _ (Nat.ne_of_gt Uh) (Heap.get?_push_size _ rfl));have e8:g8.objs.size=g5.objs.size+1:=by rw [s8.1,s7.1,Heap.size_push]
 rw [sz] at z8 t8 e8;refine wpAny_pure ⟨_,rfl,wpAny_pure ?_⟩;show Q (some (.ref g5.objs.size)) _;rw [sz];refine k g8 z8 (up _ _ D.TOz O5) ?_ ?_ t8 e8 fun c o n1 n2 n3 n4 e=>up c o n1 (k5 c o n1 n2 n3 n4 e)
 ·obtain ⟨o,e,r⟩:=p1;exact ⟨o,up _ _ D.i1z e,r⟩
 ·obtain ⟨o,e,r⟩:=p2;exact ⟨o,up _ _ D.i2z e,r⟩
theorem Vb {z TI TO i1 i2 l1 l2:Addr} {k1 k2:Nat} {xs ys:Array Value} {a b:Value} {Q:Option Value->Shared->Prop} (hh:A.handled=none) (D:ZipApart z TI TO i1 i2 l1 l2) (hz:IsZip s.heap z TI TO .none) (hI:IsPair s.heap TI (.ref i1) (.ref i2)) (hO:IsPair s.heap TO a b)
 (h1:s.heap.IsTupleIter i1 l1 k1) (h2:s.heap.IsTupleIter i2 l2 k2) (m1:s.heap.IsTuple l1 xs) (m2:s.heap.IsTuple l2 ys) (hx:xs[k1]? = none)
 (k:∀h',(∀c o,c≠z->c≠TO->c≠i1->c≠i2->s.heap.get? c=some o->h'.get? c=some o)->Q none {s with heap:=h'}):wpAny (model prog w) A (pyNext (.ref z)) Q E s:=by
 have tz:s.TypeIs (.ref z) "zip" :=⟨_,hz,rfl⟩
 have stop:∀(h':Heap) (e:Addr),(∀c o,c≠z->c≠TO->c≠i1->c≠i2->s.heap.get? c=some o->h'.get? c=some o)->(∃o,h'.get? e=some o/\o.cls = .type "StopIteration")->wpAny (model prog w) A (do if ←isInstance (.ref e) (.type "StopIteration") then pure none else throw (.ref e)) Q E {s with heap:=h'}:=fun h' e hk he=>by
  obtain ⟨o,ho,hc⟩:=he;exact wpAny_bind (wpAny_isInstance (T:= "StopIteration") (b:=true) ⟨o,ho,hc⟩ isSubtype_stop (wpAny_pure (k _ hk)))
 unfold pyNext;refine wpAny_bind (wpAny_attempt (wpAny_callSpecial?_slot (name:=Str.ofString "__next__") tz PySem.F.slot_zip_next (wpAny_call_entry PySem.F.slot_zip_next tz PySem.F.entry_zip_next ?_ (PySem.F.args_zip_next_1 _))));show wpAny _ _ (field (.ref z) 2 >>= _) _ _ _;refine wpAny_bind (wpAny_field hz rfl (x:= .bool false) rfl ?_);show wpAny _ _ (field (.ref z) 3 >>= _) _ _ _;refine wpAny_bind (wpAny_field hz rfl (x:= .ref TI) rfl ?_);refine wpAny_bind (wpAny_seqItems hI rfl ?_);show wpAny _ _ (Builtin.SmallTypes.ownedTupleIsFree (.ref z) >>= _) _ _ _;refine wpAny_bind ?_;unfold Builtin.SmallTypes.ownedTupleIsFree;refine wpAny_bind (wpAny_field hz rfl (x:= .none) rfl (wpAny_pure ?_));simp only [if_true];refine wpAny_bind (wpAny_rule (wpAny_bind (wpAny_field hz rfl (x:= .ref TO) rfl ?_)));refine wpAny_bind (wpAny_setField_rec hz (by simp) fun g1 z1 s1=> ?_)
 replace z1:IsZip g1 z TI TO .ellipsis:=z1
 refine wpAny_bind ?_;simp only [List.zipIdx_cons,List.zipIdx_nil,List.forIn_cons,List.forIn_nil];refine wpAny_bind (wpAny_bind (wpAny_onRaise ?_));show wpAny _ _ (Builtin.SmallTypes.nextOf (.ref i1) >>= _) _ _ _
 refine wpAny_bind (aau hh (h1.extBut s1.extBut D.i1z) (m1.extBut s1.extBut D.l1z) hx fun g2 e s2 he=> ?_);obtain ⟨oe,hoe,hce⟩:=he;have z2:IsZip g2 z TI TO .ellipsis:=s2 _ _ D.i1z.symm z1;have nez:e≠z:=fun q=>by subst q;rw [z2] at hoe;cases hoe;simp at hce
 refine wpAny_setField_rec z2 (by simp) fun g3 _ s3=> ?_;obtain st:=stop g3 e (fun c o n1 _ n3 _ q=>s3.extBut _ _ n1 (s2 _ _ n3 (s1.extBut _ _ n1 q))) ⟨oe,s3.extBut _ _ nez hoe,hce⟩;exact st
end
end L2
set_option Elab.async false
set_option linter.all false
set_option maxRecDepth 100000
set_option maxHeartbeats 4000000
namespace L2
open PySem PySem.Spec PyProof.Rows
abbrev Hu (l:Addr):Obj:={cls:= .type "tuple_iterator",data:= .fields #[.ref l,.int 0 0]}
abbrev XS (h:Heap) (l1 l2:Addr):Heap:=((h.push (Hu l1)).push (Hu l2)).push {cls:= .type "tuple",data:= .seq #[.ref h.objs.size,.ref (h.push (Hu l1)).objs.size]}
abbrev XR (h:Heap) (l1 l2:Addr):Heap:=(XS h l1 l2).push {cls:= .type "tuple",data:= .seq #[.none,.none]}
abbrev Ug (h:Heap) (l1 l2:Addr):Heap:=(XR h l1 l2).push {cls:= .type "zip",data:= .fields #[.none,.bool false,.bool false,.ref ((h.push (Hu l1)).push (Hu l2)).objs.size,.ref (XS h l1 l2).objs.size]}
theorem Va (l1 l2:Addr) (xs ys:Array Value):Meets (Builtin.«zip.__new__» ⟨[.type "zip",.ref l1,.ref l2],[]⟩) (fun _ R s=>s.heap.IsTuple l1 xs/\s.heap.IsTuple l2 ys/\R (.ok (.ret (.ref (XR s.heap l1 l2).objs.size))) {s with heap:=Ug s.heap l1 l2}):=
 .of_wp fun prog w A R s h=>by
  obtain ⟨hp,g,d,tk,os⟩:=s;obtain ⟨m1,m2,h⟩:=h;have sub:=sub_zip;have M1:Heap.IsTuple (Shared.heap ⟨hp,g,d,tk,os⟩) l1 xs:=m1;have M2:Heap.IsTuple (Shared.heap ⟨hp.push {cls:= .type "tuple_iterator",data:= .fields #[.ref l1,.int 0 0]},g,d,tk,os⟩) l2 ys:=Heap.IsTuple.push m2 _
  wp_walk using wpAny_pyIter_tuple M1,wpAny_pyIter_tuple M2
  exact ⟨_,rfl,h⟩
section
variable {prog:Program} {w:World} {A:Around} {E:Value->Shared->Prop} {s:Shared}
theorem Qw {l1 l2:Addr} {xs ys:Array Value} {Q:Value->Shared->Prop} (m1:s.heap.IsTuple l1 xs) (m2:s.heap.IsTuple l2 ys)
 (k:∀h',IsZip h' (s.heap.objs.size+4) (s.heap.objs.size+2) (s.heap.objs.size+3) .none->IsPair h' (s.heap.objs.size+2) (.ref s.heap.objs.size) (.ref (s.heap.objs.size+1))->IsPair h' (s.heap.objs.size+3) .none .none->h'.IsTupleIter s.heap.objs.size l1 0->h'.IsTupleIter (s.heap.objs.size+1) l2 0 ->
   (∀c o,s.heap.get? c=some o->h'.get? c=some o)->Q (.ref (s.heap.objs.size+4)) {s with heap:=h'}):wpAny (model prog w) A (call (.type "zip") [.ref l1,.ref l2]) Q E s:=by
 refine callType_new PySem.F.called_zip (by decide) (PySem.F.typeCall_zip_2 _ _) (PySem.F.newCall_zip_2 _ _) (fun obj=>PySem.F.args_object_init_3 obj _ _) PySem.F.entry_zip_new (Va l1 l2 xs ys) ⟨m1,m2, ?_⟩;have n1:(s.heap.push (Hu l1)).objs.size=s.heap.objs.size+1:=Heap.size_push ..;have n2:((s.heap.push (Hu l1)).push (Hu l2)).objs.size=s.heap.objs.size+2:=by rw [Heap.size_push,n1]
 have n3:(XS s.heap l1 l2).objs.size=s.heap.objs.size+3:=by rw [Heap.size_push,n2]
 have n4:(XR s.heap l1 l2).objs.size=s.heap.objs.size+4:=by rw [Heap.size_push,n3]
 have e5:(Ug s.heap l1 l2).get? (XR s.heap l1 l2).objs.size=some _:=Heap.get?_push_size _ rfl;have e4:(Ug s.heap l1 l2).get? (XS s.heap l1 l2).objs.size=some _:=Heap.get?_push_of_some _ (Heap.get?_push_size _ rfl);have e3:(Ug s.heap l1 l2).get? ((s.heap.push (Hu l1)).push (Hu l2)).objs.size=some _:=Heap.get?_push_of_some _ (Heap.get?_push_of_some _ (Heap.get?_push_size _ rfl));have e2:(Ug s.heap l1 l2).get? (s.heap.push (Hu l1)).objs.size=some _:=Heap.get?_push_of_some _ (Heap.get?_push_of_some _ (Heap.get?_push_of_some _ (Heap.get?_push_size _ rfl)));have e1:(Ug s.heap l1 l2).get? s.heap.objs.size=some _:=Heap.get?_push_of_some _ (Heap.get?_push_of_some _ (Heap.get?_push_of_some _ (Heap.get?_push_of_some _ (Heap.get?_push_size _ rfl))));show _/\_;rw [n2,n3,n4] at e5;rw [n1,n2] at e3;rw [n3] at e4;rw [n1] at e2;rw [n4];refine ⟨⟨_,e5,rfl⟩,k _ e5 e3 e4 ⟨_,e1,rfl,rfl⟩ ⟨_,e2,rfl,rfl⟩ fun c o q=> ?_⟩
 iterate 5 refine Heap.get?_push_of_some _ ?_
 exact q
end
def TY (K:PySem.W.Frag) (l1 l2:Addr):It:=
 ⟨fun i H=>∃xs ys x y,cu K H l1 xs/\cu K H l2 ys/\xs[i]? = some x/\ys[i]? = some y,
  fun i H x H'=>∃(p:Addr) (y z:V),x = .ref p/\H p=none/\(∀xs,cu K H l1 xs->xs[i]? = some y)/\(∀ys,cu K H l2 ys->ys[i]? = some z)/\H'=upd H p (.tup [y,z]),
  fun i H=>∃xs ys,cu K H l1 xs/\cu K H l2 ys/\xs.length<=i⟩
theorem Fj {P:Program} {w:World} {K:PySem.W.Frag} {elts:List Expr} {x1:Nat} {pos:Pos} (z TI TO i1 i2 l1 l2:Addr) (ap:ZipApart z TI TO i1 i2 l1 l2):Turn P w K (.Tuple elts x1 pos) (TY K l1 l2) [z,TI,TO,i1,i2] z
 (fun i h=>IsZip h z TI TO .none/\IsPair h TI (.ref i1) (.ref i2)/\(∃a b,IsPair h TO a b)/\h.IsTupleIter i1 l1 i/\h.IsTupleIter i2 l2 i) where
 mem:=by simp
 obj:=fun i h st b hb=>by
  obtain ⟨hz,hTI,⟨a,c,hTO⟩,⟨o1,h1,c1,d1⟩,⟨o2,h2,c2,d2⟩⟩:=st;have hb':b=z\/b=TI\/b=TO\/b=i1\/b=i2:=by simpa using hb
  rcases hb' with rfl|rfl|rfl|rfl|rfl
  ·exact ⟨_,hz,fun v z=>by cases z⟩
  ·exact ⟨_,hTI,fun v z=>by cases z⟩
  ·exact ⟨_,hTO,fun v z=>by cases z⟩
  ·exact ⟨_,h1,fun v z=>by rw [d1] at z;cases z⟩
  ·exact ⟨_,h2,fun v z=>by rw [d2] at z;cases z⟩
 keep:=fun i h h' st k=>by
  obtain ⟨hz,hTI,⟨a,c,hTO⟩,⟨o1,h1,c1,d1⟩,⟨o2,h2,c2,d2⟩⟩:=st;exact ⟨k z (by simp) _ hz,k TI (by simp) _ hTI,⟨a,c,k TO (by simp) _ hTO⟩,⟨o1,k i1 (by simp) _ h1,c1,d1⟩,⟨o2,k i2 (by simp) _ h2,c2,d2⟩⟩
 item:=by
  intro X hP hw hK hc i pins s σ H E I hf st hg;subst hP hw hK;obtain ⟨xs,ys,x,y,hq1,hq2,hx,hy⟩:=hg;obtain ⟨yt,KY,p1,hz1⟩:=I.tuple hq1;obtain ⟨its2,Lp,p2,hz2⟩:=I.tuple hq2;obtain ⟨u1,hu1,Zx⟩:=KY.get hx;obtain ⟨u2,hu2,VG⟩:=Lp.get hy;obtain ⟨hz,hTI,⟨a,c,hTO⟩,hi1,hi2⟩:=st;have Uh:=Heap.lt_size hz;have TQ:=Heap.lt_size hTI;have TJ:=Heap.lt_size hTO;have R_:i1<s.heap.objs.size:=by obtain ⟨o,ho,_⟩:=id hi1;exact Heap.lt_size ho
  have R0:i2<s.heap.objs.size:=by obtain ⟨o,ho,_⟩:=id hi2;exact Heap.lt_size ho
  refine Qu ap hz hTI hTO hi1 hi2 (show s.heap.IsTuple l1 yt.toArray from p1) (show s.heap.IsTuple l2 its2.toArray from p2) (x:=u1) (y:=u2) (by simpa using hu1) (by simpa using hu2) fun h' hz' SJ Sy hi2' hnew hsz hk=> ?_;refine ⟨_,rfl, ?_⟩;refine wpAny_letOwnedTupleGo_zip hz' fun h2 Sd sb=> ?_;have hfr:H s.heap.objs.size=none:=I.hok.fresh (Nat.le_refl _)
  have I0:Inv X pins σ (upd H s.heap.objs.size (.tup [x,y])) {s with heap:=s.heap.push {cls:= .type "tuple",data:= .seq #[u1,u2]}}:=
   I.laid (t':=s.toks) (fun b u e=>Heap.get?_push_of_some _ e) (Nat.le_refl _) ⟨by show 2<=sizeLine;decide,[u1,u2],.cons Zx (.cons VG .nil),⟨_,Heap.get?_push_size _ rfl,rfl,_,rfl⟩⟩
  have WQ:∀b∈[z,TI,TO,i1,i2],nY X pins (upd H s.heap.objs.size (.tup [x,y])) b:=fun b hb=>by
   refine (hf b hb).upd ?_;have hb':b=z\/b=TI\/b=TO\/b=i1\/b=i2:=by simpa using hb
   rcases hb' with rfl|rfl|rfl|rfl|rfl
   ·exact Nat.ne_of_lt Uh
   ·exact Nat.ne_of_lt TQ
   ·exact Nat.ne_of_lt TJ
   ·exact Nat.ne_of_lt R_
   ·exact Nat.ne_of_lt R0
  have I1:=I0.rY (h':=h2) (t':=s.toks) WQ (fun b o hb eb=>by
   have b1:b≠z:=fun e=>hb (by simp [e]);have b2:b≠TO:=fun e=>hb (by simp [e]);have b3:b≠i1:=fun e=>hb (by simp [e]);have b4:b≠i2:=fun e=>hb (by simp [e]);rw [sb.2 b b1];rcases Ad rfl eb with ⟨rfl,rfl⟩|eb
   ·exact hnew
   ·exact hk b o b1 b2 b3 b4 eb)
  refine ⟨.ref s.heap.objs.size,_,I1,rfl,⟨s.heap.objs.size,x,y,rfl,hfr,fun ys hy=>by rw [I.vK hy hq1];exact hx,fun ys' hy'=>by rw [I.vK hy' hq2];exact hy,rfl⟩, ?_,fun b hb=>(WQ b hb).1⟩;obtain ⟨o1,ho1,c1,d1⟩:=Sy;obtain ⟨o2,ho2,c2,d2⟩:=hi2';exact ⟨Sd,(sb.2 TI ap.TIz).trans (hk TI _ ap.TIz ap.TITO ap.TIi1 ap.TIi2 hTI),⟨_,_,(sb.2 TO ap.TOz).trans SJ⟩,⟨o1,(sb.2 i1 ap.i1z).trans ho1,c1,d1⟩,⟨o2,(sb.2 i2 ap.i2z).trans ho2,c2,d2⟩⟩
 done:=by
  intro X hP hw hK hc i pins s σ H E I hf st hg;subst hP hw hK;obtain ⟨xs,ys,hq1,hq2,hx⟩:=hg;obtain ⟨yt,KY,p1,hz1⟩:=I.tuple hq1;obtain ⟨its2,Lp,p2,hz2⟩:=I.tuple hq2;obtain ⟨hz,hTI,⟨a,c,hTO⟩,hi1,hi2⟩:=st;have hl1:=KY.length;refine Vb (I.ok.hd hc) ap hz hTI hTO hi1 hi2 (show s.heap.IsTuple l1 yt.toArray from p1) (show s.heap.IsTuple l2 its2.toArray from p2) (by simp;omega) fun h' eb=>⟨rfl,I.rY (t':=s.toks) hf (fun b o hb e=>eb b o (fun z=>hb (by simp [z])) (fun z=>hb (by simp [z])) (fun z=>hb (by simp [z])) (fun z=>hb (by simp [z])) e)⟩
 self:=fun _ _ _ _ _ st h=>wpAny_pyIter_zip st.1 h
section
variable {X:Cx}
def Ws (K:PySem.W.Frag) (ta:TA):TI:=fun σ H R=>ta σ H fun vs H1=>∃l1 l2 xs ys,vs=[.ref l1,.ref l2]/\((aY K H1 l1 xs/\aY K H1 l2 ys/\R (Qs K l1 l2) H1)\/(cu K H1 l1 xs/\cu K H1 l2 ys/\R (TY K l1 l2) H1))
theorem L_ {K:PySem.W.Frag} {a b:Expr} {ta:TA} {p pos:Pos} {elts:List Expr} {x1:Nat} {tpos:Pos} (hK:X.K=K) (hg:Gl X "zip") (hm:X.mg "zip" = none) (ha:PA X [a,b] ta) (hs:starEach [a,b] X.env=[(false,eval a X.env),(false,eval b X.env)]:=by rfl) (hs2:starEach [b] X.env=[(false,eval b X.env)]:=by rfl):PI X (.Tuple elts x1 tpos) (.Call (.Name "zip" p) [a,b] [] pos) (Ws K ta):=by
 subst hK;intro pins s σ H R I h;refine Call_ (qP I hg hm boot_zip (PyProof.Rows.callWith_type1 (dH (ha pos pins s σ H _ I h) fun us s1 ⟨vs,H1,I1,r1,q1⟩=> ?_) (by rw [hs,hs2]) (by rw [hs2];rfl)));obtain ⟨l1,l2,xs,ys,e,q1⟩:=q1;subst e
 obtain ⟨u1,us',rfl,r,rr⟩:∃u1 us',us=u1::us'/\RelV (.ref l1) u1/\Vals [.ref l2] us':=by
  cases r1 with
  | cons r rr=>exact ⟨_,_,rfl,r,rr⟩
 obtain ⟨u2,rfl,r'⟩:=rr.one;cases r;cases r'
 have M8:∀b∈[s1.heap.objs.size+4,s1.heap.objs.size+2,s1.heap.objs.size+3,s1.heap.objs.size,s1.heap.objs.size+1],s1.heap.objs.size<=b:=fun b hb=>by
  have:b=s1.heap.objs.size+4\/b=s1.heap.objs.size+2\/b=s1.heap.objs.size+3\/b=s1.heap.objs.size\/b=s1.heap.objs.size+1:=by simpa using hb
  rcases this with rfl|rfl|rfl|rfl|rfl
  ·exact Nat.le_add_right _ _
  ·exact Nat.le_add_right _ _
  ·exact Nat.le_add_right _ _
  ·exact Nat.le_refl _
  ·exact Nat.le_add_right _ _
 rcases q1 with ⟨hq1,hq2,q⟩|⟨hq1,hq2,q⟩
 ·obtain ⟨yt,KY,LK,hz1⟩:=I1.list hq1
  obtain ⟨its2,Lp,KZ,hz2⟩:=I1.list hq2;have Wk:l1<s1.heap.objs.size:=by obtain ⟨o,ho,_⟩:=LK.isList;exact Heap.lt_size ho
  have Qd:l2<s1.heap.objs.size:=by obtain ⟨o,ho,_⟩:=KZ.isList;exact Heap.lt_size ho
  refine call_zip_2 LK.isList KZ.isList fun h' hZ hTI hTO hi1 hi2 hsz hk=> ?_;refine wpAny_pyIter_zip hZ ?_;have I2:Inv X pins σ H1 {s1 with heap:=h'}:=I1.kept (t':=s1.toks) hk;exact ⟨s1.heap.objs.size+4,[s1.heap.objs.size+4,s1.heap.objs.size+2,s1.heap.objs.size+3,s1.heap.objs.size,s1.heap.objs.size+1],_,_,H1,rfl,I2,zx _ _ _ _ _ l1 l2 (zipApart_new Wk Qd),⟨hZ,hTI,⟨_,_,hTO⟩,hi1,hi2⟩,fun b hb=>I1.yG (M8 b hb) (I1.hok.fresh (M8 b hb)),q⟩
 ·obtain ⟨yt,KY,LK,hz1⟩:=I1.tuple hq1
  obtain ⟨its2,Lp,KZ,hz2⟩:=I1.tuple hq2;have m1:s1.heap.IsTuple l1 yt.toArray:=LK;have m2:s1.heap.IsTuple l2 its2.toArray:=KZ;have Wk:l1<s1.heap.objs.size:=by obtain ⟨o,ho,_⟩:=id m1;exact Heap.lt_size ho
  have Qd:l2<s1.heap.objs.size:=by obtain ⟨o,ho,_⟩:=id m2;exact Heap.lt_size ho
  refine Qw m1 m2 fun h' hZ hTI hTO hi1 hi2 hk=> ?_;refine wpAny_pyIter_zip hZ ?_;have I2:Inv X pins σ H1 {s1 with heap:=h'}:=I1.kept (t':=s1.toks) hk;exact ⟨s1.heap.objs.size+4,[s1.heap.objs.size+4,s1.heap.objs.size+2,s1.heap.objs.size+3,s1.heap.objs.size,s1.heap.objs.size+1],_,_,H1,rfl,I2,Fj _ _ _ _ _ l1 l2 (zipApart_new Wk Qd),⟨hZ,hTI,⟨_,_,hTO⟩,hi1,hi2⟩,fun b hb=>I1.yG (M8 b hb) (I1.hok.fresh (M8 b hb)),q⟩
end
section
variable {K:PySem.W.Frag} {D:Addr} {xs:List V} {tc:TT} {te:TE} {Q:VK} {rest:St} {H1:Hp}
theorem Cy {l1 l2:Addr} {ys:List V} {n:Nat} (hn1:xs.length=n) (hn2:ys.length=n) (f:Nat->Option V) (hD:H1 D=none) (hq1:H1 l1=some (.tup xs)) (hq2:H1 l2=some (.tup ys)) (hx:n<=100000)
 (hs:∀i x y H (G:Hp->Prop) (F:VK),xs[i]? = some x->ys[i]? = some y->Same H1 H->(∀H',Same H H'->f i=none->G H')->(∀y H',Same H H'->f i=some y->F y H')->tc (some x::some y::rest) H fun b H3=>if b=true then te (some x::some y::rest) H3 F else G H3)
 (hd:∀H,Same H1 H->H D=some (.lst ((List.range n).filterMap f))->Q (.ref D) H):jF (TY K l1 l2) (NK K 2 (Ae (bV 0) (Ae (bV 1) S5))) tc te Q D (none::none::rest) H1:=by
 refine ⟨fun i m σ H=>m=n - i/\i<=n/\(∃u v,σ=u::v::rest)/\Same H1 H/\H D=some (.lst ((List.range i).filterMap f)),⟨n,by simp,Nat.zero_le _,⟨none,none,rfl⟩,aF hD,ao⟩, ?_⟩;rintro i m σ H ⟨rfl,hi,⟨u,v,rfl⟩,sm,e⟩
 by_cases hlt:i<n
 ·have q1:cu K H l1 xs:=cu.of (sm _ _ hq1)
  have q2:cu K H l2 ys:=cu.of (sm _ _ hq2);have hx1:xs[i]? = some (xs[i]'(by omega)):=List.getElem?_eq_getElem _;have hy1:ys[i]? = some (ys[i]'(by omega)):=List.getElem?_eq_getElem _;refine .inr ⟨⟨xs,ys,_,_,q1,q2,hx1,hy1⟩,fun σ' H'=>(∃u v,σ'=u::v::rest)/\Same H1 H'/\H' D=some (.lst ((List.range (i+1)).filterMap f)),fun σ' H' p'=>⟨n - (i+1),by omega,rfl,hlt,p'⟩, ?_⟩;rintro x H' ⟨p,y,z,rfl,hp,e1,e2,rfl⟩;have sp:=aF (o:=HO.tup [y,z]) hp;refine ⟨p,[y,z],rfl,cu.of ao,rfl,_,_,rfl,_,_,rfl,rfl, ?_⟩;refine hs i y z _ _ _ (e1 _ q1) (e2 _ q2) (sm.trans sp) (fun H3 s3 ef=>⟨⟨_,_,rfl⟩,(sm.trans sp).trans s3,by rw [s3 _ _ (sp _ _ e),eV,ef];simp⟩) (fun y H4 s4 ef=> ?_);refine ⟨_,s4 _ _ (sp _ _ e), ?_,⟨_,_,rfl⟩,((sm.trans sp).trans s4).newly hD, ?_⟩
  ·have:=uK f i
   rw [sizeLine_eq];omega
  ·rw [ao,eV,ef];rfl
 ·have ei:i=n:=by omega
  subst ei;exact .inl ⟨⟨xs,ys,cu.of (sm _ _ hq1),cu.of (sm _ _ hq2),by omega⟩,hd H sm e⟩
end
end L2
set_option Elab.async false
set_option linter.all false
set_option maxRecDepth 100000
set_option maxHeartbeats 4000000
namespace Prf
open PySem L2
def inR (x:Int):Prop:=0<=x/\x<1000
def allR (l:List Int):Prop:=∀x∈l,inR x
theorem Ax {l:List Int} (h:allR l) (i:Nat):inR ((l[i]?).getD 0):=by
 cases e:l[i]? with
 | none=>exact ⟨by decide,by decide⟩
 | some x=>exact h x (List.mem_of_getElem? e)
theorem u5 {l:List Int} (h:allR l) (i:Nat) {x:Int} (hx:inR x):allR (l.set i x):=fun y hy=>by
 rcases List.mem_or_eq_of_mem_set hy with m|e
 ·exact h y m
 ·rw [e];exact hx
theorem yp (x:Int):inR (x % 1000):=⟨Int.emod_nonneg _ (by decide),Int.emod_lt_of_pos _ (by decide)⟩
theorem HF {bs:List Int} (h:allR bs):∀e:zj,inR (vx bs e)
 | .one (.num n)=>yp n
 | .one (.box b)=>Ax h b
 | .two true x y=>yp _
 | .two false x y=>yp _
theorem Od {s:aO} (h:allR s.bs) (r:Rw):allR (lR s r).bs:=by
 cases r<;>first |exact h|exact u5 h _ (HF h _)
theorem Jz:∀(n:Nat) (s:aO),allR s.bs->allR (led n s).bs
 | 0,s,h=>by
   unfold led;split
   ·exact h
   ·split<;>exact h
 | n+1,s,h=>by
   unfold led;split
   ·exact h
   ·split
    ·exact h
    ·exact Jz n _ (Od h _)
def Lh (x:Str):Prop:=x = "waits" \/ x = "ends" \/ x = "lost"
theorem uH:∀(n:Nat) (s:aO),Lh (led n s).st
 | 0,s=>by
   unfold led;split
   ·exact .inr (.inl rfl)
   ·split
    ·exact .inl rfl
    ·exact .inr (.inr rfl)
 | n+1,s=>by
   unfold led;split
   ·exact .inr (.inl rfl)
   ·split
    ·exact .inl rfl
    ·exact uH n _
structure lZ (S:ji):Prop where
 n:allR S.ns
 b:∀s∈S.hs,allR s.bs
 t:∀s∈S.hs,Lh s.st
theorem Om {ns bs:List Int} (h:allR ns) (hb:allR bs) (r:Rw):allR (iU ns bs r):=by
 cases r<;>first |exact h|exact u5 h _ (HF hb _)
theorem Oo {ns bs:List Int} (h:allR ns) (hb:allR bs) (r:Rw):allR (uT ns bs r):=by
 cases r<;>first |exact hb|exact u5 hb _ (Ax h _)
theorem lZ.turn {S:ji} (g:lZ S) (k:Nat):lZ (dY S k):=by
 unfold dY;split
 ·exact g
 ·rename_i s es
  split
  ·exact g
  ·rename_i r er
   have hb:=g.b s (List.mem_of_getElem? es);refine ⟨Om g.n hb r,fun s' hs'=> ?_,fun s' hs'=> ?_⟩
   ·rcases List.mem_or_eq_of_mem_set hs' with m|e
    ·exact g.b s' m
    ·rw [e]
     exact Jz _ _ (Oo g.n hb r)
   ·rcases List.mem_or_eq_of_mem_set hs' with m|e
    ·exact g.t s' m
    ·rw [e]
     exact uH _ _
theorem Gz {m:Nat} {ns:List Int} {rws:List (List Rw)} (h:allR ns):lZ (lE m ns rws):=⟨h,fun s hs=>by
 obtain ⟨r,_,rfl⟩:=List.mem_map.mp hs;refine Jz _ _ fun x hx=> ?_;rw [(List.mem_replicate.mp hx).2];exact ⟨by decide,by decide⟩,fun s hs=>by
 obtain ⟨r,_,rfl⟩:=List.mem_map.mp hs;exact uH _ _⟩
theorem yO:∀b:Fin 8,PyData.strOk (qg b.val)=true:=by decide +kernel
theorem CJ {x:Hs} (h:HB x):(vI x).canLay0=true/\(vI x).depth<=1:=by
 cases x with
 | num n=>exact ⟨by show (PyData.strOk (Str.ofString "number")&&(true&&true))=true;decide +kernel,by show (max 0 (max 0 0))+1<=1;decide⟩
 | box b=>
   refine ⟨?_,by show (max 0 (max 0 0))+1<=1;decide⟩;show (PyData.strOk (Str.ofString "box")&&(PyData.strOk (qg b)&&true))=true;rw [show PyData.strOk (qg b)=true from yO ⟨b,h⟩];decide +kernel
theorem qY {e:zj} (h:nW e):(j4 e).canLay0=true/\(j4 e).depth<=2:=by
 cases e with
 | one x=>obtain ⟨a,b⟩:=CJ (x:=x) h;exact ⟨a,by show (vI x).depth<=2;omega⟩
 | two p x y=>
   obtain ⟨a1,b1⟩:=CJ h.1;obtain ⟨a2,b2⟩:=CJ h.2;refine ⟨?_, ?_⟩
   ·show (PyData.strOk (if p then Str.ofString "plus" else Str.ofString "minus")&&(PyData.canLay0 (vI x)&&(PyData.canLay0 (vI y)&&true)))=true
    rw [a1,a2];cases p<;>decide +kernel
   ·show max 0 (max (vI x).depth (max (vI y).depth 0))+1<=2
    omega
theorem Kh {m:Nat} {r:Rw} (h:um m r):(jg r).canLay0=true/\(jg r).depth<=3:=by
 cases r with
 | load b c=>
   refine ⟨?_,by show max 0 (max 0 (max 0 0))+1<=3;decide⟩;show (PyData.strOk (Str.ofString "load")&&(PyData.strOk (qg b)&&(true&&true)))=true;rw [show PyData.strOk (qg b)=true from yO ⟨b,h.1⟩];decide +kernel
 | store c e=>
   obtain ⟨a,d⟩:=qY h.2;refine ⟨?_, ?_⟩
   ·show (PyData.strOk (Str.ofString "store")&&(true&&(PyData.canLay0 (j4 e)&&true)))=true
    rw [a];decide +kernel
   ·show max 0 (max 0 (max (j4 e).depth 0))+1<=3
    omega
 | swap b c e=>
   obtain ⟨a,d⟩:=qY h.2.2;refine ⟨?_, ?_⟩
   ·show (PyData.strOk (Str.ofString "swap")&&(PyData.strOk (qg b)&&(true&&(PyData.canLay0 (j4 e)&&true))))=true
    rw [a,show PyData.strOk (qg b)=true from yO ⟨b,h.1⟩];decide +kernel
   ·show max 0 (max 0 (max 0 (max (j4 e).depth 0)))+1<=3
    omega
 | pC b e=>
   obtain ⟨a,d⟩:=qY h.2;refine ⟨?_, ?_⟩
   ·show (PyData.strOk (Str.ofString "let")&&(PyData.strOk (qg b)&&(PyData.canLay0 (j4 e)&&true)))=true
    rw [a,show PyData.strOk (qg b)=true from yO ⟨b,h.1⟩];decide +kernel
   ·show max 0 (max 0 (max (j4 e).depth 0))+1<=3
    omega
 | say e=>
   obtain ⟨a,d⟩:=qY (e:=e) h;refine ⟨?_, ?_⟩
   ·show (PyData.strOk (Str.ofString "say")&&(PyData.canLay0 (j4 e)&&true))=true
    rw [a];decide +kernel
   ·show max 0 (max (j4 e).depth 0)+1<=3
    omega
 | go k=>exact ⟨by show (PyData.strOk (Str.ofString "go")&&(true&&true))=true;decide +kernel,by show max 0 (max 0 0)+1<=3;decide⟩
 | oh q e f k=>
   obtain ⟨a1,b1⟩:=qY h.1;obtain ⟨a2,b2⟩:=qY h.2;refine ⟨?_, ?_⟩
   ·show (PyData.strOk (Str.ofString "unless")&&(PyData.strOk (if q then Str.ofString "=" else Str.ofString "<")&&(PyData.canLay0 (j4 e)&&(PyData.canLay0 (j4 f)&&(true&&true)))))=true
    rw [a1,a2];cases q<;>decide +kernel
   ·show max 0 (max 0 (max (j4 e).depth (max (j4 f).depth (max 0 0))))+1<=3
    omega
def eN (l:List Int):PyData:= .list (l.map PyData.int)
theorem qe (l:List Int):(eN l).canLay0=true/\(eN l).depth<=1:=⟨gW PyData.int l fun _ _=>rfl,by
 have:=cV PyData.int 0 l fun _ _=>by show 0<=0;decide
 show PyData.depthAll (l.map PyData.int)+1<=1;omega⟩
def jW (s:aO):PyData:= .tuple [.str s.st,if s.st = "waits" then .int s.pos else .none,eN s.bs,eN s.sy]
theorem Pu {x:Str} (h:Lh x):PyData.strOk x=true:=by
 rcases h with rfl|rfl|rfl<;>decide +kernel
theorem Et {s:aO} (h:Lh s.st):(jW s).canLay0=true/\(jW s).depth<=2:=by
 obtain ⟨a1,b1⟩:=qe s.bs;obtain ⟨a2,b2⟩:=qe s.sy;have a3:(if s.st = "waits" then PyData.int s.pos else .none).canLay0=true:=by split<;>rfl
 have b3:(if s.st = "waits" then PyData.int s.pos else .none).depth=0:=by split<;>rfl
 refine ⟨?_, ?_⟩
 ·show (PyData.strOk s.st&&(PyData.canLay0 (if s.st = "waits" then PyData.int s.pos else .none)&&(PyData.canLay0 (eN s.bs)&&(PyData.canLay0 (eN s.sy)&&true))))=true
  rw [a1,a2,a3,Pu h];rfl
 ·show max 0 (max (PyData.depth (if s.st = "waits" then PyData.int s.pos else .none)) (max (eN s.bs).depth (max (eN s.sy).depth 0)))+1<=2
  omega
def jV (rws:List Rw):PyData:= .list (rws.map jg)
def gQ (S:ji):PyData:= .tuple [.int S.m,.list (S.hs.map fun s=>jV s.rws)]
def Bf (S:ji) (cs:List Int):PyData:= .tuple [gQ S,eN S.ns,.list (S.hs.map jW),eN cs]
theorem Aq {m:Nat} {rws:List Rw} (h:∀r∈rws,um m r):(jV rws).canLay0=true/\(jV rws).depth<=4:=⟨gW jg rws fun r hr=>(Kh (h r hr)).1,by
 have:=cV jg 3 rws fun r hr=>(Kh (h r hr)).2;show PyData.depthAll (rws.map jg)+1<=4;omega⟩
theorem yL {S:ji} {cs:List Int} (g:lZ S) (h:∀s∈S.hs,∀r∈s.rws,um S.m r):SeqAt.shaped (Bf S cs)=true:=by
 obtain ⟨a1,b1⟩:=qe S.ns;obtain ⟨a2,b2⟩:=qe cs;have a3:PyData.canLay0 (.list (S.hs.map jW))=true:=gW jW S.hs fun s hs=>(Et (g.t s hs)).1;have b3:=cV jW 2 S.hs fun s hs=>(Et (g.t s hs)).2;have a4:PyData.canLay0 (.list (S.hs.map fun s=>jV s.rws))=true:=gW (fun s:aO=>jV s.rws) S.hs fun s hs=>(Aq (h s hs)).1;have b4:=cV (fun s:aO=>jV s.rws) 4 S.hs fun s hs=>(Aq (h s hs)).2
 have e1:PyData.canLay0 (Bf S cs)=true:=by
  show ((true&&(PyData.canLay0 (.list (S.hs.map fun s=>jV s.rws))&&true))&&(PyData.canLay0 (eN S.ns)&&(PyData.canLay0 (.list (S.hs.map jW))&&(PyData.canLay0 (eN cs)&&true))))=true;rw [a1,a2,a3,a4];rfl
 have e2:PyData.depth (Bf S cs)<=64:=by
  show max (max 0 (max (PyData.depthAll (S.hs.map fun s=>jV s.rws)+1) 0)+1) (max (eN S.ns).depth (max (PyData.depthAll (S.hs.map jW)+1) (max (eN cs).depth 0)))+1<=64;omega
 unfold SeqAt.shaped;rw [e1,decide_eq_true e2];rfl
mutual
theorem Ai:∀d:PyData,d.canLay0=true->PyData.eqv d d=true
 | .none,_=>rfl
 | .bool b,_=>by simp [PyData.eqv]
 | .int i,_=>by simp [PyData.eqv]
 | .str x,_=>by simp [PyData.eqv]
 | .list ds,h=>by simp only [PyData.eqv];exact qW ds (by simpa [PyData.canLay0] using h)
 | .tuple ds,h=>by simp only [PyData.eqv];exact qW ds (by simpa [PyData.canLay0] using h)
 | .dict _,h=>by simp [PyData.canLay0] at h
theorem qW:∀ds:List PyData,PyData.canLayAll0 ds=true->PyData.eqvAll ds ds=true
 | [],_=>rfl
 | d::ds,h=>by
   simp only [PyData.canLayAll0,Bool.and_eq_true] at h;simp only [PyData.eqvAll,Bool.and_eq_true];exact ⟨Ai d h.1,qW ds h.2⟩
end
theorem Cw {d:PyData} (h:SeqAt.shaped d=true):PyData.eqv d d=true:=by
 unfold SeqAt.shaped at h;rw [Bool.and_eq_true] at h;exact Ai d h.1
def isLoad:Rw->Bool
 | .load _ _=>true
 | _=>false
def apart (r q:Rw):Prop:=qd r≠qd q\/(isLoad r=true/\isLoad q=true)
end Prf
set_option Elab.async false
set_option linter.all false
set_option maxRecDepth 100000
set_option maxHeartbeats 4000000
namespace L2
open PySem
def nw (H H':Hp):Hp:=fun x=>match H x with
 | none=>H' x
 | some _=>none
theorem vV {H H':Hp} {x:Addr} {o:HO} (n:H x=none) (e:H' x=some o):nw H H' x=some o:=by
 unfold nw;rw [n];exact e
theorem Cd {H H':Hp} {x:Addr} {o:HO} (e:nw H H' x=some o):H x=none/\H' x=some o:=by
 unfold nw at e;cases q:H x with
 | none=>rw [q] at e;exact ⟨rfl,e⟩
 | some u=>rw [q] at e;cases e
theorem M6 (H H':Hp):Same (nw H H') H':=fun x o e=>(Cd e).2
section
variable {K:PySem.W.Frag} {a D:Addr} {xs:List V} {te:TE} {Q:VK} {rest:St} {H1:Hp}
def nwB (H1:Hp) (D:Addr) (H:Hp):Hp:=fun x=>if x=D then none else nw H1 H x
theorem Ea {H H1:Hp} {x:Addr} {o:HO} (e:nwB H1 D H x=some o):x≠D/\H1 x=none/\H x=some o:=by
 unfold nwB at e
 by_cases z:x=D
 ·rw [if_pos z] at e;cases e
 ·rw [if_neg z] at e;exact ⟨z,Cd e⟩
theorem Jo {H H1:Hp} {x:Addr} {o:HO} (z:x≠D) (n:H1 x=none) (e:H x=some o):nwB H1 D H x=some o:=by
 unfold nwB;rw [if_neg z];exact vV n e
theorem Jm {H H4:Hp} {o:HO} (s:Same H H4):Same (nwB H1 D H) (nwB H1 D (upd H4 D o)):=fun x u e=>by
 obtain ⟨z,n,h⟩:=Ea e;exact Jo z n (by rw [aD z];exact s _ _ h)
theorem M7 {H H4:Hp} {o u:HO} (s:Same H1 H) (e:H D=some u):Same (nw H H4) (nwB H1 D (upd H4 D o)):=fun x v h=>by
 obtain ⟨n,h⟩:=Cd h;have z:x≠D:=(aC e n).symm;exact Jo z (s.free n) (by rw [aD z];exact h)
theorem Rv {H:Hp}:Same (nwB H1 D H) (nw H1 H):=fun x o e=>by
 obtain ⟨_,n,h⟩:=Ea e;exact vV n h
theorem GR (f:Nat->PyData) (hD:H1 D=none) (hq:aY K H1 a xs) (hx:xs.length<=100000)
 (hs:∀i x H (F:VK),xs[i]? = some x->Same H1 H->(∀y H',Same H H'->Dat (nw H H') y (f i)->F y H')->te (some x::rest) H F)
 (hd:∀H,Same H1 H->Dat (nw H1 H) (.ref D) (.list ((List.range xs.length).map f))->Q (.ref D) H):jF (K9 K a) (bV 0) oJ te Q D (none::rest) H1:=by
 refine eE (K:=K) (xs:=xs) (fun i σ H=>(∃v,σ=v::rest)/\Same H1 H /\ ∃vs,H D=some (.lst vs)/\bH (nwB H1 D H) vs ((List.range i).map f)) ⟨⟨none,rfl⟩,aF hD,[],ao,by simp [bH]⟩ (fun i σ H _ ⟨_,sm,_⟩=>sm.Fy _ _ hq) ?_ (fun σ H ⟨_,sm,vs,e,d⟩=>hd H sm (jy (vV hD e) (d.same Rv _)));rintro i x σ H hi ⟨⟨v,rfl⟩,sm,vs,e,d⟩;have hil:i<xs.length:=(List.getElem?_eq_some_iff.mp hi).1;refine hs i x H _ hi sm fun y H4 s4 dy=> ?_;have hl:vs.length=i:=by rw [d.length];simp
 refine ⟨vs,s4 _ _ e, ?_,⟨_,rfl⟩,(sm.trans s4).newly hD,vs++[y],ao, ?_⟩
 ·rw [sizeLine_eq];omega
 ·rw [List.range_succ,List.map_append]
  exact v9 (d.same (Jm s4) _) (dy.same (M7 sm e) _)
end
end L2
set_option Elab.async false
set_option linter.all false
set_option maxRecDepth 100000
set_option maxHeartbeats 4000000
namespace L2
open PySem PySem.Spec PyProof.Rows
structure YQ (K:PySem.W.Frag) (C:Addr):Prop where
 ne:PySem.W.findIn K (.ref C) "__ne__" = some (some (.builtin "object.__ne__"))
 ob:PySem.W.mroIn K C (.type "object")=some true
section
variable {prog:Program} {w:World} {A:Around} {E:Value->Shared->Prop} {s:Shared} {K:PySem.W.Frag} {x C f:Addr} {ox:Obj} {od:Option Obj} {b:Value}
theorem Js {Q:PySem.Fin->Shared->Prop} (hu:A.units<cLine) (X:K.In s.heap) (I:PySem.W.InstAt s.heap x ox C od) (hs:PySem.W.findIn K (.ref C) "__eq__" = some (some (.ref f))) (hf:PySem.W.isFn K (.ref f)=true)
 (h:wpAny (model prog w) A (call (.ref f) [.ref x,b]) (fun v s'=>∃t,v = .bool t/\Q (.done (.ret (.bool (!t)))) s') E s):wpAny (model prog w) A (Builtin.«object.__ne__» ⟨[.ref x,b],[]⟩) Q E s:=by
 unfold Builtin.«object.__ne__»;refine wpAny_bind (m:=slotArgs "__ne__" 1 _) (wpAny_pure ?_);refine wpAny_bind (m:=cRoomFor _ _) (wpAny_cRoomFor hu ?_);refine wpAny_bind (m:=callSpecialIfBound? (.ref x) (Str.ofString "__eq__") [b]) (PySem.W.ifBound_K X I hs hf (wpAny_mono h (fun v s' hv=> ?_) fun _ _ e=>e));obtain ⟨t,rfl,q⟩:=hv;exact wpAny_bind (m:=truthy (.bool _)) (wpAny_truthy_bool (wpAny_pure q))
theorem M9 {Q:Value->Shared->Prop} {tb:Value} (hu:A.units+1<cLine) (X:K.In s.heap) (I:PySem.W.InstAt s.heap x ox C od) (hb:PySem.W.Looks (model prog w) s.heap (typeOf b) tb) (hn:PySem.W.notFirst K C tb=true) (N:YQ K C)
 (hs:PySem.W.findIn K (.ref C) "__eq__" = some (some (.ref f))) (hf:PySem.W.isFn K (.ref f)=true)
 (h:wpAny (model prog w) A.in1 (call (.ref f) [.ref x,b]) (fun v s'=>∃t,v = .bool t/\Q (.bool (!t)) s') E s):wpAny (model prog w) A (compareOp .NotEq (.ref x) b) Q E s:=by
 have hu0:A.units<cLine:=by omega
 have one:wpAny (model prog w) A (tryCompare (.ref x) "__ne__" b) (fun r s'=>∃v,r=some v/\Q v s') E s:=by
  unfold tryCompare;refine wpAny_bind ?_;simp only [callSpecialIfBound?,bindSpecialIfBound?];refine wpAny_holding (wpAny_bind (wpAny_bind (wpAny_bind (I.type.here ((PySem.W.looks_findIn X N.ne).here (wpAny_bind (wpAny_askSetting (wpAny_ite ?_))))))));have hbd:PySem.W.Looks (model prog w) s.heap (bindSpecial (.builtin "object.__ne__") (.ref x)) (.builtin "object.__ne__",[.ref x]):=PySem.W.Looks.of_pure (PySem.F.slot_object_ne.bind _)
  have fin:wpAny (model prog w) A (call (.builtin "object.__ne__") ([.ref x]++[b]) >>= fun v=>pure (some v)) (fun a s'=>wpAny (model prog w) A (match a with |some Value.notImplemented=>pure none|none=>pure none|some v=>pure (some v)) (fun r s'=>∃v,r=some v/\Q v s') E s') E s:=by
   refine wpAny_bind (wpAny_call (codeAny_call_builtin PySem.F.slot_object_ne.plain F.cmpEntry_ne (PySem.W.check_slot F.cmpKind_ne F.cmpSplit_ne (I.type.andThen (PySem.W.looks_mroIn X N.ob)) (F.cmpArgs_ne _ _) (Js (A:=A.in1) hu X I hs hf (wpAny_mono h (fun v s' hv=> ?_) fun _ _ e=>e)))));obtain ⟨t,rfl,q⟩:=hv;refine ⟨t,rfl, ?_⟩;exact wpAny_pure (wpAny_pure ⟨_,rfl,q⟩)
  split
  ·exact wpAny_bind (hbd.here (wpAny_pure (by exact fin)))
  ·exact wpAny_tryCatch (wpAny_bind (hbd.here (wpAny_pure (by exact fin))))
 refine PySem.W.cmp_ofNotEq ?_;unfold richCompare;simp only [oneThing_ref];refine wpAny_holding (wpAny_bind (wpAny_cRoomFor hu0 (wpAny_bind (I.type.here (wpAny_bind (hb.here ?_))))));split
 ·rename_i ql
  have no:PySem.W.subIn K tb (.ref C)=some false:=by
   rcases Bool.or_eq_true_iff.mp hn with y|y
   ·rw [beq_iff_eq.mp y] at ql
    simp at ql
   ·exact beq_iff_eq.mp y
  refine wpAny_bind ((PySem.W.looks_subIn X no).here ?_);simp only [Bool.false_eq_true,if_false];refine wpAny_bind (wpAny_mono one (fun r t' y=> ?_) fun _ _ y=>y);obtain ⟨v,rfl,yq⟩:=y;exact wpAny_pure yq
 ·refine wpAny_bind (wpAny_pure ?_)
  simp only [Bool.false_eq_true,if_false];refine wpAny_bind (wpAny_mono one (fun r t' y=> ?_) fun _ _ y=>y);obtain ⟨v,rfl,yq⟩:=y;exact wpAny_pure yq
end
section
variable {X:Cx} {k:Nat} {C:Addr} {sp:Sp}
def ZD (C:Addr) (sp:Sp):R2:=fun x y H Q=>∃(a b dx dy:Addr) (fs gs:List (Str×V)),x = .ref a/\y = .ref b/\H a=some (.ins C dx fs)/\H b=some (.ins C dy gs)/\sp [.ref a,.ref b] H (fun v H'=>∃t:Bool,v = .bl t/\Q (.bl (!t)) H') E0
theorem Ri (N:YQ X.K C) (M:MethAt X.prog X.w X.K X.mg X.base k C "__eq__" ["self","other"] sp) (hr:dN (k+1) X.A):nU X (compareOp .NotEq) (ZD C sp):=by
 intro pins s σ H x y u v Q I rx ry h;obtain ⟨f,fd,G,hm,hb⟩:=M;obtain ⟨a,b,dx,dy,fs,gs,rfl,rfl,ea,eb,q⟩:=h;obtain rfl:u=Value.ref a:=rx;obtain rfl:v=Value.ref b:=ry;obtain ⟨mA,O,_⟩:=jc I.hok ea;obtain ⟨od,J,_⟩:=O.look;obtain ⟨mB,O2,_⟩:=jc I.hok eb;obtain ⟨od2,J2,_⟩:=O2.look;obtain ⟨mm,Fm⟩:=I.fr;refine M9 (by have:=hr.units;omega) (I.mod.Ho.keeps Fm.keep) J J2.type (by simp [PySem.W.notFirst]) N hm.at_ hm.fn (dH (Dz (us:=[.ref a,.ref b]) (vs:=[.ref a,.ref b]) G hr hb I (.cons rfl (.cons rfl .nil)) q) fun v s' hv=> ?_)
 obtain ⟨x,H',I',rx,t,rfl,q'⟩:=hv;obtain rfl:v=Value.bool t:=rx;exact ⟨t,rfl,.bl (!t),H',I',rfl,q'⟩
end
end L2
set_option Elab.async false
set_option linter.all false
set_option maxRecDepth 100000
set_option maxHeartbeats 4000000
namespace L2
open PySem PySem.Spec PyProof.Rows
section
variable {prog:Program} {w:World} {K:Type} [DecidableEq K] {knd:HeapKind prog w K} {A:Around} {E:Value->Shared->Prop} {s:Shared}
end
section
variable {X:Cx}
end
end L2
set_option Elab.async false
set_option linter.all false
set_option maxRecDepth 100000
set_option maxHeartbeats 4000000
namespace L2
open PySem PySem.Spec PyProof.Rows
section
variable {prog:Program} {w:World} {K:Type} [DecidableEq K] {knd:HeapKind prog w K} {A:Around} {E:Value->Shared->Prop} {s:Shared} {d:Addr} {xs:List (K×Addr×Value)}
end
section
variable {X:Cx} {pos:Pos} {k v a:Expr} {tk tv ta:TE}
end
end L2
namespace L2
open PySem PySem.Spec PyProof.Rows
section
variable {d:Addr} {o:Obj} {kvs:List (List Key×V)} {g:TG} {tb:TS} {D:Ends} {σ:St} {H:Hp}
end
end L2
namespace L2
open PySem PySem.Spec PyProof.Rows
section
variable {X:Cx}
end
end L2
set_option Elab.async false
set_option linter.all false
set_option maxRecDepth 100000
set_option maxHeartbeats 1000000
namespace L2
open PySem PySem.Spec PyProof.Rows PySem.W
section
variable {P:Program} {w:World} {H:Hp} {h h':Heap} {p:Addr} {ps:Array Value}
end
section
variable {X:Cx}
end
end L2
set_option Elab.async false
set_option linter.all false
set_option maxRecDepth 100000
set_option maxHeartbeats 1000000
namespace L2
open PySem PySem.Spec PyProof.Rows PySem.W
section
variable {X:Cx} {k:Nat} {N ps:List Str} {qual:Str} {params:Arguments} {body:Expr} {scope:Scope} {sp:List V->Hp->VK->Prop} {pm:Value} {f:Addr}
end
section
variable {X:Cx} {pins:List (Addr×Obj)} {σ:St} {H:Hp} {q l I S:Addr} {xs:List V}
end
section
variable {X:Cx} {a:Expr} {ta:TA} {tk:TE} {p pos kp aeg:Pos} {k:Nat} {N ps:List Str} {qual:Str} {params:Arguments} {body:Expr} {scope:Scope} {sp:List V->Hp->VK->Prop} {pm:Value}
end
end L2
set_option Elab.async false
set_option linter.all false
set_option maxRecDepth 100000
set_option maxHeartbeats 1000000
namespace L2
open PySem PySem.Spec PyProof.Rows PySem.W
section
variable {P:Program} {w:World} {K:PySem.W.Frag} {mg:Str->Option Value} {base:Heap}
end
end L2
set_option Elab.async false
set_option linter.all false
set_option maxRecDepth 100000
set_option maxHeartbeats 4000000
namespace L2
open PySem PySem.Spec PyProof.Rows PySem.Calls PyProof.V
section
variable {prog:Program} {w:World} {K:Type} [DecidableEq K] {knd:HeapKind prog w K} {A:Around} {E:Value->Shared->Prop} {s:Shared}
end
section
variable {X:Cx}
end
end L2
set_option Elab.async false
set_option linter.all false
set_option maxRecDepth 100000
set_option maxHeartbeats 4000000
namespace L2
open PySem PySem.Spec PyProof.Rows
section
variable {X:Cx} {k:Nat} {C:Addr} {sp:Sp}
end
end L2
set_option Elab.async false
set_option linter.all false
set_option maxRecDepth 100000
set_option maxHeartbeats 4000000
namespace L2
open PySem PySem.Spec PyProof.Rows
section
variable {X:Cx} {k:Nat} {C:Addr} {sp:Sp}
end
end L2
set_option Elab.async false
set_option linter.all false
set_option maxRecDepth 100000
set_option maxHeartbeats 4000000
namespace L2
open PySem PySem.Spec PyProof.Rows
section
variable {X:Cx} {k:Nat} {C:Addr} {sp:Sp}
end
end L2
set_option Elab.async false
set_option linter.all false
set_option maxRecDepth 100000
set_option maxHeartbeats 1000000
namespace L2
open PySem PySem.Spec PyProof.Rows
def ZC (K:PySem.W.Frag) (neg:Bool):R2:=fun x y H Q=>∃(p q:Addr) (vs:List V),x = .ref p/\y = .ref q/\aY K H p vs/\aY K H q []/\Q (.bl (if neg then !vs.isEmpty else vs.isEmpty)) H
section
variable {X:Cx} {K:PySem.W.Frag}
theorem zY {us:List Value} (r:Vals [] us):us=[]:=by cases r;rfl
theorem uy (hK:X.K=K) (hu:X.A.units+64<cLine):nU X (compareOp .Eq) (ZC K false):=by
 subst hK;intro pins s σ H x y v u Q I rx ry h;obtain ⟨p,q,vs,rfl,rfl,hp,hq,k⟩:=h;cases rx;cases ry;obtain ⟨its,r,pl,_⟩:=I.list hp;obtain ⟨its2,r2,KZ,_⟩:=I.list hq;have e2:=zY r2;subst e2;have hl:=r.length;have hu':X.A.units<cLine:=by have:=uD hu;exact Nat.lt_of_le_of_lt (Nat.le_add_right _ 64) this
 cases vs with
 | nil=>
   have e1:=zY r;subst e1;exact SeqAt.RcAt.lists (e:=fun _=>true) pl.isList KZ.isList rfl hu' (fun j h1=>absurd h1 (Nat.not_lt_zero j)) X.prog X.w X.xe _ ⟨.bl true,H,I,rfl,k⟩
 | cons a vs=>
   refine SeqAt.RcAt.lists_lengths pl.isList KZ.isList ?_ hu' X.prog X.w X.xe _ ⟨.bl false,H,I,rfl,k⟩;cases its with
   | nil=>cases hl
   | cons b l=>rfl
end
end L2
set_option Elab.async false
set_option linter.all false
set_option maxRecDepth 100000
set_option maxHeartbeats 1000000
namespace L2
open PySem PyProof.Rows
theorem zm:∀{ps:List Str} {us:List Value},us.length=ps.length->ps.Nodup->(ps.filter fun n=>((ps.zip us).lookup n).isNone)=[]/\(ps.filterMap fun n=>((ps.zip us).lookup n).map (n,·))=ps.zip us
 | [],[],_,_=>⟨rfl,rfl⟩
 | p::ps,u::us,hl,nd=>by
   rw [List.nodup_cons] at nd;obtain ⟨h1,h2⟩:=zm (ps:=ps) (us:=us) (by simpa using hl) nd.2
   have e:∀n∈ps,((p::ps).zip (u::us)).lookup n=(ps.zip us).lookup n:=fun n hn=>by
    rw [List.zip_cons_cons,List.lookup_cons];rw [show (n==p)=false from beq_eq_false_iff_ne.mpr fun z=>nd.1 (by rw [←z];exact hn)]
   have e0:((p::ps).zip (u::us)).lookup p=some u:=by rw [List.zip_cons_cons,List.lookup_cons];simp
   constructor
   ·rw [List.filter_cons,e0,if_neg (by simp)]
    rw [←h1];exact List.filter_congr fun n hn=>by rw [e n hn]
   ·rw [List.filterMap_cons,e0]
    refine congrArg ((p,u) :: ·) (Eq.trans ?_ h2);clear h1 h2 e0 hl;revert e;generalize ((p::ps).zip (u::us))=a;generalize ps.zip us=b;intro e
    induction ps with
    | nil=>rfl
    | cons q ps ih=>
      rw [List.filterMap_cons,List.filterMap_cons,e q (by simp),ih ⟨fun z=>nd.1 (by simp [z]),(List.nodup_cons.mp nd.2).2⟩ fun n hn=>e n (by simp [hn])]
 | [],_::_,hl,_=>by simp at hl
 | _::_,[],hl,_=>by simp at hl
def kY (a:Arguments) (ps:List Str):Bool:=a.posonlyargs.isEmpty&&decide (a.args.map (·.arg)=ps)&&a.vararg.isNone&&a.kwonlyargs.isEmpty&&a.kwarg.isNone&&decide ps.Nodup
theorem uV {fd:FuncData} {ps:List Str} {us:List Value} (h:kY fd.params ps=true) (hd:fd.defaults = .none) (hl:us.length=ps.length):bindArgs fd ⟨us,[]⟩=pure (ps.zip us):=by
 unfold kY at h;simp only [Bool.and_eq_true,decide_eq_true_eq,List.isEmpty_iff,Option.isNone_iff_eq_none] at h;obtain ⟨⟨⟨⟨⟨h1,h2⟩,h3⟩,h4⟩,h5⟩,nd⟩:=h;obtain ⟨z1,z2⟩:=zm hl nd;have e0:seqItems? Value.none=pure none:=rfl;unfold bindArgs;simp only [h1,h2,h3,h4,h5,hd,e0,List.map_nil,List.nil_append,List.append_nil,pure_bind,Option.getD_none];rw [List.forIn_nil,pure_bind];dsimp only;rw [if_neg (by rw [hl];simp)];simp only [List.length_nil,Nat.zero_sub,List.drop_nil,Nat.sub_zero,List.take_length,z1,List.isEmpty_nil,Bool.not_true,Bool.false_eq_true,if_false,List.zip_nil_right,List.forIn_nil,pure_bind,z2,Array.toList_empty]
end L2
set_option Elab.async false
set_option linter.all false
set_option maxRecDepth 100000
set_option maxHeartbeats 4000000
namespace L2
open PySem PySem.Spec PyProof.Rows PySem.W
theorem fj.uU {K:PySem.W.Frag} {x qual:Str} {st:Stmt} {f:Addr} {fd:FuncData} {ps:List Str} (F:fj K x qual st f fd) (h:kY (dF st) ps=true):Binds K fd ps []:=
 F.binds fun _ _ _ _ _ _ _ hl=>uV h rfl hl
theorem fj.bind1 {K:PySem.W.Frag} {x qual a:Str} {st:Stmt} {f:Addr} {fd:FuncData} (F:fj K x qual st f fd) (h:kY (dF st) [a]=true) (s:Shared) (v:Value):BindsTo s fd ⟨[v],[]⟩ [(a,v)]:=by
 obtain ⟨oc,od,kV,doc,pm,an,cdv,ct,osl,rfl,lk,hcd⟩:=F.ex;exact .of_eq (uV (ps:=[a]) h rfl rfl)
def fJ (K:PySem.W.Frag) (x:Str) (st:Stmt):Prop:=∃f fd,nsIn K mainGlobals x=some (some (.ref f))/\fj K x x st f fd
def jf (K:PySem.W.Frag) (C:Addr) (m q:Str) (st:Stmt):Prop:=∃f fd,(findIn K (.ref C) m=some (some (.ref f))/\isFn K (.ref f)=true)/\fj K m q st f fd
section
variable {K:PySem.W.Frag} {x m q:Str} {st:Stmt} {f p C c:Addr} {oc:Value} {od an:Option Addr} {osl:Array (Option Value)} {kV doc pm cdv ct:Value}
theorem J5 (a:nsIn K mainGlobals x=some (some (.ref f))) (l:K.lookup f=some ⟨oc,od,.func (PySem.W.fnOf x x (dF st) (eX st) (aN st) .none kV doc pm an cdv ct),osl⟩) (c:PySem.W.codeIn K cdv x=true) (k:PySem.W.keepIn K (.ref f)=true):fJ K x st:=⟨_,_,a,JQ l c k⟩
theorem Oe (a:findIn K (.ref C) m=some (some (.ref f))) (l:K.lookup f=some ⟨oc,od,.func (PySem.W.fnOf m q (dF st) (eX st) (aN st) .none kV doc pm an cdv ct),osl⟩) (c:PySem.W.codeIn K cdv q=true) (k:PySem.W.keepIn K (.ref f)=true) (n:isFn K (.ref f)=true):jf K C m q st:=⟨_,_,⟨a,n⟩,JQ l c k⟩
end
def TV (K:PySem.W.Frag) (C:Addr):List Str->Prop
 | []=>True
 | a::l=>findIn K (.ref C) a=some none/\TV K C l
def Kv (K:PySem.W.Frag):List Str->Prop
 | []=>True
 | a::l=>nsIn K mainGlobals a=some none/\Kv K l
def XD (mg:Str->Option Value):List Str->Prop
 | []=>True
 | a::l=>mg a=none/\XD mg l
theorem Kv.mg {K:PySem.W.Frag} {h:Heap} {mg:Str->Option Value} (X:K.In h) (G:h.Ns mainGlobals mg):∀{l:List Str},Kv K l->XD mg l
 | [],_=>trivial
 | _::_,z=>⟨mg_none_of X G z.1,Kv.mg X G z.2⟩
structure KC (K:PySem.W.Frag) (x:Str) (C:Addr):Prop where
 a:nsIn K mainGlobals x=some (some (.ref C))
 pg:plainGet K C Str.empty=true
 hd:hasDictIn K C=true
 po:plainOver K C=true
 sa:findIn K (.ref C) "__setattr__" = some (some (.builtin "object.__setattr__"))
 ms:makesIn K C=true
 kp:keepIn K (.ref C)=true
theorem KC.cls {K:PySem.W.Frag} {x:Str} {C:Addr} (I:KC K x C):Cls K C:=⟨I.pg,I.hd,I.po,I.sa⟩
structure Qq (K:PySem.W.Frag) (x:Str) (C:Addr):Prop where
 a:nsIn K mainGlobals x=some (some (.ref C))
 cl:(clsIn K C).isSome=true
 ty:typeIn K (.ref C)=some (.type "type")
 bs:subIn K (.ref C) (.type "BaseException")=some true
structure YK (K:PySem.W.Frag) (C:Addr):Prop where
 ga:findIn K (.ref C) "__getattribute__" = some (some (.builtin "BaseException.__getattribute__"))
 gk:findIn K (.ref C) "__getattr__" = some none
 mB:mroIn K C (.type "BaseException")=some true
 ca:findIn K (.ref C) "__class__" = some (some (.builtin "object.__class__"))
 mo:mroIn K C (.type "object")=some true
 ve:subIn K (.ref C) (.type "ValueError")=some true
 ex:excIn K C [.type "ValueError",.type "Exception",.type "BaseException",.type "object"] "ValueError.__new__" = true
structure XcI (K:PySem.W.Frag):Prop where
 cg:specialIn K (.builtin "object.__class__") "__get__" = some (some (.builtin "getset_descriptor.__get__"))
 ct:takesIn K (.builtin "object.__class__")=some true
structure Ue (P:Program) (w:World) (K:PySem.W.Frag) (mg:Str->Option Value) (base:Heap):Prop where
 h:∃h,K.In h/\h.Ns mainGlobals mg
section
variable {P:Program} {w:World} {K:PySem.W.Frag} {mg:Str->Option Value} {base:Heap} {x m q:Str} {st:Stmt} {p C D:Addr} {k:Nat} {ps:List Str} {sp:Sp} {h:Heap} {b:Bool}
theorem Qq.o {R:Addr} (I:Qq K x C) (X:K.In h) (G:h.Ns mainGlobals mg) (Q:lV K R C b):Xo K mg R C x b:=⟨mg_of X G I.a,⟨I.cl,I.ty,I.bs⟩,Q⟩
theorem Qq.r (I:Qq K x C) (X:K.In h) (G:h.Ns mainGlobals mg) (R:YK K C) (c:XcI K):Xr K mg C x:=⟨mg_of X G I.a,⟨I.cl,I.ty,I.bs⟩,⟨R.ga,R.gk,R.mB,I.cl,R.ca,c.cg,c.ct,R.mo⟩,R.ex,R.ve⟩
variable (Y:Ue P w K mg base)
include Y
theorem Ue.fn (D:fJ K x st) (ok:∀{f:Addr} {fd:FuncData},fj K x x st f fd->bU P w K mg base gF k f fd ps sp) (hp:kY (dF st) ps=true:=by kernel_rfl):FnAt P w K mg base k x ps sp:=by
 obtain ⟨h,X,G⟩:=Y.h;obtain ⟨f,fd,a,F⟩:=D;exact ⟨f,fd,ok F,mg_of X G a,F.kp,F.uU hp⟩
theorem Ue.fnX (D:fJ K x st) (ok:∀{f:Addr} {fd:FuncData},fj K x x st f fd->bU P w K mg base (oH P w) k f fd ps sp) (hp:kY (dF st) ps=true:=by kernel_rfl):Fb P w K mg base k x ps sp:=by
 obtain ⟨h,X,G⟩:=Y.h;obtain ⟨f,fd,a,F⟩:=D;exact ⟨f,fd,ok F,mg_of X G a,F.kp,F.uU hp⟩
theorem Ue.me (D:jf K C m q st) (ok:∀{f:Addr} {fd:FuncData},fj K m q st f fd->bU P w K mg base gF k f fd ps sp) (hp:kY (dF st) ps=true:=by kernel_rfl):MethAt P w K mg base k C m ps sp:=by
 obtain ⟨f,fd,⟨a,n⟩,F⟩:=D;exact ⟨f,fd,ok F,⟨a,n,F.kp⟩,F.uU hp⟩
theorem Ue.Wh (D:jf K C m q st) (ok:∀{f:Addr} {fd:FuncData},fj K m q st f fd->bU P w K mg base (oH P w) k f fd ps sp) (hp:kY (dF st) ps=true:=by kernel_rfl):gw P w K mg base k C m ps sp:=by
 obtain ⟨f,fd,⟨a,n⟩,F⟩:=D;exact ⟨f,fd,ok F,⟨a,n,F.kp⟩,F.uU hp⟩
theorem Ue.ma (I:KC K x C) (D:jf K C "__init__" q st) (ok:∀{f:Addr} {fd:FuncData},fj K "__init__" q st f fd->bU P w K mg base gF k f fd ps sp) (hp:kY (dF st) ps=true:=by kernel_rfl):lF P w K mg base k C x ps [] sp:=by
 obtain ⟨h,X,G⟩:=Y.h;obtain ⟨f,fd,⟨a,n⟩,F⟩:=D;exact ⟨f,fd,[],ok F,⟨I.ms,a,n,I.kp⟩,mg_of X G I.a,F.uU hp,.nil⟩
end
end L2
set_option Elab.async false
set_option linter.all false
set_option maxRecDepth 100000
set_option maxHeartbeats 4000000
namespace Prf
open PySem L2
def top (i:Nat):Stmt:=PySem.Challenge.pw_fewnotes_k13_twins_by_turns.main.body.getD i (.Pass ⟨0,0,0,0⟩)
abbrev qI:Stmt:=top 7
abbrev oO:Stmt:=top 9
abbrev oR:Stmt:=top 10
abbrev mU:Stmt:=inClass (top 14) 0
abbrev jr:Stmt:=inClass (top 14) 1
abbrev jo:Stmt:=inClass (top 14) 2
abbrev jq:Stmt:=inClass (top 14) 3
abbrev qM:Stmt:=inClass (top 14) 4
abbrev kW:Stmt:=inClass (top 14) 5
abbrev mR:Stmt:=inClass (top 14) 6
abbrev gq:Stmt:=inClass (top 14) 7
abbrev bY:Stmt:=inClass (top 15) 0
abbrev kJ:Stmt:=inClass (top 15) 1
abbrev gR:Stmt:=inClass (top 15) 2
abbrev jL:Stmt:=inClass (top 15) 3
abbrev jM:Stmt:=inClass (top 15) 4
abbrev kO:Stmt:=inClass (top 15) 5
abbrev mQ:Stmt:=inClass (top 15) 6
abbrev jk:Stmt:=inClass (top 15) 7
abbrev kI:Stmt:=inClass (top 15) 8
abbrev iJ:Stmt:=inClass (top 15) 9
abbrev iI:Stmt:=inClass (top 15) 10
abbrev jm:Stmt:=inClass (top 15) 11
abbrev iK:Stmt:=inClass (top 15) 12
abbrev iH:Stmt:=top 16
abbrev xH:Stmt:=top 18
abbrev xO:Stmt:=top 19
abbrev pU:Stmt:=top 20
abbrev uf:Stmt:=top 21
abbrev uc:Stmt:=top 22
abbrev Bx:Stmt:=top 23
abbrev oY:Stmt:=top 24
abbrev xJ:Stmt:=top 25
abbrev BJ:Stmt:=top 26
abbrev BK:Stmt:=top 27
abbrev uh:Stmt:=top 28
abbrev xM:Stmt:=top 29
abbrev oU:Stmt:=top 30
abbrev oZ:Stmt:=top 31
abbrev ud:Stmt:=top 32
abbrev ug:Stmt:=top 33
abbrev BL:Stmt:=top 34
abbrev qL:Stmt:=top 35
abbrev xG:Stmt:=top 36
abbrev qK:Stmt:=top 37
abbrev qJ:Stmt:=top 38
abbrev xK:Stmt:=top 39
abbrev xP:Stmt:=top 40
abbrev oX:Stmt:=top 41
abbrev xu:Stmt:=top 42
abbrev xQ:Stmt:=top 43
abbrev oW:Stmt:=top 44
abbrev Ij:Stmt:=top 45
structure mC (mg:Str->Option Value):Prop where
 Kr:mg "all" = none
 u0:mg "bool" = none
 uZ:mg "int" = none
 bR:mg "isinstance" = none
 dU:mg "len" = none
 dg:mg "list" = none
 Qp:mg "max" = none
 Xf:mg "min" = none
 fL:mg "range" = none
 Xe:mg "str" = none
 Qo:mg "sum" = none
 yP:mg "tuple" = none
 Qn:mg "zip" = none
theorem Bu:bA ["row"] ["row"] (aN qI):=⟨rfl,rfl,rfl,by decide +kernel,rfl,by decide +kernel,by decide +kernel⟩
theorem zJ:bA ["value"] ["value"] (aN oO):=⟨rfl,rfl,rfl,by decide +kernel,rfl,by decide +kernel,by decide +kernel⟩
theorem zK:bA ["value","count"] ["value","count"] (aN oR):=⟨rfl,rfl,rfl,by decide +kernel,rfl,by decide +kernel,by decide +kernel⟩
theorem xr:bA ["self","rows"] ["self","rows"] (aN mU):=⟨rfl,rfl,rfl,by decide +kernel,rfl,by decide +kernel,by decide +kernel⟩
theorem lM:bA ["self","other"] ["self"] (aN jr):=⟨rfl,rfl,rfl,by decide +kernel,rfl,by decide +kernel,by decide +kernel⟩
theorem lK:bA ["self","row"] ["self"] (aN jo):=⟨rfl,rfl,rfl,by decide +kernel,rfl,by decide +kernel,by decide +kernel⟩
theorem iG:bA ["self","done"] ["self"] (aN jq):=⟨rfl,rfl,rfl,by decide +kernel,rfl,by decide +kernel,by decide +kernel⟩
theorem Bw:bA ["self","row"] ["self","row"] (aN qM):=⟨rfl,rfl,rfl,by decide +kernel,rfl,by decide +kernel,by decide +kernel⟩
theorem jK:bA ["self","row","left","right"] ["self","row"] (aN kW):=⟨rfl,rfl,rfl,by decide +kernel,rfl,by decide +kernel,by decide +kernel⟩
theorem xq:bA ["self","box","number"] ["self","box","number"] (aN mR):=⟨rfl,rfl,rfl,by decide +kernel,rfl,by decide +kernel,by decide +kernel⟩
theorem fK:bA ["self","part","left","right"] ["self","part"] (aN gq):=⟨rfl,rfl,rfl,by decide +kernel,rfl,by decide +kernel,by decide +kernel⟩
theorem jJ:bA ["self","program","cells","one"] ["self","program","cells"] (aN bY):=⟨rfl,rfl,rfl,by decide +kernel,rfl,by decide +kernel,by decide +kernel⟩
theorem jH:bA ["self","hand","one","touch"] ["self","hand"] (aN kJ):=⟨rfl,rfl,rfl,by decide +kernel,rfl,by decide +kernel,by decide +kernel⟩
theorem dI:bA ["self","one","row","cell","read","written"] ["self","one"] (aN gR):=⟨rfl,rfl,rfl,by decide +kernel,rfl,by decide +kernel,by decide +kernel⟩
theorem tX:bA ["self"] ["self"] (aN jL):=⟨rfl,rfl,rfl,by decide +kernel,rfl,by decide +kernel,by decide +kernel⟩
theorem tY:bA ["self","hand"] ["self","hand"] (aN jM):=⟨rfl,rfl,rfl,by decide +kernel,rfl,by decide +kernel,by decide +kernel⟩
theorem vp:bA ["self","hand"] ["self","hand"] (aN kO):=⟨rfl,rfl,rfl,by decide +kernel,rfl,by decide +kernel,by decide +kernel⟩
theorem wY:bA ["self","hand"] ["self","hand"] (aN mQ):=⟨rfl,rfl,rfl,by decide +kernel,rfl,by decide +kernel,by decide +kernel⟩
theorem rM:bA ["self"] ["self"] (aN jk):=⟨rfl,rfl,rfl,by decide +kernel,rfl,by decide +kernel,by decide +kernel⟩
theorem ou:bA ["self","other"] ["self"] (aN kI):=⟨rfl,rfl,rfl,by decide +kernel,rfl,by decide +kernel,by decide +kernel⟩
theorem qF:bA ["self","hand"] ["self","hand"] (aN iJ):=⟨rfl,rfl,rfl,by decide +kernel,rfl,by decide +kernel,by decide +kernel⟩
theorem jU:bA ["self","hands"] ["self"] (aN iI):=⟨rfl,rfl,rfl,by decide +kernel,rfl,by decide +kernel,by decide +kernel⟩
theorem rN:bA ["self","other"] ["self","other"] (aN jm):=⟨rfl,rfl,rfl,by decide +kernel,rfl,by decide +kernel,by decide +kernel⟩
theorem qG:bA ["self"] ["self"] (aN iK):=⟨rfl,rfl,rfl,by decide +kernel,rfl,by decide +kernel,by decide +kernel⟩
theorem qD:bA ["cells","count"] ["cells","count"] (aN iH):=⟨rfl,rfl,rfl,by decide +kernel,rfl,by decide +kernel,by decide +kernel⟩
theorem mO:bA ["script","stir","cell","great"] ["script"] (aN xH):=⟨rfl,rfl,rfl,by decide +kernel,rfl,by decide +kernel,by decide +kernel⟩
theorem pR:bA ["reel","many","rest","told","stir"] ["reel","many"] (aN xO):=⟨rfl,rfl,rfl,by decide +kernel,rfl,by decide +kernel,by decide +kernel⟩
theorem vQ:bA ["found","due"] ["found","due"] (aN pU):=⟨rfl,rfl,rfl,by decide +kernel,rfl,by decide +kernel,by decide +kernel⟩
theorem vP:bA ["reel","boxes","kind"] ["reel","boxes"] (aN uf):=⟨rfl,rfl,rfl,by decide +kernel,rfl,by decide +kernel,by decide +kernel⟩
theorem qH:bA ["reel","boxes","kind","one"] ["reel","boxes"] (aN uc):=⟨rfl,rfl,rfl,by decide +kernel,rfl,by decide +kernel,by decide +kernel⟩
theorem kE:bA ["reel","sizes","at","kind","ahead","box","cell","to"] ["reel","sizes","at"] (aN Bx):=⟨rfl,rfl,rfl,by decide +kernel,rfl,by decide +kernel,by decide +kernel⟩
theorem fB:bA ["reel","great","many","boxes","hands","k","size"] ["reel"] (aN oY):=⟨rfl,rfl,rfl,by decide +kernel,rfl,by decide +kernel,by decide +kernel⟩
theorem Dv:bA ["boxes","told"] ["boxes","told"] (aN xJ):=⟨rfl,rfl,rfl,by decide +kernel,rfl,by decide +kernel,by decide +kernel⟩
theorem wZ:bA ["hand","row","one","other"] ["hand","row"] (aN BJ):=⟨rfl,rfl,rfl,by decide +kernel,rfl,by decide +kernel,by decide +kernel⟩
theorem xg:bA ["hand","rows","gone"] ["hand","rows"] (aN BK):=⟨rfl,rfl,rfl,by decide +kernel,rfl,by decide +kernel,by decide +kernel⟩
theorem nF:bA ["program","numbers","hands","rows","hand"] ["program","numbers"] (aN uh):=⟨rfl,rfl,rfl,by decide +kernel,rfl,by decide +kernel,by decide +kernel⟩
theorem iw:bA ["state","program","k","hand","row","had","put","cell"] ["state","program","k"] (aN xM):=⟨rfl,rfl,rfl,by decide +kernel,rfl,by decide +kernel,by decide +kernel⟩
theorem zL:bA ["state"] ["state"] (aN oU):=⟨rfl,rfl,rfl,by decide +kernel,rfl,by decide +kernel,by decide +kernel⟩
theorem zM:bA ["reel","many"] ["reel","many"] (aN oZ):=⟨rfl,rfl,rfl,by decide +kernel,rfl,by decide +kernel,by decide +kernel⟩
theorem FJ:bA ["program","numbers"] ["program","numbers"] (aN ud):=⟨rfl,rfl,rfl,by decide +kernel,rfl,by decide +kernel,by decide +kernel⟩
theorem FN:bA ["program","numbers"] ["program","numbers"] (aN ug):=⟨rfl,rfl,rfl,by decide +kernel,rfl,by decide +kernel,by decide +kernel⟩
theorem sE:bA ["works","state","numbers","hands","k"] ["works","state"] (aN BL):=⟨rfl,rfl,rfl,by decide +kernel,rfl,by decide +kernel,by decide +kernel⟩
theorem Bv:bA ["state"] ["state"] (aN qL):=⟨rfl,rfl,rfl,by decide +kernel,rfl,by decide +kernel,by decide +kernel⟩
theorem tZ:bA ["one","other","mine","theirs"] ["one","other"] (aN xG):=⟨rfl,rfl,rfl,by decide +kernel,rfl,by decide +kernel,by decide +kernel⟩
theorem oN:bA ["program","numbers","handed","works"] ["program","numbers"] (aN qK):=⟨rfl,rfl,rfl,by decide +kernel,rfl,by decide +kernel,by decide +kernel⟩
theorem oM:bA ["reel","hands","kind","k"] ["reel","hands"] (aN qJ):=⟨rfl,rfl,rfl,by decide +kernel,rfl,by decide +kernel,by decide +kernel⟩
theorem jj:bA ["one","state","held","spoils","hands","told","due","some"] ["one","state","held","spoils"] (aN xK):=⟨rfl,rfl,rfl,by decide +kernel,rfl,by decide +kernel,by decide +kernel⟩
theorem Ii:bA ["one","number","door"] ["one","number","door"] (aN xP):=⟨rfl,rfl,rfl,by decide +kernel,rfl,by decide +kernel,by decide +kernel⟩
theorem cQ:bA ["reel","one","state","kind","door","many","number","over","before","caught","e"] ["reel","one","state"] (aN oX):=⟨rfl,rfl,rfl,by decide +kernel,rfl,by decide +kernel,by decide +kernel⟩
theorem mL:bA ["reel","one","state","program","order","pick","waiting","k","due"] ["reel","one","state","program","order"] (aN xu):=⟨rfl,rfl,rfl,by decide +kernel,rfl,by decide +kernel,by decide +kernel⟩
theorem t_:bA ["program","numbers","order","works","k"] ["program","numbers","order"] (aN xQ):=⟨rfl,rfl,rfl,by decide +kernel,rfl,by decide +kernel,by decide +kernel⟩
theorem rB:bA ["twins","states","at","to","alike"] ["twins","states","at","to"] (aN oW):=⟨rfl,rfl,rfl,by decide +kernel,rfl,by decide +kernel,by decide +kernel⟩
theorem fu:bA ["script","reel","program","numbers","hands","twins","states","orders","held","step","deed","at","to","one","state","anew"] ["script"] (aN Ij):=⟨rfl,rfl,rfl,by decide +kernel,rfl,by decide +kernel,by decide +kernel⟩
structure dO (K:PySem.W.Frag) (C:Addr):Prop where
 cls:Cls K C
 mY:fU K C "rows"
 pZ:fU K C "at"
 gD:fU K C "in_boxes"
 jh:fU K C "sayings"
 ig:fU K C "state"
structure cM (K:PySem.W.Frag) (C:Addr):Prop where
 cls:Cls K C
 nP:fU K C "program"
 gU:fU K C "numbers"
 jC:fU K C "hands"
 nO:fU K C "turns"
section
variable {P:Program} {w:World} {K:PySem.W.Frag} {mg:Str->Option Value} {base:Heap}
theorem El {α β:Type} (p:α->Bool) (g:α->β):∀l:List α,(List.range l.length).filterMap (fun i=>(l[i]?).bind fun x=>if p x then some (g x) else none)=(l.filter p).map g
 | []=>rfl
 | x::l=>by
   have ih:=El p g l;rw [List.length_cons,List.range_succ_eq_map,List.filterMap_cons,List.filterMap_map,List.filter_cons];cases q:p x
   ·simp [q];exact ih
   ·simp [q];exact ih
theorem lC (x y:Int):PyData.eqv (.int x) (.int y)=decide (x=y):=by
 simp only [PyData.eqv];rw [Bool.eq_iff_iff];simp
theorem cL {H:Hp} {a:Addr} {ns:List Int} (h:H a=some (.lst (ns.map V.int))):Dat H (.ref a) (.list (ns.map PyData.int)):=jy h (bH.ints ns)
theorem shaped_ints (ns:List Int):SeqAt.shaped (.list (ns.map PyData.int))=true:=zH PyData.int 0 (by decide) (fun _ _=>rfl) (fun _ _=>by show 0<=0;decide)
def gI (cs:List Int) (h:Int):Int:=(cs[h.toNat]?).getD 0
theorem Tv {cs:List Int} {h:Int} (h0:0<=h) (h1:h<cs.length):qm (cs.map V.int) h=some (.int (gI cs h)):=by
 obtain ⟨m,rfl⟩:=Int.eq_ofNat_of_zero_le h0;have:m<cs.length:=by omega
 refine bW ?_;simp [gI,this]
def M127:Int:=170141183460469231731687303715884105727
theorem Oq:Builtin.Int.intBits M127<=127:=PySem.intBits_le_iff.mpr (by decide)
theorem Ew {t:Int} (h0:0<=t) (h1:t<M127):Builtin.Int.intBits t<=127:=PySem.intBits_le_of_natAbs (y:=M127) (by unfold M127 at h1 ⊢;omega) Oq
theorem Ju {t:Int} (h0:0<=t) (h1:t<M127):IntMulOk t t:=IntMulOk.of_le (Ew h0 h1) (Ew h0 h1) (by omega)
def dG (H:Hp) (r:Addr):Prop:=∃(g c:Addr) (gs cs:List Int) (p t:Int),H r=some (.lst [.ref g,.ref c,.int p,.int t])/\H g=some (.lst (gs.map V.int))/\H c=some (.lst (cs.map V.int))/\0<cs.length/\cs.length<=100/\gs.length<=100/\(∀x∈gs,0<=x)/\0<=p/\0<=t/\t<M127/\g≠r/\c≠r
theorem dG.keep {H H':Hp} {r:Addr} (h:dG H r) (k:Same H H'):dG H' r:=by
 obtain ⟨g,c,gs,cs,p,t,e1,e2,e3,q⟩:=h;exact ⟨g,c,gs,cs,p,t,k _ _ e1,k _ _ e2,k _ _ e3,q⟩
theorem dG.ne {H:Hp} {r p:Addr} (h:dG H r) (hp:H p=none):p≠r:=by
 obtain ⟨g,c,gs,cs,_,t,e1,_⟩:=h;exact (aC e1 hp).symm
theorem dG.at {H:Hp} {r:Addr} (h:dG H r):∃o,H r=some o:=by
 obtain ⟨g,c,gs,cs,p,t,e1,_⟩:=h;exact ⟨_,e1⟩
theorem dG.tups {H H':Hp} {r:Addr} (h:dG H r) (k:Kp r H H'):∀a xs,H a=some (HO.tup xs)->H' a=some (HO.tup xs):=by
 obtain ⟨g,c,gs,cs,p,t,e1,_⟩:=h;exact k.tups e1
def Off (H:Hp) (r x:Addr):Prop:=∀(g c:Addr) (u v:V),H r=some (.lst [.ref g,.ref c,u,v])->x≠g/\x≠c
def KR (r:Addr) (H H':Hp):Prop:=Kp r H H' /\ ∀x o,H x=some o->x≠r->Off H r x->Off H' r x
theorem KR.trans {r:Addr} {H H1 H2:Hp} (a:KR r H H1) (b:KR r H1 H2):KR r H H2:=⟨a.1.trans b.1,fun x o e n f=>b.2 x o (a.1 _ _ e n) n (a.2 x o e n f)⟩
theorem KR.tups {r:Addr} {H H':Hp} (k:KR r H H') (R:dG H r):∀a xs,H a=some (HO.tup xs)->H' a=some (HO.tup xs):=R.tups k.1
theorem KR.same {r:Addr} {H H':Hp} (R:dG H r) (k:Same H H'):KR r H H':=⟨.of_same k,fun x o e n f g c u v e2=>by
 obtain ⟨g',c',gs,cs,p,t,e1,_⟩:=R;rw [k _ _ e1] at e2;cases e2;exact f _ _ _ _ e1⟩
theorem dG.off {H:Hp} {r x:Addr} (R:dG H r) (hx:H x=none):Off H r x:=fun g c u v e=>by
 obtain ⟨g',c',gs,cs,p,t,e1,e2,e3,_⟩:=R;rw [e1] at e;cases e;exact ⟨fun z=>(by rw [z,e2] at hx;cases hx),fun z=>(by rw [z,e3] at hx;cases hx)⟩
theorem Off.same {H H':Hp} {r x:Addr} (R:dG H r) (k:Same H H') (f:Off H r x):Off H' r x:=fun g c u v e2=>by
 obtain ⟨g',c',gs,cs,p,t,e1,_⟩:=R;rw [k _ _ e1] at e2;cases e2;exact f _ _ _ _ e1
theorem dG.set {H:Hp} {r x:Addr} {o:HO} (R:dG H r) (n:x≠r) (f:Off H r x):dG (upd H x o) r:=by
 obtain ⟨g,c,gs,cs,p,t,e1,e2,e3,q⟩:=R;obtain ⟨n1,n2⟩:=f _ _ _ _ e1;exact ⟨g,c,gs,cs,p,t,by rw [aD n.symm];exact e1,by rw [aD n1.symm];exact e2,by rw [aD n2.symm];exact e3,q⟩
theorem Off.set {H:Hp} {r x y:Addr} {o:HO} (n:x≠r) (f:Off H r y):Off (upd H x o) r y:=fun g c u v e=>f g c u v (by rw [aD n.symm] at e;exact e)
theorem Kp.new {H H':Hp} {r p:Addr} (k:Kp r H H') (hp:H' p=none) (hr:∃o,H' r=some o):H p=none:=by
 cases e:H p with
 | none=>rfl
 | some o=>
   by_cases n:p=r
   ·subst n
    obtain ⟨o',ho⟩:=hr;rw [hp] at ho;cases ho
   ·rw [k _ _ e n] at hp
    cases hp
theorem yI {ns:List Int} (h:ns.length<=63):uP (ns.map V.int) none (some 63)=ns.map V.int:=by
 unfold uP;rw [HT.zN,show (some (63:Int))=some ((63:Nat):Int) from rfl,HT.Dw,List.length_map,List.drop_zero,Nat.min_eq_right h,Nat.sub_zero,List.take_of_length_le (by simp)]
def Dp (K:PySem.W.Frag):Sp:=fun vs H Q _=>∃(a:Addr) (ns:List Int),vs=[.ref a]/\aY K H a (ns.map V.int)/\ns.length<=63 /\ ∀(r:Addr) (H':Hp),H r=none->dG H' r->Same H H'->Q (.ref r) H'
theorem Jd {f:Addr} {fd:FuncData} (F:fj K "_law_reel" "_law_reel" xH f fd) (Bt:mC mg):bU P w K mg base gF 1 f fd ["script"] (Dp K):=by
 refine F.ok mO (fun vs H Q E h=> ?_) (fun cdv A outer s H vs Q E hr h=> ?_)
 ·obtain ⟨a,ns,rfl,_⟩:=h
  rfl
 ·obtain ⟨a,ns,rfl,hs,hlen,k⟩:=h
  refine ⟨_,(aB (aW (i:=1) mO.nd rfl (Or.inl rfl) (bQ mX aA aA))
   (aB (jO PassesOwn.never rfl (cj (K:=K) rfl (jX (jT (K:=K) rfl) (pv 0) nH (nG aA))) (bI (i:=2) mO.nd rfl (Or.inl rfl))
   (aG (aW (i:=1) mO.nd rfl (Or.inl rfl) (bQ iQ (bQ eG (bQ eG (bQ DW (pv 1) (pv 1)) (bQ iQ (pv 2) aA)) aA) (bQ mW (bQ yc (bQ mX aA aA) (bQ mX aA aA)) aA)))))
   (aB (pX (i:=3) rfl mO.nd rfl (Or.inl rfl) (N:=["cell"]) (own:=["cell"]) (caps:=[]) (bh.of (by kernel_rfl)) (cj (K:=K) rfl (jX (jT (K:=K) rfl) (pv 0) nH (nG aA))) (fun _ _ _ _=>(bI (i:=0) (show List.Nodup (["cell"]:List Str) by decide +kernel) rfl (Or.inl rfl))) (fun _ _ _ _=>(xU (aQ PX (pv 0) (bQ mX aA aA) (aR _)))) (fun _ _ _ _=>(bQ mW (pv 0) (bQ mX aA aA))))
   (aG (aV (cC (aj (pv 3) (aj (bQ qN (cI rfl (N:=["cell"]) (own:=["cell"]) (caps:=[]) (bh.of (by kernel_rfl)) (cj (K:=K) rfl (jX (jT (K:=K) rfl) (pv 0) nH (nG aA))) (fun _ _ _ _=>(bI (i:=0) (show List.Nodup (["cell"]:List Str) by decide +kernel) rfl (Or.inl rfl))) (fun _ _ _ _=>cB) (fun _ _ _ _=>(bQ iQ (pv 0) aA))) (cC (aj aA aq))) (aj aA (aj (pv 1) aq)))))))))), ?_⟩
  refine ⟨_,_,rfl,rfl,(by show Ba 3 60;exact ⟨by decide,by decide,by decide⟩), ?_⟩;refine ⟨_,rfl,_,rfl,_,_,rfl,hs,fun p hp=> ?_⟩;rw [yI hlen];have s1:=aF (o:=HO.lst (ns.map V.int)) hp;have cp1:Ba 2 64:=⟨by decide,by decide,by decide⟩;have cp2:Ba 2 63:=⟨by decide,by decide,by decide⟩;have cp3:Ba 10 18:=⟨by decide,by decide,by decide⟩
  refine ⟨p,rfl,⟨_,aY.of ao⟩,m7 (K:=K) (a:=p) (xs:=ns.map V.int) (fun i σ H2=>∃(t:Int) (v:Option V),σ=[some (.ref a),some (.int t),v,none]/\H2=upd H p (.lst (ns.map V.int))/\0<=t/\t<M127)
   ⟨_,none,rfl,rfl,by decide,by decide⟩ (fun i σ H2 _ ⟨_,_,_,e,_⟩=>by rw [e];exact aY.of ao) ?_ ?_⟩
  ·rintro i y σ H2 hi ⟨t,v,rfl,rfl,t0,t1⟩
   obtain ⟨z,rfl⟩:∃z,y=V.int z:=by
    rw [List.getElem?_map] at hi;cases e:ns[i]? with
    | none=>rw [e] at hi;cases hi
    | some z=>rw [e] at hi;exact ⟨z,(Option.some.inj hi).symm⟩
   refine ⟨_,rfl,_,rfl,_,_,rfl,rfl,Ju t0 t1,_,rfl,_,_,rfl,rfl,(by show (0:Int)<1000000000000000003;decide),_,_,rfl,rfl,_,_,rfl,rfl, ?_⟩;refine ⟨_,_,rfl,rfl,cp1,_,_,rfl,rfl,cp2,_,_,rfl,rfl,.inr ⟨by decide,by decide⟩,_,_,rfl,rfl,_,_,rfl,rfl,(by show (0:Int)<2 ^ Int.toNat 64*2 ^ Int.toNat 63 - 1;decide), ?_⟩;refine ⟨_,_,rfl,rfl, ?_, ?_⟩
   ·exact Int.emod_nonneg _ (by decide)
   ·exact Int.emod_lt_of_pos _ (by decide)
  ·rintro σ H2 ⟨t,v,rfl,rfl,t0,t1⟩
   have hs1:=s1.seq hs;refine ⟨_,rfl,_,rfl,_,_,rfl,hs1,fun p2 hp2=> ?_⟩;rw [yI hlen];have s2:=aF (o:=HO.lst (ns.map V.int)) hp2;refine ⟨p2,rfl,⟨_,aY.of ao⟩,fun D hD=> ?_⟩;refine fX (K:=K) (fun i=>(ns[i]?).bind fun z=>if decide (z≥10 ^ (18:Int).toNat) then some (V.int (z - 10 ^ (18:Int).toNat)) else none) hD (aY.of ao) (by rw [List.length_map];omega) (fun i v H3 G F hi s3 kG kF=> ?_) (fun H3 s3 e3=> ?_)
   ·rw [List.getElem?_map] at hi
    cases e:ns[i]? with
    | none=>rw [e] at hi;cases hi
    | some z=>
      rw [e] at hi;cases hi;simp only [e,Option.bind_some] at kG kF;refine ⟨_,rfl,_,_,rfl,rfl,cp3,_,_,rfl,rfl,_,rfl, ?_⟩;refine bK (fun w=> ?_) (fun w=> ?_)
      ·exact ⟨_,rfl,_,_,rfl,rfl,cp3,_,_,rfl,rfl,kF _ H3 (Same.refl _) (by rw [if_pos w])⟩
      ·exact kG H3 (Same.refl _) (by rw [if_neg w])
   rw [List.length_map,El (fun z:Int=>decide (z≥10 ^ (18:Int).toNat)) (fun z=>V.int (z - 10 ^ (18:Int).toNat))] at e3;have e3':H3 D=some (.lst (((ns.filter fun z=>decide (z≥10 ^ (18:Int).toNat)).map fun z=>z - 10 ^ (18:Int).toNat).map V.int)):=by rw [e3,List.map_map];rfl
   have QS:=(s1.trans s2).trans s3;refine ⟨_,rfl,_,rfl,_,rfl,_,_,rfl,QS.seq hs,fun p3 hp3=> ?_⟩;rw [yI hlen];have s4:=aF (o:=HO.lst (ns.map V.int)) hp3;refine ⟨p3,rfl,⟨_,aY.of ao⟩,fun D2 hD2=> ?_⟩;refine fX (K:=K) (fun i=>(ns[i]?).map fun z=>V.int (z % 1000003)) hD2 (aY.of ao) (by rw [List.length_map];omega) (fun i v H5 G F hi s5 kG kF=> ?_) (fun H5 s5 e5=> ?_)
   ·rw [List.getElem?_map] at hi
    cases e:ns[i]? with
    | none=>rw [e] at hi;cases hi
    | some z=>
      rw [e] at hi;cases hi;exact ⟨_,rfl,_,_,rfl,rfl,(by show (0:Int)<1000003;decide),kF _ H5 (Same.refl _) (by rw [e];rfl)⟩
   rw [List.length_map,jd] at e5;refine ⟨(by show 1<=sizeLine;decide),fun p4 hp4=> ?_⟩;have s6:=aF (o:=HO.lst [V.int 41]) hp4;refine ⟨D2,p4,_,_,rfl,rfl,s6 _ _ e5,ao,by rw [sizeLine_eq,List.length_map];simp only [List.length_singleton];omega,fun c hc=> ?_⟩;have s7:=aF (o:=HO.lst (ns.map (fun z=>V.int (z % 1000003))++[V.int 41])) hc;have Zr:=(s4.trans s5).trans (s6.trans s7);refine ⟨_,rfl,(by show 4<=sizeLine;decide),fun r hr'=> ?_⟩;have s8:=aF (o:=HO.lst [V.ref D,V.ref c,V.int 0,V.int t]) hr';have eD:=Zr _ _ e3';have Qc:D≠r:=aC eD hr';have RJ:c≠r:=aC ao hr';have fl:(ns.filter fun z=>decide (z≥10 ^ (18:Int).toNat)).length<=ns.length:=List.length_filter_le _ _;refine k r _ ((QS.trans Zr).free hr') ⟨D,c,_,ns.map (· % 1000003)++[41],0,t,ao,s8 _ _ eD, ?_,by simp,by simp;omega,by rw [List.length_map];omega,fun x hx=> ?_,by decide,t0,t1,Qc,RJ⟩ ((QS.trans Zr).trans s8)
   ·refine s8 _ _ ?_
    rw [ao,List.map_append,List.map_map];rfl
   ·obtain ⟨z,hz,rfl⟩:=List.mem_map.mp hx
    have:=of_decide_eq_true (List.mem_filter.mp hz).2;omega
def gZ (K:PySem.W.Frag):Sp:=fun vs H Q _=>∃(r:Addr) (m:Int),vs=[.ref r,.int m]/\dG H r/\0<m/\m<1329227995784915872903807060280344576 /\ ∀(z:Int) (H':Hp),0<=z->z<m->dG H' r->KR r H H'->Q (.int z) H'
theorem Ji {f:Addr} {fd:FuncData} (F:fj K "_law_draw" "_law_draw" xO f fd) (Bt:mC mg):bU P w K mg base gF 1 f fd ["reel","many"] (gZ K):=by
 refine F.ok pR (fun vs H Q E h=> ?_) (fun cdv A outer s H vs Q E hr h=> ?_)
 ·obtain ⟨r,m,rfl,_⟩:=h
  rfl
 ·obtain ⟨r,m,rfl,⟨g,c,gs,cs,p,t,hR,hG,hC,c0,c1,g1,SQ,p0,t0,t1,ngr,RJ⟩,m0,m1,k⟩:=h
  have qb:=hr.units
  refine ⟨_,(aB (bL (aQ (xZ (K:=K) rfl qb) (aJ (aH (K:=K) rfl) (pv 0) aA (fun _ _=>rfl)) (cC aq) (aR _)) (aB (aW (i:=2) pR.nd rfl (Or.inl rfl) (aJ (aH (K:=K) rfl) (aJ (aH (K:=K) rfl) (pv 0) aA (fun _ _=>rfl)) aA (fun _ _=>rfl)))
   (aB (fQ (bQ qN (bQ BW (cC (aj (bQ zT (pv 2) (pv 1)) aq)) (bT j6 (by rfl) Bt.uZ pI (aj (cT PX (pv 2) (pv 1) (aR _)) aq))) (jX (jT (K:=K) rfl) (aJ (aH (K:=K) rfl) (pv 0) aA (fun _ _=>rfl)) (nG aA) nH)) (gB (pv 0) aA set_list))
   (aG (aV (bQ iQ (pv 2) (pv 1)))))) bw)
   (aB (fQ (bQ eG (aJ (aH (K:=K) rfl) (pv 0) aA (fun _ _=>rfl)) aA) (gB (pv 0) aA set_list))
   (aB (aW (i:=3) pR.nd rfl (Or.inl rfl) (aJ (aH (K:=K) rfl) (aJ (aH (K:=K) rfl) (pv 0) aA (fun _ _=>rfl)) (bQ iQ (aJ (aH (K:=K) rfl) (pv 0) aA (fun _ _=>rfl)) (bf (bC (K:=K) rfl) (by rfl) Bt.dU cU (aj (aJ (aH (K:=K) rfl) (pv 0) aA (fun _ _=>rfl)) aq))) (fun _ _=>rfl)))
   (aB (aW (i:=4) pR.nd rfl (Or.inl rfl) (bQ eG (bQ eG (bQ DW (aJ (aH (K:=K) rfl) (pv 0) aA (fun _ _=>rfl)) (aJ (aH (K:=K) rfl) (pv 0) aA (fun _ _=>rfl))) (bQ yc (bQ eG (pv 3) aA) aA)) (bQ yc (aJ (aH (K:=K) rfl) (pv 0) aA (fun _ _=>rfl)) aA)))
   (aB (fQ (bQ iQ (pv 4) (bQ mW (bQ yc (bQ mX aA aA) (bQ mX aA aA)) aA)) (gB (pv 0) aA set_list))
   (aG (aV (bQ iQ (bQ zT (aJ (aH (K:=K) rfl) (pv 0) aA (fun _ _=>rfl)) (bQ mX aA aA)) (pv 1))))))))), ?_⟩
  refine ⟨_,rfl,_,_,_,_,rfl,rfl,aY.of hR,rfl,(by show 0<=sizeLine;decide),fun q hq=> ?_⟩;have s1:=aF (o:=HO.lst []) hq;have U0:=s1 _ _ hR;have YC:=s1 _ _ hG;have hC1:=s1 _ _ hC;refine ⟨_,_,cL YC,cL (ns:=[]) ao,shaped_ints _,shaped_ints _,_,rfl, ?_⟩;rw [if_pos rfl,m8 PyData.int lC];refine bK (fun w=> ?_) (fun _=> ?_)
  ·have w:gs≠[]:=by simpa using w
   obtain ⟨x,xs,rfl⟩:∃x xs,gs=x::xs:=by
    cases gs with
    | nil=>exact absurd rfl w
    | cons x xs=>exact ⟨x,xs,rfl⟩
   have x0:=SQ x (by simp);refine ⟨_,rfl,_,_,_,_,rfl,rfl,aY.of U0,rfl,_,_,_,_,rfl,rfl,aY.of YC,(by show qm (V.int x::xs.map V.int) 0=some (V.int x);simp [qm,Cr]), ?_⟩;refine ⟨_,rfl,_,rfl,_,_,rfl,rfl,⟨m0,m1⟩,(by show 1<=sizeLine;decide),fun q2 hq2=> ?_⟩;have s2:=aF (o:=HO.lst [V.int (x / m)]) hq2;refine ⟨_,rfl,_,rfl,_,_,rfl,rfl,Or.inr ⟨_,rfl,q2,_,_,rfl,rfl,ao, ?_, ?_, ?_,fun q3 UJ=> ?_⟩⟩
   ·split<;>decide
   ·split<;>decide
   ·rw [sizeLine_eq];split<;>simp
   have s3:=aF (o:=HO.lst (List.replicate (if decide (x≥m)=true then (1:Int) else 0).toNat [V.int (x / m)]).flatten) UJ;have PB:=s2.trans s3;refine ⟨_,rfl,_,_,_,_,rfl,rfl,aY.of (PB _ _ U0),rfl,_,rfl,g,_,rfl,aY.of (PB _ _ YC),fun q4 hq4=> ?_⟩;rw [show uP ((x::xs).map V.int) (some 1) none=xs.map V.int from uO _ 1];have s4:=aF (o:=HO.lst (xs.map V.int)) hq4;have fl:(List.replicate (if decide (x≥m)=true then (1:Int) else 0).toNat [V.int (x / m)]).flatten.length<=1:=by split<;>simp
   have xl:xs.length<=100:=by have:(x::xs).length<=100:=g1;simp at this;omega
   refine ⟨q3,q4,_,_,rfl,rfl,s4 _ _ ao,ao,by rw [sizeLine_eq,List.length_map];exact Nat.le_trans (Nat.add_le_add fl xl) (by decide),fun q5 hq5=> ?_⟩;have s5:=aF (o:=HO.lst ((List.replicate (if decide (x≥m)=true then (1:Int) else 0).toNat [V.int (x / m)]).flatten++xs.map V.int)) hq5;have Zt:=(PB.trans s4).trans s5;have hR5:=Zt _ _ U0;refine ⟨_,rfl,_,_,_,_,rfl,rfl,hR5,rfl, ?_⟩;have kr:Kp r (upd (upd (upd (upd (upd H q (HO.lst [])) q2 (HO.lst [V.int (x / m)])) q3 (HO.lst (List.replicate (if decide (x≥m)=true then (1:Int) else 0).toNat [V.int (x / m)]).flatten)) q4 (HO.lst (xs.map V.int))) q5 (HO.lst ((List.replicate (if decide (x≥m)=true then (1:Int) else 0).toNat [V.int (x / m)]).flatten++xs.map V.int))) _:=Kp.set (o:= .lst [.ref q5,.ref c,.int p,.int t]);have nq5:q5≠r:=(aC ((PB.trans s4) _ _ U0) hq5).symm
   have eq5:(List.replicate (if decide (x≥m)=true then (1:Int) else 0).toNat [V.int (x / m)]).flatten++xs.map V.int=((if decide (x≥m)=true then [x / m] else [])++xs).map V.int:=by
    split<;>simp
   refine ⟨_,rfl,_,rfl,_,_,rfl,rfl,m0, ?_⟩
   refine k _ _ (Int.emod_nonneg _ (by omega)) (Int.emod_lt_of_pos _ m0) ⟨q5,c,(if decide (x≥m)=true then [x / m] else [])++xs,cs,p,t,ao, ?_,kr _ _ (Zt _ _ hC1) RJ,c0,c1, ?_,fun y hy=> ?_,p0,t0,t1,nq5,RJ⟩ ⟨(Kp.of_same (s1.trans Zt)).trans kr,fun y o ey ny f g' c' u v e=>by
    rw [ao] at e;cases e;exact ⟨aC ((s1.trans (PB.trans s4)) _ _ ey) hq5,(f _ _ _ _ hR).2⟩⟩
   ·refine kr _ _ ?_ nq5
    rw [ao,eq5]
   ·rw [List.length_append]
    have:(if decide (x≥m)=true then [x / m] else []).length<=1:=by split<;>simp
    have:(x::xs).length<=100:=g1;simp only [List.length_cons] at this;omega
   ·rcases List.mem_append.mp hy with hy|hy
    ·split at hy
     ·have:y=x / m:=by simpa using hy
      rw [this];exact Int.ediv_nonneg x0 (by omega)
     ·cases hy
    ·exact SQ y (by simp [hy])
  ·have cp1:Ba 2 64:=⟨by decide,by decide,by decide⟩
   have cp2:Ba 2 63:=⟨by decide,by decide,by decide⟩;have cp4:Ba 2 40:=⟨by decide,by decide,by decide⟩;refine ⟨_,rfl,_,_,_,_,rfl,rfl,aY.of U0,rfl,_,_,rfl,rfl,_,rfl,_,_,_,_,rfl,rfl,U0,rfl, ?_⟩;have kr:Kp r (upd H q (HO.lst [])) (upd (upd H q (HO.lst [])) r (.lst [.ref g,.ref c,.int (p+1),.int t])):=Kp.set;have SM:(upd (upd H q (HO.lst [])) r (.lst [.ref g,.ref c,.int (p+1),.int t])) r=some (.lst [.ref g,.ref c,.int (p+1),.int t]):=ao;have hC2:=kr _ _ hC1 RJ;have i0:0<=(p+1) % (cs.length:Int):=Int.emod_nonneg _ (by omega);have i1:(p+1) % (cs.length:Int)<cs.length:=Int.emod_lt_of_pos _ (by omega);refine ⟨_,rfl,_,_,_,_,rfl,rfl,aY.of SM,rfl,_,rfl,_,_,_,_,rfl,rfl,aY.of SM,rfl,_,rfl,_,_,_,_,rfl,rfl,aY.of SM,rfl,c,_,rfl,.inl (aY.of hC2),_,_,rfl,rfl,by rw [List.length_map];omega,_,_,_,_,rfl,rfl,aY.of hC2,by rw [List.length_map];exact Tv i0 i1, ?_⟩;generalize gI cs ((p+1) % (cs.length:Int))=told;refine ⟨_,rfl,_,_,_,_,rfl,rfl,aY.of SM,rfl,_,rfl,_,_,_,_,rfl,rfl,aY.of SM,rfl,_,_,rfl,rfl,Ju t0 t1,_,rfl,_,_,rfl,rfl,_,_,rfl,rfl,.inr ⟨by decide,by decide⟩,_,_,rfl,rfl,_,rfl,_,_,_,_,rfl,rfl,aY.of SM,rfl,_,_,rfl,rfl,.inr ⟨by decide,by decide⟩,_,_,rfl,rfl, ?_⟩;refine ⟨_,rfl,_,_,rfl,rfl,cp1,_,_,rfl,rfl,cp2,_,_,rfl,rfl,.inr ⟨by decide,by decide⟩,_,_,rfl,rfl,_,_,rfl,rfl,(by show (0:Int)<2 ^ Int.toNat 64*2 ^ Int.toNat 63 - 1;decide),_,rfl,_,_,_,_,rfl,rfl,SM,rfl, ?_⟩;refine ⟨_,rfl,_,_,_,_,rfl,rfl,aY.of ao,rfl,_,_,rfl,rfl,cp4,_,_,rfl,rfl,⟨by decide,by decide⟩,_,rfl,_,_,rfl,rfl,m0, ?_⟩
   refine k _ _ (Int.emod_nonneg _ (by omega)) (Int.emod_lt_of_pos _ m0) ⟨g,c,gs,cs,p+1,_,ao, ?_, ?_,c0,c1,g1,SQ,by omega,Int.emod_nonneg _ (by decide),Int.emod_lt_of_pos _ (by decide),ngr,RJ⟩ ⟨((Kp.of_same s1).trans kr).trans Kp.set,fun y o ey ny f g' c' u v e=>by
    rw [ao] at e;cases e;exact f _ _ _ _ hR⟩
   ·rw [aD ngr];exact kr _ _ YC ngr
   ·rw [aD RJ];exact hC2
def vh (i:Int) (n:Nat):Prop:=0<=i/\i<(n:Int)
instance (i:Int) (n:Nat):Decidable (vh i n):=inferInstanceAs (Decidable (_/\_))
def Vu (K:PySem.W.Frag):Sp:=fun vs H Q _=>∃i:Int,vs=[.int i]/\Q (.bl true) H
theorem zV {f:Addr} {fd:FuncData} (F:fj K "is_whole" "is_whole" oO f fd) (Bt:mC mg):bU P w K mg base gF 1 f fd ["value"] (Vu K):=by
 refine F.ok zJ (fun vs H Q E h=> ?_) (fun cdv A outer s H vs Q E hr h=> ?_)
 ·obtain ⟨i,rfl,_⟩:=h
  rfl
 ·obtain ⟨i,rfl,k⟩:=h
  refine ⟨_,(aG (aV (mV (bf (cP (K:=K) (cv:= .ty "int") (c:= .type "int") rfl rfl) (by rfl) Bt.bR bM (aj (pv 0) (aj (d8 (v:= .ty "int") (by rfl) Bt.uZ pI rfl) aq))) (o7 (Iw (bf (cP (K:=K) (cv:= .ty "bool") (c:= .type "bool") rfl rfl) (by rfl) Bt.bR bM (aj (pv 0) (aj (d8 (v:= .ty "bool") (by rfl) Bt.u0 qj rfl) aq)))))))), ?_⟩;refine ⟨_,rfl,_,_,true,rfl,.int i,rE K,true,rfl, ?_⟩;refine dM ?_;exact ⟨_,rfl,_,_,false,rfl,.int i,lB K,false,rfl,k⟩
def wW (K:PySem.W.Frag):Sp:=fun vs H Q _=>∃(i:Int) (n:Nat),vs=[.int i,.int n]/\Q (.bl (decide (vh i n))) H
theorem zW {f:Addr} {fd:FuncData} (F:fj K "is_below" "is_below" oR f fd) (CZ:FnAt P w K mg base 1 "is_whole" ["value"] (Vu K)):bU P w K mg base gF 2 f fd ["value","count"] (wW K):=by
 refine F.ok zK (fun vs H Q E h=> ?_) (fun cdv A outer s H vs Q E hr h=> ?_)
 ·obtain ⟨i,n,rfl,_⟩:=h
  rfl
 ·obtain ⟨i,n,rfl,k⟩:=h
  refine ⟨_,(aG (aV (mV (bF CZ (hr.mono (by decide)) (by rfl) (aj (pv 0) aq)) (o7 (IW V2 iY aA (pv 0) (pv 1)))))), ?_⟩;refine ⟨_,rfl,i,rfl,true,rfl, ?_⟩;refine dM ?_;refine ⟨_,rfl,_,_,rfl,rfl,_,rfl, ?_⟩;refine bK (fun h0=> ?_) (fun h0=> ?_)
  ·refine ⟨_,rfl,_,_,rfl,rfl, ?_⟩
   have e:decide (vh i n)=decide (i<(n:Int)):=by
    have h0:=of_decide_eq_true h0;rw [Bool.eq_iff_iff,decide_eq_true_iff,decide_eq_true_iff];exact ⟨fun z=>z.2,fun z=>⟨h0,z⟩⟩
   show Q (.bl (decide (i<(n:Int)))) H;rw [←e];exact k
  ·have e:decide (vh i n)=false:=decide_eq_false fun z=>h0 (decide_eq_true z.1)
   rw [←e];exact k
def hF (r:Addr) (n:Int) (b sy:Addr) (st:Str):List (Str×V):=[("rows",.ref r),("at",.int n),("in_boxes",.ref b),("sayings",.ref sy),("state",.str st)]
structure mD where
 (h hx r b sy:Addr)
structure lH (CH:Addr) (H:Hp) (A:mD) (s:aO):Prop where
 h:H A.h=some (.ins CH A.hx (hF A.r s.pos A.b A.sy s.st))
 b:H A.b=some (.lst (s.bs.map V.int))
 y:H A.sy=some (.lst (s.sy.map V.int))
 pL:A.b≠A.sy
 bl:s.bs.length=8
def KH (A:mD) (H H':Hp):Prop:=∀x o,H x=some o->x≠A.h->x≠A.b->x≠A.sy->H' x=some o
theorem KH.of_same {A:mD} {H H':Hp} (k:Same H H'):KH A H H':=fun x o e _ _ _=>k _ _ e
theorem KH.trans {A:mD} {H H1 H2:Hp} (a:KH A H H1) (b:KH A H1 H2):KH A H H2:=fun x o e n1 n2 n3=>b x o (a x o e n1 n2 n3) n1 n2 n3
theorem KH.gA {A:mD} {H:Hp} {o:HO}:KH A H (upd H A.h o):=fun x u e n _ _=>by rw [aD n];exact e
theorem KH.tV {A:mD} {H:Hp} {o:HO}:KH A H (upd H A.b o):=fun x u e _ n _=>by rw [aD n];exact e
theorem KH.Br {A:mD} {H:Hp} {o:HO}:KH A H (upd H A.sy o):=fun x u e _ _ n=>by rw [aD n];exact e
theorem lH.vW {CH:Addr} {H:Hp} {A:mD} {s:aO} (c:lH CH H A s):A.h≠A.b:=cG c.h c.b (by intro z;cases z)
theorem lH.yj {CH:Addr} {H:Hp} {A:mD} {s:aO} (c:lH CH H A s):A.h≠A.sy:=cG c.h c.y (by intro z;cases z)
theorem lH.same {CH:Addr} {H H':Hp} {A:mD} {s:aO} (c:lH CH H A s) (k:Same H H'):lH CH H' A s:=⟨k _ _ c.h,k _ _ c.b,k _ _ c.y,c.pL,c.bl⟩
theorem lH.tup {CH:Addr} {H H':Hp} {A:mD} {s:aO} (c:lH CH H A s) (k:KH A H H'):∀x xs,H x=some (.tup xs)->H' x=some (.tup xs):=fun x xs e=>k _ _ e (cG e c.h (by intro z;cases z)) (cG e c.b (by intro z;cases z)) (cG e c.y (by intro z;cases z))
theorem lH.gA {CH:Addr} {H:Hp} {A:mD} {s:aO} (c:lH CH H A s) (n:Nat) (st:Str):lH CH (upd H A.h (.ins CH A.hx (hF A.r n A.b A.sy st))) A {s with pos:=n,st:=st}:=
 ⟨ao,by rw [aD c.vW.symm];exact c.b,by rw [aD c.yj.symm];exact c.y,c.pL,c.bl⟩
theorem lH.tV {CH:Addr} {H:Hp} {A:mD} {s:aO} (c:lH CH H A s) (bs:List Int) (l:bs.length=8):lH CH (upd H A.b (.lst (bs.map V.int))) A {s with bs:=bs}:=
 ⟨by rw [aD c.vW];exact c.h,ao,by rw [aD c.pL.symm];exact c.y,c.pL,l⟩
theorem lH.Br {CH:Addr} {H:Hp} {A:mD} {s:aO} (c:lH CH H A s) (ys:List Int):lH CH (upd H A.sy (.lst (ys.map V.int))) A {s with sy:=ys}:=
 ⟨by rw [aD c.yj];exact c.h,by rw [aD c.pL];exact c.b,ao,c.pL,c.bl⟩
theorem uo (r b sy:Addr) (n m:Int) (st:Str):cX "at" (.int m) (hF r n b sy st)=hF r m b sy st:=by rfl
theorem xT (r b sy:Addr) (n:Int) (st st':Str):cX "state" (.str st') (hF r n b sy st)=hF r n b sy st':=by rfl
theorem Ek (n:Nat):(List.range n).filterMap (fun _=>some (V.int 0))=(List.replicate n 0).map V.int:=by
 induction n with
 | zero=>rfl
 | succ n ih=>rw [eV,ih,List.replicate_succ',List.map_append];rfl
theorem p7 {H H':Hp} {o p:Addr} (h:Kp o H H') (ne:p≠o) (n:H' p=none):H p=none:=by
 cases e:H p with
 | none=>rfl
 | some u=>rw [h _ _ e ne] at n;cases n
theorem Xd:∀b:Fin 8,Builtin.Str.occurrences (Str.ofString "abcdefgh") (qg b.val) 0 (Str.ofString "abcdefgh").length 1=[b.val]:=by decide +kernel
theorem qZ {b:Nat} (h:b<8):Builtin.Str.occurrences (Str.ofString "abcdefgh") (qg b) 0 (Str.ofString "abcdefgh").length 1=[b]:=Xd ⟨b,h⟩
def rZ (CH:Addr) (K:PySem.W.Frag):Sp:=fun vs H Q _=>∃(a r dx:Addr),vs=[.ref a,.ref r]/\H a=some (.ins CH dx []) /\ ∀(b sy:Addr) (H':Hp),H b=none->H sy=none->b≠sy ->
 H' a=some (.ins CH dx (hF r 0 b sy "waits"))->H' b=some (.lst ((List.replicate 8 0).map V.int))->H' sy=some (.lst [])->Kp a H H'->Q .non H'
theorem Jg {au:Addr} {f:Addr} {fd:FuncData} (F:fj K "__init__" "Hand.__init__" mU f fd) (aL:dO K au) (fO:Gv mg "BOXES" (.str "abcdefgh")):bU P w K mg base gF 1 f fd ["self","rows"] (rZ au K):=by
 refine F.ok xr (fun vs H Q E h=> ?_) (fun cdv A outer s H vs Q E hr h=> ?_)
 ·obtain ⟨a,r,dx,rfl,_⟩:=h
  rfl
 ·obtain ⟨a,r,dx,rfl,ha,k⟩:=h
  refine ⟨_,(aB (dD (K:=K) rfl (pv 0) (pv 1) rfl)
   (aB (dD (K:=K) rfl (pv 0) aA rfl)
   (aB (dD (K:=K) rfl (pv 0) (cI rfl (N:=["box"]) (own:=["box"]) (caps:=[]) (bh.of (by kernel_rfl)) (Rb (h_ (by rfl) fO.choose_spec.1 fO.choose_spec.2)) (fun _ _ _ _=>(bI (i:=0) (show List.Nodup (["box"]:List Str) by decide +kernel) rfl (Or.inl rfl))) (fun _ _ _ _=>cB) (fun _ _ _ _=>aA)) rfl)
   (aB (dD (K:=K) rfl (pv 0) (cC aq) rfl)
   (aG (dD (K:=K) rfl (pv 0) bD rfl)))))), ?_⟩
  refine ⟨_,rfl,_,rfl,a,au,dx,[],rfl,ha,aL.cls,aL.mY,by decide, ?_⟩;refine ⟨_,rfl,a,au,dx,_,rfl,ao,aL.cls,aL.pZ,(by show 1<1000;decide), ?_⟩;refine ⟨_,rfl,fun D hD=> ?_⟩;refine GP (fun _=>some (.int 0)) hD (by decide) (fun i c H1 G F hi s1 kG kF=>kF _ H1 (Same.refl _) rfl) (fun H1 s1 e1=> ?_);rw [Ek] at e1;refine ⟨_,rfl,a,au,dx,_,rfl,s1 _ _ ao,aL.cls,aL.gD,(by show 2<1000;decide), ?_⟩;have Uy:a≠D:=aC ao hD;refine ⟨(by show 0<=sizeLine;decide),fun q hq=> ?_⟩;have Ux:a≠q:=aC ao hq;refine ⟨_,rfl,a,au,dx,_,rfl,(by rw [aD Ux];exact ao),aL.cls,aL.jh,(by show 3<1000;decide), ?_⟩;refine ⟨_,rfl,a,au,dx,_,rfl,ao,aL.cls,aL.ig,(by show 4<1000;decide), ?_⟩;have SN:H D=none:=by rw [aD Uy.symm,aD Uy.symm] at hD;exact hD
  have nDq:D≠q:=by
   intro e;rw [←e,aD Uy.symm,e1] at hq;cases hq
  have hq0:H q=none:=by
   rw [aD Ux.symm] at hq;cases e:H q with
   | none=>rfl
   | some o=>
     have:=s1 q o (by rw [aD Ux.symm,aD Ux.symm];exact e);rw [this] at hq;cases hq
  refine k D q _ SN hq0 nDq ?_ ?_ ?_ ?_
  ·rw [ao];rfl
  ·rw [aD Uy.symm,aD Uy.symm,aD nDq,aD Uy.symm,e1];rfl
  ·rw [aD Ux.symm,aD Ux.symm,ao]
  ·intro x o e n
   have nq:x≠q:=aC e hq0;rw [aD n,aD n,aD nq,aD n];exact s1 x o (by rw [aD n,aD n];exact e)
theorem Aw {x:V} {l:List V}:qm (x::l) 0=some x:=bW (j:=0) rfl
theorem Xj {x y z:V} {l:List V}:qm (x::y::z::l) 2=some z:=bW (j:=2) rfl
def Ao (r:Rw):V:=if touch r then .int (qd r) else .non
def tR (K:PySem.W.Frag):Sp:=fun vs H Q _=>∃(v:V) (r:Rw),vs=[v]/\Dat H v (jg r) /\ ∀H',Same H H'->Q (Ao r) H'
theorem Gi {f:Addr} {fd:FuncData} (F:fj K "cell_of" "cell_of" qI f fd):bU P w K mg base gF 1 f fd ["row"] (tR K):=by
 refine F.ok Bu (fun vs H Q E h=> ?_) (fun cdv A outer s H vs Q E hr h=> ?_)
 ·obtain ⟨v,r,rfl,_⟩:=h
  rfl
 ·obtain ⟨v,r,rfl,d,k⟩:=h
  obtain ⟨t,ws,rfl,ht,ps⟩:=rH d
  refine ⟨_,(aB (bL (aQ cA (aJ (aU (K:=K) rfl) (pv 0) aA (fun _ _=>rfl)) bD (aR _)) (aG (aV (aJ (aU (K:=K) rfl) (pv 0) aA (fun _ _=>rfl)))) bw)
   (aG (aV (ju (aQ (pA (K:=K) rfl) (aJ (aU (K:=K) rfl) (pv 0) aA (fun _ _=>rfl)) (cZ (aj bD (aj bD aq))) (by with_unfolding_all rfl)) (aJ (aU (K:=K) rfl) (pv 0) aA (fun _ _=>rfl)) eF)))), ?_⟩
  have cs:(∃c e,r = .store c e) \/ ∃(x:Str) (ys:List V),ws = .str x::ys/\x≠Str.ofString "store" /\ (x=Str.ofString "load" \/ x=Str.ofString "swap" -> ∃y z,ys=y :: .int (qd r)::z/\touch r=true)/\(x≠Str.ofString "load" -> x≠Str.ofString "swap" -> touch r=false):=by
   cases r with
   | store c e=>exact .inl ⟨c,e,rfl⟩
   | load b c=>exact .inr ⟨_,_,ps,by decide +kernel,fun _=>⟨_,_,rfl,rfl⟩,fun z=>absurd rfl z⟩
   | swap b c e=>
     obtain ⟨x,e1,_⟩:=ps;exact .inr ⟨_,_,e1,by decide +kernel,fun _=>⟨_,_,rfl,rfl⟩,fun _ z=>absurd rfl z⟩
   | pC b e=>
     obtain ⟨x,e1,_⟩:=ps;exact .inr ⟨_,_,e1,by decide +kernel,fun z=>absurd z (by decide +kernel),fun _ _=>rfl⟩
   | say e=>
     obtain ⟨x,e1,_⟩:=ps;exact .inr ⟨_,_,e1,by decide +kernel,fun z=>absurd z (by decide +kernel),fun _ _=>rfl⟩
   | go n=>exact .inr ⟨_,_,ps,by decide +kernel,fun z=>absurd z (by decide +kernel),fun _ _=>rfl⟩
   | oh q e f n=>
     obtain ⟨x,y,e1,_⟩:=ps;exact .inr ⟨_,_,e1,by decide +kernel,fun z=>absurd z (by decide +kernel),fun _ _=>rfl⟩
  rcases cs with ⟨c,e,rfl⟩|⟨x,ys,rfl,nx,h1,h2⟩
  ·obtain ⟨x,rfl,_⟩:=ps
   refine ⟨_,rfl,_,_,_,_,rfl,rfl,cu.of ht,rfl,rfl,_,rfl, ?_⟩;refine bK (fun _=> ?_) (fun z=>absurd (decide_eq_true rfl) z);exact ⟨_,rfl,_,_,_,_,rfl,rfl,cu.of ht,rfl,k H (Same.refl _)⟩
  refine ⟨_,rfl,_,_,_,_,rfl,rfl,cu.of ht,Aw,rfl,_,rfl, ?_⟩;refine bK (fun z=>absurd (by simpa using of_decide_eq_true z) nx) (fun _=> ?_);refine ⟨_,rfl,_,_,_,_,rfl,rfl,cu.of ht,Aw,(by show 2<=sizeLine;decide),fun p hp=> ?_⟩;have sp:=aF (o:=HO.tup [V.str (Str.ofString "load"),V.str (Str.ofString "swap")]) hp;refine ⟨p,_,rfl,.inr (cu.of ao),rfl,rfl,_,rfl, ?_⟩
  by_cases z:x=Str.ofString "load" \/ x=Str.ofString "swap"
  ·obtain ⟨y,w',rfl,tr⟩:=h1 z
   refine bK (fun _=> ?_) (fun q=>absurd ?_ q)
   ·refine ⟨_,rfl,_,_,_,_,rfl,rfl,cu.of (sp _ _ ht),Xj, ?_⟩
    have:=k _ sp;unfold Ao at this;rw [if_pos tr] at this;exact this
   ·rcases z with rfl|rfl<;>decide +kernel
  ·have n1:x≠Str.ofString "load" :=fun q=>z (.inl q)
   have n2:x≠Str.ofString "swap" :=fun q=>z (.inr q);have tr:=h2 n1 n2;refine bK (fun q=>absurd q ?_) (fun _=> ?_)
   ·simp [inV,N8,n1.symm,n2.symm]
   ·have:=k _ sp
    unfold Ao at this;rw [if_neg (by rw [tr];decide)] at this;exact this
def rG:zj->Nat
 | .one _=>1
 | .two _ _ _=>2
def tE (CH:Addr) (n:Nat) (K:PySem.W.Frag):Sp:=fun vs H Q _=>∃(A:mD) (s:aO) (v:V) (e:zj),vs=[.ref A.h,v]/\lH CH H A s/\Dat H v (j4 e)/\nW e/\rG e<=n/\Q (.int (vx s.bs e)) H
theorem Mp {au:Addr} {f:Addr} {fd:FuncData} (F:fj K "value_of" "Hand.value_of" gq f fd):bU P w K mg base gF 1 f fd ["self","part"] (tE au 0 K):=by
 refine F.ok fK (fun vs H Q E h=> ?_) (fun cdv A outer s H vs Q E hr h=> ?_)
 ·obtain ⟨A,s,v,e,rfl,_,_,_,z,_⟩:=h
  cases e<;>simp [rG] at z
 ·obtain ⟨A,s,v,e,rfl,_,_,_,z,_⟩:=h
  cases e<;>simp [rG] at z
theorem DY {au:Addr} {n:Nat} {f:Addr} {fd:FuncData} (F:fj K "value_of" "Hand.value_of" gq f fd) (cF:MethAt P w K mg base (n+1) au "value_of" ["self","part"] (tE au n K)) (aL:dO K au) (fO:Gv mg "BOXES" (.str "abcdefgh")) (gO:Gv mg "ROUND" (.int 1000)):bU P w K mg base gF (n+1+1) f fd ["self","part"] (tE au (n+1) K):=by
 refine F.ok fK (fun vs H Q E h=> ?_) (fun cdv A outer s H vs Q E hr h=> ?_)
 ·obtain ⟨A,s,v,e,rfl,_⟩:=h
  rfl
 ·obtain ⟨B,z,v,e,rfl,c,d,eo,dp,k⟩:=h
  refine ⟨_,(aB (bL (aQ cA (aJ (aU (K:=K) rfl) (pv 1) aA (fun _ _=>rfl)) bD (aR _)) (aG (aV (bQ iQ (aJ (aU (K:=K) rfl) (pv 1) aA (fun _ _=>rfl)) (h_ (by rfl) gO.choose_spec.1 gO.choose_spec.2)))) bw)
   (aB (bL (aQ cA (aJ (aU (K:=K) rfl) (pv 1) aA (fun _ _=>rfl)) bD (aR _)) (aG (aV (aJ (aH (K:=K) rfl) (bJ (K:=K) rfl (pv 0) rfl) (o8 (K:=K) rfl PySem.F.plainAttrs_str PySem.F.slot_str_index PySem.F.type_str_index jZ (h_ (by rfl) fO.choose_spec.1 fO.choose_spec.2) (aj (aJ (aU (K:=K) rfl) (pv 1) aA (fun _ _=>rfl)) aq)) (fun _ _=>rfl)))) bw)
   (aB (aW (i:=2) fK.nd rfl (Or.inl rfl) (cO cF aL.cls (hr.mono (Nat.le_refl _)) (pv 0) (aj (aJ (aU (K:=K) rfl) (pv 1) aA (fun _ _=>rfl)) aq)))
   (aB (aW (i:=3) fK.nd rfl (Or.inl rfl) (cO cF aL.cls (hr.mono (Nat.le_refl _)) (pv 0) (aj (aJ (aU (K:=K) rfl) (pv 1) aA (fun _ _=>rfl)) aq)))
   (aG (aV (bQ iQ (ju (aQ cA (aJ (aU (K:=K) rfl) (pv 1) aA (fun _ _=>rfl)) bD (aR _)) (bQ eG (pv 2) (pv 3)) (bQ mW (pv 2) (pv 3))) (h_ (by rfl) gO.choose_spec.1 gO.choose_spec.2)))))))), ?_⟩
  match e,d,eo,dp,k with
  | .one (.num m),d,eo,dp,k=>
    obtain ⟨t,rfl,ht⟩:=Ez (x:= .num m) d;refine ⟨_,rfl,_,_,_,_,rfl,rfl,cu.of ht,rfl,rfl,_,rfl, ?_⟩;refine bK (fun _=> ?_) (fun z=>absurd (decide_eq_true rfl) z);exact ⟨_,rfl,_,_,_,_,rfl,rfl,cu.of ht,rfl,_,_,rfl,rfl,(by show (0:Int)<1000;decide),k⟩
  | .one (.box b),d,eo,dp,k=>
    obtain ⟨t,rfl,ht⟩:=Ez (x:= .box b) d;refine ⟨_,rfl,_,_,_,_,rfl,rfl,cu.of ht,rfl,rfl,_,rfl, ?_⟩;refine bK (fun z=>absurd (of_decide_eq_true z) (by decide)) (fun _=> ?_);refine ⟨_,rfl,_,_,_,_,rfl,rfl,cu.of ht,rfl,rfl,_,rfl, ?_⟩;refine bK (fun _=> ?_) (fun z=>absurd (decide_eq_true rfl) z);have hb:b<8:=eo;refine ⟨_,rfl,B.h,au,B.hx,_,_,rfl,c.h,aL.cls,aL.gD,rfl,rfl,_,rfl,_,_,_,_,rfl,rfl,cu.of ht,rfl,_,_,b,[],rfl,rfl,qZ hb,_,_,_,_,rfl,rfl,aY.of c.b,bW (v:= .int ((z.bs[b]?).getD 0)) ?_,k⟩;have hl:b<z.bs.length:=by rw [c.bl];exact hb
    rw [List.getElem?_map,List.getElem?_eq_getElem hl];rfl
  | .two p x y,d,eo,dp,k=>
    obtain ⟨t,u,w',rfl,ht,du,dw⟩:=Ks d;have e1:nW (.one x)/\nW (.one y):=eo
    have dn:1<=n:=by
     have:2<=n+1:=dp;omega
    have np:∀q:Bool,(Str.ofString "number")≠(if q then Str.ofString "plus" else Str.ofString "minus"):=by decide +kernel
    have nb:∀q:Bool,(Str.ofString "box")≠(if q then Str.ofString "plus" else Str.ofString "minus"):=by decide +kernel
    refine ⟨_,rfl,_,_,_,_,rfl,rfl,cu.of ht,rfl,rfl,_,rfl, ?_⟩;refine bK (fun z=>absurd (by simpa using (of_decide_eq_true z).symm) (np p)) (fun _=> ?_);refine ⟨_,rfl,_,_,_,_,rfl,rfl,cu.of ht,rfl,rfl,_,rfl, ?_⟩;refine bK (fun z=>absurd (by simpa using (of_decide_eq_true z).symm) (nb p)) (fun _=> ?_);refine ⟨_,rfl,B.h,B.hx,_,rfl,c.h,rfl,_,rfl,_,_,_,_,rfl,rfl,cu.of ht,rfl,B,z,u,.one x,rfl,c,du,e1.1,dn, ?_⟩;refine ⟨_,rfl,B.h,B.hx,_,rfl,c.h,rfl,_,rfl,_,_,_,_,rfl,rfl,cu.of ht,rfl,B,z,w',.one y,rfl,c,dw,e1.2,dn, ?_⟩;refine ⟨_,rfl,_,_,_,_,rfl,rfl,cu.of ht,rfl,rfl,_,rfl, ?_⟩;cases p with
    | true=>
      refine bK (fun _=> ?_) (fun z=>absurd (decide_eq_true rfl) z);exact ⟨_,rfl,_,rfl,_,_,rfl,rfl,_,_,rfl,rfl,(by show (0:Int)<1000;decide),k⟩
    | false=>
      refine bK (fun z=>absurd (of_decide_eq_true z) (by decide)) (fun _=> ?_);exact ⟨_,rfl,_,rfl,_,_,rfl,rfl,_,_,rfl,rfl,(by show (0:Int)<1000;decide),k⟩
theorem rP (e:zj):rG e<=2:=by cases e<;>simp [rG]
def wV (CH:Addr) (K:PySem.W.Frag):Sp:=fun vs H Q _=>∃(A:mD) (s:aO) (v:V) (q:Bool) (e f:zj) (n:Nat),vs=[.ref A.h,v]/\lH CH H A s/\Dat H v (jg (.oh q e f n))/\nW e/\nW f/\Q (.bl (iT s.bs (.oh q e f n))) H
theorem Jf {au:Addr} {f:Addr} {fd:FuncData} (F:fj K "holds" "Hand.holds" kW f fd) (cF:MethAt P w K mg base 3 au "value_of" ["self","part"] (tE au 2 K)) (aL:dO K au):bU P w K mg base gF 4 f fd ["self","row"] (wV au K):=by
 refine F.ok jK (fun vs H Q E h=> ?_) (fun cdv A outer s H vs Q E hr h=> ?_)
 ·obtain ⟨A,s,v,q,e,f,n,rfl,_⟩:=h
  rfl
 ·obtain ⟨B,z,v,q,e,f,n,rfl,c,d,o1,o2,k⟩:=h
  refine ⟨_,(aB (aW (i:=2) jK.nd rfl (Or.inl rfl) (cO cF aL.cls (hr.mono (by decide)) (pv 0) (aj (aJ (aU (K:=K) rfl) (pv 1) aA (fun _ _=>rfl)) aq)))
   (aB (aW (i:=3) jK.nd rfl (Or.inl rfl) (cO cF aL.cls (hr.mono (by decide)) (pv 0) (aj (aJ (aU (K:=K) rfl) (pv 1) aA (fun _ _=>rfl)) aq)))
   (aG (aV (ju (aQ cA (aJ (aU (K:=K) rfl) (pv 1) aA (fun _ _=>rfl)) bD (aR _)) (cT cA (pv 2) (pv 3) (aR _)) (cT iY (pv 2) (pv 3) (aR _))))))), ?_⟩
  obtain ⟨t,ws,rfl,ht,x,y,rfl,dx,dy⟩:=rH d;refine ⟨_,rfl,B.h,B.hx,_,rfl,c.h,rfl,_,rfl,_,_,_,_,rfl,rfl,cu.of ht,rfl,B,z,x,e,rfl,c,dx,o1,rP e, ?_⟩;refine ⟨_,rfl,B.h,B.hx,_,rfl,c.h,rfl,_,rfl,_,_,_,_,rfl,rfl,cu.of ht,rfl,B,z,y,f,rfl,c,dy,o2,rP f, ?_⟩;refine ⟨_,rfl,_,_,_,_,rfl,rfl,cu.of ht,rfl,rfl,_,rfl, ?_⟩;cases q with
  | true=>
    refine bK (fun _=> ?_) (fun z=>absurd (decide_eq_true rfl) z);refine ⟨_,rfl,_,rfl,rfl, ?_⟩
    have:decide (V.int (vx z.bs e)=V.int (vx z.bs f))=iT z.bs (.oh true e f n):=by
     show _=decide (vx z.bs e=vx z.bs f);rw [Bool.eq_iff_iff,decide_eq_true_iff,decide_eq_true_iff];exact ⟨fun z=>V.int.inj z,fun z=>by rw [z]⟩
    rw [this];exact k
  | false=>
    refine bK (fun z=>absurd (of_decide_eq_true z) (by decide)) (fun _=> ?_);exact ⟨_,rfl,_,rfl,_,_,rfl,rfl,k⟩
def wR (CH:Addr) (K:PySem.W.Frag):Sp:=fun vs H Q _=>∃(A:mD) (s:aO) (b:Nat) (i:Int),vs=[.ref A.h,.str (qg b),.int i]/\lH CH H A s/\b<8/\Q .non (upd H A.b (.lst ((s.bs.set b i).map V.int)))
theorem Ms {au:Addr} {f:Addr} {fd:FuncData} (F:fj K "take" "Hand.take" mR f fd) (aL:dO K au) (fO:Gv mg "BOXES" (.str "abcdefgh")):bU P w K mg base gF 1 f fd ["self","box","number"] (wR au K):=by
 refine F.ok xq (fun vs H Q E h=> ?_) (fun cdv A outer s H vs Q E hr h=> ?_)
 ·obtain ⟨A,s,b,i,rfl,_⟩:=h
  rfl
 ·obtain ⟨B,z,b,i,rfl,c,hb,k⟩:=h
  refine ⟨_,(aG (fQ (pv 2) (gB (bJ (K:=K) rfl (pv 0) rfl) (o8 (K:=K) rfl PySem.F.plainAttrs_str PySem.F.slot_str_index PySem.F.type_str_index jZ (h_ (by rfl) fO.choose_spec.1 fO.choose_spec.2) (aj (pv 1) aq)) set_list))), ?_⟩;refine ⟨_,rfl,_,rfl,B.h,au,B.hx,_,_,rfl,c.h,aL.cls,aL.gD,rfl,rfl,_,rfl,_,_,b,[],rfl,rfl,qZ hb, ?_⟩;rw [List.map_set] at k;exact ⟨B.b,_,_,b,rfl,rfl,c.b,(by rw [List.length_map,c.bl];unfold Cr;rw [if_pos (by omega),if_pos (by omega)];simp),k⟩
def QM (CH:Addr) (K:PySem.W.Frag):Sp:=fun vs H Q _=>∃(A:mD) (s:aO) (v:V) (r:Rw) (m:Nat),vs=[.ref A.h,v]/\lH CH H A s/\Dat H v (jg r)/\um m r/\touch r=false/\s.sy.length<1000000 /\ ∀H',lH CH H' A (lR s r)->KH A H H'->Q .non H'
theorem V5 {au:Addr} {f:Addr} {fd:FuncData} (F:fj K "do" "Hand.do" qM f fd) (cF:MethAt P w K mg base 3 au "value_of" ["self","part"] (tE au 2 K)) (nu:MethAt P w K mg base 1 au "take" ["self","box","number"] (wR au K)) (yZ:MethAt P w K mg base 4 au "holds" ["self","row"] (wV au K)) (aL:dO K au):bU P w K mg base gF 5 f fd ["self","row"] (QM au K):=by
 refine F.ok Bw (fun vs H Q E h=> ?_) (fun cdv A outer s H vs Q E hr h=> ?_)
 ·obtain ⟨A,s,v,r,m,rfl,_⟩:=h
  rfl
 ·obtain ⟨B,z,v,r,m,rfl,c,d,ro,tr,sl,k⟩:=h
  refine ⟨_,(aB (uq (K:=K) rfl (pv 0) aA Cu)
   (aG (bL (aQ cA (aJ (aU (K:=K) rfl) (pv 1) aA (fun _ _=>rfl)) bD (aR _)) (aG (cH (cO nu aL.cls (hr.mono (by decide)) (pv 0) (aj (aJ (aU (K:=K) rfl) (pv 1) aA (fun _ _=>rfl)) (aj (cO cF aL.cls (hr.mono (by decide)) (pv 0) (aj (aJ (aU (K:=K) rfl) (pv 1) aA (fun _ _=>rfl)) aq)) aq))))) (aG (bL (aQ cA (aJ (aU (K:=K) rfl) (pv 1) aA (fun _ _=>rfl)) bD (aR _)) (aG (cH (dz (K:=K) rfl (bJ (K:=K) rfl (pv 0) rfl) (aj (cO cF aL.cls (hr.mono (by decide)) (pv 0) (aj (aJ (aU (K:=K) rfl) (pv 1) aA (fun _ _=>rfl)) aq)) aq)))) (aG (bL (PW.pt (lN (aQ cA (aJ (aU (K:=K) rfl) (pv 1) aA (fun _ _=>rfl)) bD (aR _)) (iM (fD (dR (cO yZ aL.cls (hr.mono (by decide)) (pv 0) (aj (pv 1) aq))))))) (aG (dD (K:=K) rfl (pv 0) (aJ (aU (K:=K) rfl) (pv 1) (DR wL aA) (fun _ _=>rfl)) rfl)) bw))))))), ?_⟩
  refine ⟨_,rfl,B.h,au,B.hx,_,_,rfl,c.h,aL.cls,aL.pZ,rfl,_,_,rfl,rfl,B.hx,_,c.h,(by show 5<1000;decide), ?_⟩;rw [uo];have c1:=c.gA (z.pos+1) z.st;have k1:KH B H (upd H B.h (.ins au B.hx (hF B.r ((z.pos+1:Nat):Int) B.b B.sy z.st))):=KH.gA;have d1:=d.keep (c.tup k1) _ (pD r);dsimp only;rw [show ((z.pos:Nat):Int)+1=((z.pos+1:Nat):Int) by omega];generalize (upd H B.h (.ins au B.hx (hF B.r ((z.pos+1:Nat):Int) B.b B.sy z.st)))=H1 at c1 k1 d1 ⊢;obtain ⟨t,ws,rfl,ht,ps⟩:=rH d1;cases r with
  | load b cc=>cases tr
  | store cc e=>cases tr
  | swap b cc e=>cases tr
  | pC b e=>
    obtain ⟨x,rfl,dx⟩:=ps;refine ⟨_,rfl,_,_,_,_,rfl,rfl,cu.of ht,rfl,rfl,_,rfl, ?_⟩;refine bK (fun _=> ?_) (fun z=>absurd (decide_eq_true rfl) z);refine ⟨_,rfl,B.h,B.hx,_,rfl,c1.h,rfl,_,rfl,_,_,_,_,rfl,rfl,cu.of ht,rfl,_,rfl,B.h,B.hx,_,rfl,c1.h,rfl,_,rfl,_,_,_,_,rfl,rfl,cu.of ht,rfl,B,_,x,e,rfl,c1,dx,ro.2,rP e, ?_⟩;exact ⟨B,_,b,_,rfl,c1,ro.1,k _ (c1.tV _ (by rw [List.length_set];exact c1.bl)) (k1.trans KH.tV)⟩
  | say e=>
    obtain ⟨x,rfl,dx⟩:=ps;refine ⟨_,rfl,_,_,_,_,rfl,rfl,cu.of ht,rfl,rfl,_,rfl, ?_⟩;refine bK (fun z=>absurd (of_decide_eq_true z) (by decide)) (fun _=> ?_);refine ⟨_,rfl,_,_,_,_,rfl,rfl,cu.of ht,rfl,rfl,_,rfl, ?_⟩;refine bK (fun _=> ?_) (fun z=>absurd (decide_eq_true rfl) z);refine ⟨_,rfl,B.h,au,B.hx,_,_,rfl,c1.h,aL.cls,aL.jh,rfl,.inl ⟨rfl,_,aY.of c1.y⟩,_,rfl,B.h,B.hx,_,rfl,c1.h,rfl,_,rfl,_,_,_,_,rfl,rfl,cu.of ht,rfl,B,_,x,e,rfl,c1,dx,ro,rP e, ?_⟩;refine ⟨_,_,_,rfl,rfl,c1.y,(by rw [List.length_map,sizeLine_eq];show z.sy.length<_;omega), ?_⟩;have:=k _ (c1.Br (z.sy++[vx z.bs e])) (k1.trans KH.Br);rw [List.map_append] at this;exact this
  | go n=>
    obtain rfl:=ps;refine ⟨_,rfl,_,_,_,_,rfl,rfl,cu.of ht,rfl,rfl,_,rfl, ?_⟩;refine bK (fun z=>absurd (of_decide_eq_true z) (by decide)) (fun _=> ?_);refine ⟨_,rfl,_,_,_,_,rfl,rfl,cu.of ht,rfl,rfl,_,rfl, ?_⟩;refine bK (fun z=>absurd (of_decide_eq_true z) (by decide)) (fun _=> ?_);refine ⟨_,rfl,_,_,_,_,rfl,rfl,cu.of ht,rfl,rfl,_,rfl, ?_⟩;refine bK (fun _=> ?_) (fun z=>absurd (decide_eq_true rfl) z);refine dM ?_;refine ⟨_,rfl,_,rfl,_,_,_,_,rfl,rfl,cu.of ht,rfl,_,rfl,B.h,au,B.hx,_,rfl,c1.h,aL.cls,aL.pZ,(by show 5<1000;decide), ?_⟩;rw [uo];exact k _ (c1.gA n z.st) (k1.trans KH.gA)
  | oh q e f n=>
    obtain ⟨x,y,rfl,dx,dy⟩:=ps;refine ⟨_,rfl,_,_,_,_,rfl,rfl,cu.of ht,rfl,rfl,_,rfl, ?_⟩;refine bK (fun z=>absurd (of_decide_eq_true z) (by decide)) (fun _=> ?_);refine ⟨_,rfl,_,_,_,_,rfl,rfl,cu.of ht,rfl,rfl,_,rfl, ?_⟩;refine bK (fun z=>absurd (of_decide_eq_true z) (by decide)) (fun _=> ?_);refine ⟨_,rfl,_,_,_,_,rfl,rfl,cu.of ht,rfl,rfl,_,rfl, ?_⟩;refine bK (fun z=>absurd (of_decide_eq_true z) (by decide)) (fun _=> ?_);refine ⟨_,rfl,B.h,B.hx,_,rfl,c1.h,rfl,_,rfl,B,_,_,q,e,f,n,rfl,c1,d1,ro.1,ro.2,_,rfl, ?_⟩;cases hh:iT z.bs (.oh q e f n) with
    | true=>
      refine cD ?_;refine k _ ?_ k1;show lH au H1 B {z with pos:=if iT z.bs (.oh q e f n) then z.pos+1 else n};rw [hh];exact c1
    | false=>
      refine dM ?_;refine ⟨_,rfl,_,rfl,_,_,_,_,rfl,rfl,cu.of ht,rfl,_,rfl,B.h,au,B.hx,_,rfl,c1.h,aL.cls,aL.pZ,(by show 5<1000;decide), ?_⟩;rw [uo];refine k _ ?_ (k1.trans KH.gA);show lH au _ B {z with pos:=if iT z.bs (.oh q e f n) then z.pos+1 else n};rw [hh];exact c1.gA n z.st
def cW (H:Hp) (r:Addr) (m:Nat) (rws:List Rw):Prop:=∃ts,H r=some (.lst ts)/\bH H ts (rws.map jg)/\(∀x∈rws,um m x)/\rws.length<=1000
theorem p8 (rws:List Rw):qR (rws.map jg)=true:=uI jg pD rws
theorem cW.keep {H H':Hp} {r:Addr} {m:Nat} {rws:List Rw} (h:cW H r m rws) (k:∀o,H r=some o->H' r=some o) (t:∀x xs,H x=some (.tup xs)->H' x=some (.tup xs)):cW H' r m rws:=by
 obtain ⟨ts,e,d,q⟩:=h;exact ⟨ts,k _ e,d.keep t _ (p8 rws),q⟩
theorem cW.same {H H':Hp} {r:Addr} {m:Nat} {rws:List Rw} (h:cW H r m rws) (k:Same H H'):cW H' r m rws:=h.keep (fun o e=>k _ _ e) k.tups
def wU (CH:Addr) (K:PySem.W.Frag):Sp:=fun vs H Q _=>∃(A:mD) (s:aO) (m:Nat),vs=[.ref A.h]/\lH CH H A s/\cW H A.r m s.rws/\A.r≠A.b/\A.r≠A.sy/\s.sy.length<900000 /\ ∀H',lH CH H' A (lead s)->KH A H H'->Q .non H'
theorem MF {au:Addr} {f:Addr} {fd:FuncData} (F:fj K "lead_on" "Hand.lead_on" jq f fd) (rA:FnAt P w K mg base 1 "cell_of" ["row"] (tR K)) (G4:MethAt P w K mg base 5 au "do" ["self","row"] (QM au K)) (aL:dO K au) (eZ:Gv mg "MOST_UNTOUCHING" (.int 60)) (Bt:mC mg):bU P w K mg base gF 6 f fd ["self"] (wU au K):=by
 refine F.ok iG (fun vs H Q E h=> ?_) (fun cdv A outer s H vs Q E hr h=> ?_)
 ·obtain ⟨A,s,m,rfl,_⟩:=h
  rfl
 ·obtain ⟨B,s,m,rfl,c,R,RB,Ut,sl,k⟩:=h
  refine ⟨_,(aB (aW (i:=1) iG.nd rfl (Or.inl rfl) aA)
   (aB (zQ PassesOwn.never (PW.pt (jN (aQ iY (bJ (K:=K) rfl (pv 0) rfl) (bf (bC (K:=K) rfl) (by rfl) Bt.dU cU (aj (bJ (K:=K) rfl (pv 0) rfl) aq)) (aR _)) (i_ (aQ o_ (bF rA (hr.mono (by decide)) (by rfl) (aj (aJ (aH (K:=K) rfl) (bJ (K:=K) rfl (pv 0) rfl) (bJ (K:=K) rfl (pv 0) rfl) (fun _ _=>rfl)) aq)) eF (aR _))))) (aB (bL (aQ cA (pv 1) (h_ (by rfl) eZ.choose_spec.1 eZ.choose_spec.2) (aR _)) (aB (dD (K:=K) rfl (pv 0) bD rfl)
   (aG DN)) bw)
   (aB (cH (cO G4 aL.cls (hr.mono (by decide)) (pv 0) (aj (aJ (aH (K:=K) rfl) (bJ (K:=K) rfl (pv 0) rfl) (bJ (K:=K) rfl (pv 0) rfl) (fun _ _=>rfl)) aq)))
   (aG (Q9 (i:=1) iG.nd rfl (Or.inl rfl) aA Cu)))))
   (aG (dD (K:=K) rfl (pv 0) (ju (aQ iY (bJ (K:=K) rfl (pv 0) rfl) (bf (bC (K:=K) rfl) (by rfl) Bt.dU cU (aj (bJ (K:=K) rfl (pv 0) rfl) aq)) (aR _)) bD bD) rfl)))), ?_⟩
  have Uu:B.r≠B.h:=by
   obtain ⟨ts,e,_⟩:=R;exact cG e c.h (by intro z;cases z)
  refine ⟨fun n σ H1=>∃(d:Nat) (z:aO),σ=[some (.ref B.h),some (.int d)]/\d<=60/\n=60 - d/\lH au H1 B z/\KH B H H1/\led (60 - d) z=lead s/\z.rws=s.rws/\z.sy.length<=s.sy.length+d,
   ⟨60,0,s,rfl,by decide,rfl,c,KH.of_same (Same.refl _),rfl,rfl,Nat.le_refl _⟩,fun n σ H1 hσ=> ?_⟩
  obtain ⟨d,z,rfl,d60,rfl,c1,k1,hl,zr,zs⟩:=hσ
  have R1:cW H1 B.r m z.rws:=by
   rw [zr];exact R.keep (fun o e=>k1 _ _ e Uu RB Ut) (c.tup k1)
  obtain ⟨ts,hts,vC,ro,rl⟩:=R1;have ln:ts.length=z.rws.length:=by rw [vC.length,List.length_map]
  refine ⟨_,rfl,B.h,au,B.hx,_,_,rfl,c1.h,aL.cls,aL.pZ,rfl,_,rfl,B.h,au,B.hx,_,_,rfl,c1.h,aL.cls,aL.mY,rfl,B.r,_,rfl,.inl (aY.of hts),_,_,rfl,rfl,_,rfl, ?_⟩;cases er:z.rws[z.pos]? with
  | none=>
    have ge:z.rws.length<=z.pos:=List.getElem?_eq_none_iff.mp er;have lf:¬decide (((z.pos:Nat):Int)<((ts.length:Nat):Int))=true:=by rw [ln];simp;omega
    refine bK (fun q=>absurd q lf) (fun _=> ?_);refine cD ?_;refine ⟨_,rfl,B.h,au,B.hx,_,_,rfl,c1.h,aL.cls,aL.pZ,rfl,_,rfl,B.h,au,B.hx,_,_,rfl,c1.h,aL.cls,aL.mY,rfl,B.r,_,rfl,.inl (aY.of hts),_,_,rfl,rfl,_,rfl, ?_⟩;refine bK (fun q=>absurd q lf) (fun _=> ?_);refine ⟨_,rfl,B.h,au,B.hx,_,rfl,c1.h,aL.cls,aL.ig,(by show 5<1000;decide), ?_⟩;rw [xT];refine k _ ?_ (k1.trans KH.gA)
    have:lead s={z with st:= "ends" }:=by
     rw [←hl];cases e60:60 - d<;>simp only [led,er]
    rw [this];exact c1.gA z.pos "ends"
  | some r=>
    have lt:z.pos<z.rws.length:=(List.getElem?_eq_some_iff.mp er).1;have lT:decide (((z.pos:Nat):Int)<((ts.length:Nat):Int))=true:=by rw [ln];simp;omega
    obtain ⟨v,ev,dv⟩:=vC.getD (i:=z.pos) (d:=jg r) (by rw [List.getElem?_map,er];rfl);refine bK (fun _=> ?_) (fun q=>absurd lT q);refine ⟨_,rfl,B.h,au,B.hx,_,_,rfl,c1.h,aL.cls,aL.mY,rfl,_,rfl,B.h,au,B.hx,_,_,rfl,c1.h,aL.cls,aL.pZ,rfl,_,_,_,_,rfl,rfl,aY.of hts,bW ev,v,r,rfl,dv,fun H2 s2=>⟨rfl,_,rfl, ?_⟩⟩;have c2:=c1.same s2;have Gu:=s2 _ _ hts;have k2:=k1.trans (KH.of_same (A:=B) s2);cases tr:touch r with
    | true=>
      refine bK (fun q=>absurd (of_decide_eq_true q) (by unfold Ao;rw [if_pos tr];intro z;cases z)) (fun _=> ?_);refine ⟨_,rfl,B.h,au,B.hx,_,_,rfl,c2.h,aL.cls,aL.pZ,rfl,_,rfl,B.h,au,B.hx,_,_,rfl,c2.h,aL.cls,aL.mY,rfl,B.r,_,rfl,.inl (aY.of Gu),_,_,rfl,rfl,_,rfl, ?_⟩;refine bK (fun _=> ?_) (fun q=>absurd lT q);refine ⟨_,rfl,B.h,au,B.hx,_,rfl,c2.h,aL.cls,aL.ig,(by show 5<1000;decide), ?_⟩;rw [xT];refine k _ ?_ (k2.trans KH.gA)
      have:lead s={z with st:= "waits" }:=by
       rw [←hl];cases e60:60 - d<;>simp only [led,er,tr,if_true]
      rw [this];exact c2.gA z.pos "waits"
    | false=>
      refine bK (fun _=> ?_) (fun q=>absurd (decide_eq_true (by unfold Ao;rw [if_neg (by rw [tr];decide)])) q);refine ⟨fun σ' H'=>∃m',m'<60 - d /\ ∃(d:Nat) (z:aO),σ'=[some (.ref B.h),some (.int d)]/\d<=60/\m'=60 - d/\lH au H' B z/\KH B H H'/\led (60 - d) z=lead s/\z.rws=s.rws/\z.sy.length<=s.sy.length+d,fun _ _ q=>q, ?_⟩;refine ⟨_,rfl,rfl,_,rfl, ?_⟩
      by_cases e6:d=60
      ·subst e6
       refine bK (fun _=> ?_) (fun q=>absurd (decide_eq_true rfl) q);refine ⟨_,rfl,B.h,au,B.hx,_,rfl,c2.h,aL.cls,aL.ig,(by show 5<1000;decide), ?_⟩;rw [xT];refine k _ ?_ (k2.trans KH.gA)
       have:lead s={z with st:= "lost" }:=by
        rw [←hl];show led 0 z=_;simp only [led,er,tr];rfl
       rw [this];exact c2.gA z.pos "lost"
      ·refine bK (fun q=>absurd (by have:=V.int.inj (of_decide_eq_true q);omega) e6) (fun _=> ?_)
       refine ⟨_,rfl,B.h,B.hx,_,rfl,c2.h,rfl,_,rfl,B.h,au,B.hx,_,_,rfl,c2.h,aL.cls,aL.mY,rfl,_,rfl,B.h,au,B.hx,_,_,rfl,c2.h,aL.cls,aL.pZ,rfl,_,_,_,_,rfl,rfl,aY.of Gu,bW ev,B,z,v,r,m,rfl,c2,dv.same s2 _,ro r (List.mem_of_getElem? er),tr,by omega,fun H3 c3 k3=> ?_⟩;refine ⟨_,rfl,_,_,rfl,rfl,60 - (d+1),by omega,d+1,lR z r,rfl,by omega,rfl,c3,k2.trans k3, ?_,by rw [qX,zr], ?_⟩
       ·rw [←hl,show 60 - d=(60 - (d+1))+1 by omega]
        simp only [led,er,tr];rfl
       ·have:=uM z r
        omega
def wF (pg nb hs tn:Addr):List (Str×V):=[("program",.ref pg),("numbers",.ref nb),("hands",.ref hs),("turns",.ref tn)]
def pB (m:Int) (ns:List Int):Prop:=(ns.length:Int)=m /\ ∀x∈ns,0<=x/\x<1000
def oK (CN:Addr) (K:PySem.W.Frag):Sp:=fun vs H Q E=>∃(cl:Addr) (m:Int) (ns:List Int),vs=[.ref cl,.int m]/\H cl=some (.lst (ns.map V.int))/\ns.length<=100/\(pB m ns -> ∀H',Same H H'->Q .non H')/\(¬pB m ns -> ∀H',Same H H'->E (.ref CN) none H')
theorem zX {f:Addr} {fd:FuncData} (F:fj K "check_numbers" "check_numbers" iH f fd) (pK:FnAt P w K mg base 2 "is_below" ["value","count"] (wW K)) (gO:Gv mg "ROUND" (.int 1000)) (Bt:mC mg) {bN:Addr} (gY:Xr K mg bN "NoNumber"):bU P w K mg base (oH P w) 3 f fd ["cells","count"] (oK bN K):=by
 refine F.M4 qD (fun vs H Q E h=> ?_) (fun cdv A outer s H vs Q E hr h hR=> ?_)
 ·obtain ⟨cl,m,ns,rfl,_⟩:=h
  rfl
 ·obtain ⟨cl,m,ns,rfl,hc,nl,k1,k2⟩:=h
  refine ⟨_,(aB (bL (PW.pt (lN (fD (dR (bf (cP (K:=K) (cv:= .ty "list") (c:= .type "list") rfl rfl) (by rfl) Bt.bR bM (aj (pv 0) (aj (d8 (v:= .ty "list") (by rfl) Bt.dg cN rfl) aq))))) (iM (aQ lQ (bf (bC (K:=K) rfl) (by rfl) Bt.dU cU (aj (pv 0) aq)) (pv 1) (aR _))))) (aG (pY PySem.F.excBase_ValueError gY.ex gY.bd (by rfl) rfl rfl hR (aj bD aq))) bw)
   (aG (bL (fD (dR (bf (iV (K:=K) rfl rfl) (by rfl) Bt.Kr CK (aj (cI rfl (N:=["number"]) (own:=["number"]) (caps:=[]) (bh.of (by kernel_rfl)) (cj (K:=K) rfl (pv 0)) (fun _ _ _ _=>(bI (i:=0) (show List.Nodup (["number"]:List Str) by decide +kernel) rfl (Or.inl rfl))) (fun _ _ _ _=>cB) (fun _ _ _ _=>(bF pK (hr.mono (by decide)) (by rfl) (aj (pv 0) (aj (h_ (by rfl) gO.choose_spec.1 gO.choose_spec.2) aq))))) aq)))) (aG (pY PySem.F.excBase_ValueError gY.ex gY.bd (by rfl) rfl rfl hR (aj bD aq))) bw))), ?_⟩
  refine ⟨_,rfl,_,_,true,rfl,.lst hc,iu K,true,rfl, ?_⟩;refine cD ?_;refine ⟨_,rfl,cl,_,rfl,.inl (aY.of hc),_,rfl,rfl,_,rfl, ?_⟩;rw [List.length_map]
  by_cases el:(ns.length:Int)=m
  rotate_left
  ·refine bK (fun _=> ?_) (fun z=>absurd (by simp [el]) z)
   exact ⟨(by show 1<=sizeLine;decide),k2 (fun z=>el z.1) H (Same.refl _)⟩
  refine m5 (by rw [el]) ?_;refine ⟨_,rfl,cl,rfl,⟨_,aY.of hc⟩,fun D hD=> ?_⟩;refine fX (K:=K) (fun i=>(ns[i]?).map fun x=>V.bl (decide (vh x 1000))) hD (aY.of hc) (by rw [List.length_map];omega) (fun i v H2 G F hi s2 kG kF=> ?_) (fun H2 s2 e2=> ?_)
  ·rw [List.getElem?_map] at hi
   cases ei:ns[i]? with
   | none=>rw [ei] at hi;cases hi
   | some z=>
     rw [ei] at hi;cases hi;exact ⟨_,rfl,z,1000,rfl,kF _ H2 (Same.refl _) (by rw [ei];rfl)⟩
  rw [List.length_map,jd] at e2;refine ⟨D,ns.map (fun x=>decide (vh x 1000)),rfl,aY.of (by rw [e2,List.map_map];rfl),_,rfl, ?_⟩
  by_cases al:∀x∈ns,vh x 1000
  ·have ea:(ns.map (fun x=>decide (vh x 1000))).all id=true:=by
    rw [List.all_map,List.all_eq_true];intro h hh;exact decide_eq_true (al h hh)
   rw [ea];refine cD ?_;exact k1 ⟨el,fun x hx=>al x hx⟩ H2 s2
  ·have ea:(ns.map (fun x=>decide (vh x 1000))).all id=false:=by
    rw [List.all_map,←Bool.not_eq_true,List.all_eq_true];intro z;exact al fun h hh=>of_decide_eq_true (p:=vh h 1000) (z h hh)
   rw [ea];refine dM ?_;exact ⟨(by show 1<=sizeLine;decide),k2 (fun z=>al fun x hx=>z.2 x hx) H2 s2⟩
def qy (CW CH:Addr) (K:PySem.W.Frag):Sp:=fun vs H Q _=>∃(o dx pg nb hl tn:Addr) (A:mD) (s:aO) (m:Nat) (ns:List Int) (r:Rw),vs=[.ref o,.ref A.h]/\H o=some (.ins CW dx (wF pg nb hl tn))/\H nb=some (.lst (ns.map V.int))/\ns.length=m/\lH CH H A s/\cW H A.r m s.rws /\
 s.rws[s.pos]? = some r/\touch r=true/\nb≠A.b/\nb≠A.sy /\
 ∀t H',H t=none->H' t=some (.tup (sY ns s.bs r))->lH CH H' A {s with bs:=uT ns s.bs r}->H' nb=some (.lst ((iU ns s.bs r).map V.int))->(∀x u,H x=some u->x≠nb->x≠A.b->H' x=some u)->Q (.ref t) H'
theorem B_ {ak au:Addr} {f:Addr} {fd:FuncData} (F:fj K "touch_by" "Works.touch_by" gR f fd) (rA:FnAt P w K mg base 1 "cell_of" ["row"] (tR K)) (cF:MethAt P w K mg base 3 au "value_of" ["self","part"] (tE au 2 K)) (nu:MethAt P w K mg base 1 au "take" ["self","box","number"] (wR au K)) (aK:cM K ak) (aL:dO K au):bU P w K mg base gF 4 f fd ["self","one"] (qy ak au K):=by
 refine F.ok dI (fun vs H Q E h=> ?_) (fun cdv A outer s H vs Q E hr h=> ?_)
 ·obtain ⟨o,dx,pg,nb,hl,tn,A,s,m,ns,r,rfl,_⟩:=h
  rfl
 ·obtain ⟨o,dx,pg,nb,hl,tn,B,z,m,ns,r,rfl,ho,hnb,nl,c,R,er,tr,Ce,Jr,k⟩:=h
  refine ⟨_,(aB (aW (i:=2) dI.nd rfl (Or.inl rfl) (aJ (aH (K:=K) rfl) (bJ (K:=K) rfl (pv 1) rfl) (bJ (K:=K) rfl (pv 1) rfl) (fun _ _=>rfl)))
   (aB (aW (i:=3) dI.nd rfl (Or.inl rfl) (bF rA (hr.mono (by decide)) (by rfl) (aj (pv 2) aq)))
   (aB (aW (i:=4) dI.nd rfl (Or.inl rfl) (ju (aQ cA (aJ (aU (K:=K) rfl) (pv 2) aA (fun _ _=>rfl)) bD (aR _)) eF (aJ (aH (K:=K) rfl) (bJ (K:=K) rfl (pv 0) rfl) (pv 3) (fun _ _=>rfl))))
   (aB (aW (i:=5) dI.nd rfl (Or.inl rfl) (ju (aQ cA (aJ (aU (K:=K) rfl) (pv 2) aA (fun _ _=>rfl)) bD (aR _)) eF (cO cF aL.cls (hr.mono (by decide)) (pv 1) (aj (aJ (aU (K:=K) rfl) (pv 2) (DR wL aA) (fun _ _=>rfl)) aq))))
   (aB (bL (aQ xY (pv 4) eF (aR _)) (aG (cH (cO nu aL.cls (hr.mono (by decide)) (pv 1) (aj (aJ (aU (K:=K) rfl) (pv 2) aA (fun _ _=>rfl)) (aj (pv 4) aq))))) bw)
   (aB (bL (aQ xY (pv 5) eF (aR _)) (aG (fQ (pv 5) (gB (bJ (K:=K) rfl (pv 0) rfl) (pv 3) set_list))) bw)
   (aG (aV (cZ (aj (aJ (aU (K:=K) rfl) (pv 2) aA (fun _ _=>rfl)) (aj (pv 3) (aj (pv 4) (aj (pv 5) aq))))))))))))), ?_⟩
  obtain ⟨ts,hts,vC,ro,rl⟩:=R;obtain ⟨v,ev,dv⟩:=vC.getD (i:=z.pos) (d:=jg r) (by rw [List.getElem?_map,er];rfl);have pW:=ro r (List.mem_of_getElem? er);refine ⟨_,rfl,B.h,au,B.hx,_,_,rfl,c.h,aL.cls,aL.mY,rfl,_,rfl,B.h,au,B.hx,_,_,rfl,c.h,aL.cls,aL.pZ,rfl,_,_,_,_,rfl,rfl,aY.of hts,bW ev, ?_⟩;refine ⟨_,rfl,v,r,rfl,dv,fun H1 s1=> ?_⟩;have c1:=c.same s1;have ho1:=s1 _ _ ho;have yw:=s1 _ _ hnb;obtain ⟨t,ws,rfl,ht,ps⟩:=rH (dv.same s1 _);have nob:o≠nb:=cG ho1 yw (by intro z;cases z);have noB:o≠B.b:=cG ho1 c1.b (by intro z;cases z);have ntb:t≠B.b:=cG ht c1.b (by intro z;cases z);have ntn:t≠nb:=cG ht yw (by intro z;cases z);have cellOf:∀cc,cc<m->ns[cc]? = some ((ns[cc]?).getD 0):=fun cc h=>by rw [List.getElem?_eq_getElem (by omega)];rfl
  have cellAt:∀cc,cc<m->(ns.map V.int)[cc]? = some (.int ((ns[cc]?).getD 0)):=fun cc h=>by rw [List.getElem?_map,cellOf cc h];rfl
  have JG:∀cc,cc<m->Cr (ns.map V.int).length ((cc:Nat):Int)=some cc:=fun cc h=>by rw [List.length_map];unfold Cr;rw [if_pos (by omega),if_pos (by omega)];simp
  cases r with
  | load b cc=>
    obtain rfl:=ps;refine ⟨_,rfl,_,_,_,_,rfl,rfl,cu.of ht,rfl,rfl,_,rfl, ?_⟩;refine bK (fun z=>absurd (of_decide_eq_true z) (by decide)) (fun _=> ?_);refine ⟨_,rfl,o,ak,dx,_,_,rfl,ho1,aK.cls,aK.gU,rfl,_,rfl,_,_,_,_,rfl,rfl,aY.of yw,bW (cellAt cc pW.2), ?_⟩;refine ⟨_,rfl,_,_,_,_,rfl,rfl,cu.of ht,rfl,rfl,_,rfl, ?_⟩;refine bK (fun _=> ?_) (fun z=>absurd (decide_eq_true rfl) z);refine ⟨_,rfl,rfl,_,rfl, ?_⟩;refine dM ?_;refine ⟨_,rfl,B.h,B.hx,_,rfl,c1.h,rfl,_,rfl,_,_,_,_,rfl,rfl,cu.of ht,rfl,_,rfl,B,z,b,_,rfl,c1,pW.1, ?_⟩;refine ⟨_,rfl,rfl,_,rfl, ?_⟩;refine cD ?_;have c2:=c1.tV (z.bs.set b ((ns[cc]?).getD 0)) (by rw [List.length_set];exact c1.bl);refine ⟨_,rfl,_,_,_,_,rfl,rfl,cu.of (by rw [aD ntb];exact ht),rfl,_,rfl,_,rfl,_,rfl,(by show 4<=sizeLine;decide),fun p hp=> ?_⟩;have sp:=aF (o:=HO.tup [V.str (Str.ofString "load"),V.int cc,V.int ((ns[cc]?).getD 0),V.non]) hp;refine k p _ ?_ ?_ (c2.same sp) (sp _ _ (by rw [aD Ce];exact yw)) ?_
    ·refine s1.free ?_
     have:p≠B.b:=fun e=>by rw [e,ao] at hp;cases hp
     rw [aD this] at hp;exact hp
    ·rw [ao]
     show some (HO.tup [V.str (Str.ofString "load"),V.int cc,V.int ((ns[cc]?).getD 0),V.non])=some (HO.tup [V.str (Str.ofString "load"),V.int cc,oV (ns[cc]?),V.non]);rw [cellOf cc pW.2];rfl
    ·intro x u e n1 n2
     exact sp _ _ (by rw [aD n2];exact s1 _ _ e)
  | store cc e=>
    obtain ⟨x,rfl,Tf⟩:=ps;refine ⟨_,rfl,_,_,_,_,rfl,rfl,cu.of ht,rfl,rfl,_,rfl, ?_⟩;refine bK (fun _=> ?_) (fun z=>absurd (decide_eq_true rfl) z);refine ⟨_,rfl,_,_,_,_,rfl,rfl,cu.of ht,rfl,rfl,_,rfl, ?_⟩;refine bK (fun z=>absurd (of_decide_eq_true z) (by decide)) (fun _=> ?_);refine ⟨_,rfl,B.h,B.hx,_,rfl,c1.h,rfl,_,rfl,_,rfl,_,_,_,_,rfl,rfl,cu.of ht,rfl,B,z,x,e,rfl,c1,Tf,pW.2,rP e, ?_⟩;refine ⟨_,rfl,rfl,_,rfl, ?_⟩;refine cD ?_;refine ⟨_,rfl,rfl,_,rfl, ?_⟩;refine dM ?_;refine ⟨_,rfl,_,rfl,o,ak,dx,_,_,rfl,ho1,aK.cls,aK.gU,rfl,_,rfl,nb,_,_,cc,rfl,rfl,yw,JG cc pW.1, ?_⟩;rw [←List.map_set];refine ⟨_,rfl,_,_,_,_,rfl,rfl,cu.of (by rw [aD ntn];exact ht),rfl,_,rfl,_,rfl,_,rfl,(by show 4<=sizeLine;decide),fun p hp=> ?_⟩;have sp:=aF (o:=HO.tup [V.str (Str.ofString "store"),V.int cc,V.non,V.int (vx z.bs e)]) hp;have M_:B.h≠nb:=cG c1.h yw (by intro z;cases z);refine k p _ ?_ ao (lH.same ⟨by rw [aD M_];exact c1.h,by rw [aD Ce.symm];exact c1.b,by rw [aD Jr.symm];exact c1.y,c1.pL,c1.bl⟩ sp) (sp _ _ ao) ?_
    ·refine s1.free ?_
     have:p≠nb:=fun e=>by rw [e,ao] at hp;cases hp
     rw [aD this] at hp;exact hp
    ·intro x u e n1 n2
     exact sp _ _ (by rw [aD n1];exact s1 _ _ e)
  | swap b cc e=>
    obtain ⟨x,rfl,Tf⟩:=ps;refine ⟨_,rfl,_,_,_,_,rfl,rfl,cu.of ht,rfl,rfl,_,rfl, ?_⟩;refine bK (fun z=>absurd (of_decide_eq_true z) (by decide)) (fun _=> ?_);refine ⟨_,rfl,o,ak,dx,_,_,rfl,ho1,aK.cls,aK.gU,rfl,_,rfl,_,_,_,_,rfl,rfl,aY.of yw,bW (cellAt cc pW.2.1), ?_⟩;refine ⟨_,rfl,_,_,_,_,rfl,rfl,cu.of ht,rfl,rfl,_,rfl, ?_⟩;refine bK (fun z=>absurd (of_decide_eq_true z) (by decide)) (fun _=> ?_);refine ⟨_,rfl,B.h,B.hx,_,rfl,c1.h,rfl,_,rfl,_,rfl,_,_,_,_,rfl,rfl,cu.of ht,rfl,B,z,x,e,rfl,c1,Tf,pW.2.2,rP e, ?_⟩;refine ⟨_,rfl,rfl,_,rfl, ?_⟩;refine dM ?_;refine ⟨_,rfl,B.h,B.hx,_,rfl,c1.h,rfl,_,rfl,_,_,_,_,rfl,rfl,cu.of ht,rfl,_,rfl,B,z,b,_,rfl,c1,pW.1, ?_⟩;refine ⟨_,rfl,rfl,_,rfl, ?_⟩;refine dM ?_;have c2:=c1.tV (z.bs.set b ((ns[cc]?).getD 0)) (by rw [List.length_set];exact c1.bl);have aa0:(upd H1 B.b (.lst ((z.bs.set b ((ns[cc]?).getD 0)).map V.int))) nb=some (.lst (ns.map V.int)):=by rw [aD Ce];exact yw
    refine ⟨_,rfl,_,rfl,o,ak,dx,_,_,rfl,(by rw [aD noB];exact ho1),aK.cls,aK.gU,rfl,_,rfl,nb,_,_,cc,rfl,rfl,aa0,JG cc pW.2.1, ?_⟩;rw [←List.map_set];refine ⟨_,rfl,_,_,_,_,rfl,rfl,cu.of (by rw [aD ntn,aD ntb];exact ht),rfl,_,rfl,_,rfl,_,rfl,(by show 4<=sizeLine;decide),fun p hp=> ?_⟩;have sp:=aF (o:=HO.tup [V.str (Str.ofString "swap"),V.int cc,V.int ((ns[cc]?).getD 0),V.int (vx z.bs e)]) hp;have M_:B.h≠nb:=cG c1.h yw (by intro z;cases z);refine k p _ ?_ ?_ (lH.same ⟨by rw [aD M_];exact c2.h,by rw [aD Ce.symm];exact c2.b,by rw [aD Jr.symm];exact c2.y,c2.pL,c2.bl⟩ sp) (sp _ _ ao) ?_
    ·refine s1.free ?_
     have n1:p≠nb:=fun e=>by rw [e,ao] at hp;cases hp
     rw [aD n1] at hp;have n2:p≠B.b:=fun e=>by rw [e,ao] at hp;cases hp
     rw [aD n2] at hp;exact hp
    ·rw [ao]
     show some (HO.tup [V.str (Str.ofString "swap"),V.int cc,V.int ((ns[cc]?).getD 0),V.int (vx z.bs e)])=some (HO.tup [V.str (Str.ofString "swap"),V.int cc,oV (ns[cc]?),V.int (vx z.bs e)]);rw [cellOf cc pW.2.1];rfl
    ·intro x u e n1 n2
     exact sp _ _ (by rw [aD n1,aD n2];exact s1 _ _ e)
  | pC b e=>cases tr
  | say e=>cases tr
  | go n=>cases tr
  | oh q e f n=>cases tr
structure oE where
 (o dx pg L nb hl tn:Addr) (rs:List Addr) (hd:List mD)
structure rT (CH:Addr) (i k m:Nat) (τ:Tg) (H:Hp) (A:mD) (s:aO):Prop where
 c:lH CH H A s
 r:cW H A.r m s.rws
 tr:τ A.r=[0]
 th:τ A.h=[i,4,k]
 tb:τ A.b=[i,5,k]
 ty:τ A.sy=[i,6,k]
structure jD (CW CH:Addr) (i:Nat) (τ:Tg) (H:Hp) (W:oE) (S:ji):Prop where
 un:j8 τ H
 i0:i≠0
 o:H W.o=some (.ins CW W.dx (wF W.pg W.nb W.hl W.tn))
 pg:H W.pg=some (.tup [.int S.m,.ref W.L])
 L:H W.L=some (.lst (W.rs.map V.ref))
 nb:H W.nb=some (.lst (S.ns.map V.int))
 hl:H W.hl=some (.lst (W.hd.map fun a=> .ref a.h))
 tn:H W.tn=some (.lst (S.ts.map V.int))
 to:τ W.o=[i,0]
 tb:τ W.nb=[i,1]
 tl:τ W.hl=[i,2]
 tt:τ W.tn=[i,3]
 tL:τ W.L=[0]
 rl:W.rs.length=S.hs.length
 rs:∀(k:Nat) (r:Addr) (s:aO),W.rs[k]? = some r->S.hs[k]? = some s->τ r=[0]/\cW H r S.m s.rws
 len:W.hd.length=S.hs.length
 hd:∀(k:Nat) (A:mD) (s:aO),W.hd[k]? = some A->S.hs[k]? = some s->rT CH i k S.m τ H A s
 ok:∀s∈S.hs,qp s
 sl:∀s∈S.hs,s.sy.length<=60*(S.ts.length+1)
 nl:S.ns.length=S.m
 hn:S.hs.length<=100
section
variable {CW CH:Addr} {i:Nat} {τ τ':Tg} {H H':Hp} {W:oE} {S:ji}
theorem rT.mv {k m:Nat} {A:mD} {s:aO} (h:rT CH i k m τ H A s) (q:Mv i τ H τ' H'):rT CH i k m τ' H' A s:=by
 obtain ⟨⟨c1,c2,c3,c4,c5⟩,r,tr,th,tb,ty⟩:=h;have e1:=q.keep _ _ c1 (.inr (by rw [th];rfl));have e2:=q.keep _ _ c2 (.inr (by rw [tb];rfl));have e3:=q.keep _ _ c3 (.inr (by rw [ty];rfl));have rr:=r;obtain ⟨ts,hr,_⟩:=rr;have e4:=q.keep _ _ hr (.inl tr);exact ⟨⟨e1.1,e2.1,e3.1,c4,c5⟩,r.keep (fun o e=>(q.keep _ _ e (.inl tr)).1) q.tup,e4.2.trans tr,e1.2.trans th,e2.2.trans tb,e3.2.trans ty⟩
theorem DG {r:Addr} {m:Nat} {rws:List Rw} (h:τ r=[0]/\cW H r m rws) (q:Mv i τ H τ' H'):τ' r=[0]/\cW H' r m rws:=by
 obtain ⟨t,R⟩:=h;have rr:=R;obtain ⟨ts,hr,_⟩:=rr;have e4:=q.keep _ _ hr (.inl t);exact ⟨e4.2.trans t,R.keep (fun o e=>(q.keep _ _ e (.inl t)).1) q.tup⟩
theorem jD.mv (w:jD CW CH i τ H W S) (q:Mv i τ H τ' H') (u:j8 τ' H'):jD CW CH i τ' H' W S:=by
 have e1:=q.keep _ _ w.o (.inr (by rw [w.to];rfl));have e2:=q.keep _ _ w.nb (.inr (by rw [w.tb];rfl));have e3:=q.keep _ _ w.hl (.inr (by rw [w.tl];rfl));have e4:=q.keep _ _ w.tn (.inr (by rw [w.tt];rfl));have e5:=q.keep _ _ w.L (.inl w.tL);exact ⟨u,w.i0,e1.1,q.tup _ _ w.pg,e5.1,e2.1,e3.1,e4.1,e1.2.trans w.to,e2.2.trans w.tb,e3.2.trans w.tl,e4.2.trans w.tt,e5.2.trans w.tL,w.rl,fun k r s h1 h2=>DG (w.rs k r s h1 h2) q,w.len,fun k A s h1 h2=>(w.hd k A s h1 h2).mv q,w.ok,w.sl,w.nl,w.hn⟩
theorem jD.same (w:jD CW CH i τ H W S) (k:Same H H'):jD CW CH i τ H' W S:=w.mv (Mv.of_same k) (w.un.same k)
theorem jD.kp {a:Addr} {o:HO} (w:jD CW CH i τ H W S) (k:Kp a H H') (ha:H a=some o) (hn:∀xs,o ≠ .tup xs) (ht:τ a=[]) (ha':∃o',H' a=some o'):jD CW CH i τ H' W S:=
 w.mv (Mv.V6 k ha hn ht) (w.un.dom fun x e=>by
  by_cases z:x=a
  ·obtain ⟨o',h'⟩:=ha'
   rw [z,h'] at e;cases e
  ·exact p7 k z e)
theorem jD.hand {k:Nat} {s:aO} (w:jD CW CH i τ H W S) (h:S.hs[k]? = some s):∃A,W.hd[k]? = some A/\rT CH i k S.m τ H A s:=by
 have:k<W.hd.length:=by rw [w.len];exact (List.getElem?_eq_some_iff.mp h).1
 exact ⟨W.hd[k],by simp [this],w.hd k _ _ (by simp [this]) h⟩
end
def jR (CW CH CN:Addr) (K:PySem.W.Frag):Sp:=fun vs H Q E=>∃(i:Nat) (τ:Tg) (W:oE) (S:ji) (h:Int),vs=[.ref W.o,.int h]/\jD CW CH i τ H W S/\(∀(k:Nat) (A:mD) (s:aO),h=k->W.hd[k]? = some A->S.hs[k]? = some s->Q (.ref A.h) H)/\(¬vh h S.hs.length->E (.ref CN) none H)
theorem Gf {ak au:Addr} {f:Addr} {fd:FuncData} (F:fj K "hand_of" "Works.hand_of" iJ f fd) (pK:FnAt P w K mg base 2 "is_below" ["value","count"] (wW K)) (aK:cM K ak) (Bt:mC mg) {aX:Addr} (fY:Xr K mg aX "NoHand"):bU P w K mg base (oH P w) 3 f fd ["self","hand"] (jR ak au aX K):=by
 refine F.M4 qF (fun vs H Q E h=> ?_) (fun cdv A outer s H vs Q E hr h hR=> ?_)
 ·obtain ⟨i,τ,W,S,h,rfl,_⟩:=h
  rfl
 ·obtain ⟨i,τ,W,S,h,rfl,w,k1,k2⟩:=h
  refine ⟨_,(aB (bL (fD (dR (bF pK (hr.mono (by decide)) (by rfl) (aj (pv 1) (aj (bf (bC (K:=K) rfl) (by rfl) Bt.dU cU (aj (bJ (K:=K) rfl (pv 0) rfl) aq)) aq))))) (aG (pY PySem.F.excBase_ValueError fY.ex fY.bd (by rfl) rfl rfl hR (aj bD aq))) bw)
   (aG (aV (aJ (aH (K:=K) rfl) (bJ (K:=K) rfl (pv 0) rfl) (pv 1) (fun _ _=>rfl))))), ?_⟩
  refine ⟨_,rfl,_,rfl,W.o,ak,W.dx,_,_,rfl,w.o,aK.cls,aK.jC,rfl,W.hl,_,rfl,.inl (aY.of w.hl),h,_,rfl,_,rfl, ?_⟩;have ll:(W.hd.map fun a=>V.ref a.h).length=S.hs.length:=by rw [List.length_map,w.len]
  by_cases hh:vh h (W.hd.map fun a=>V.ref a.h).length
  ·rw [decide_eq_true hh]
   refine cD ?_;obtain ⟨n,rfl⟩:=Int.eq_ofNat_of_zero_le hh.1;have nl:n<S.hs.length:=by have:=hh.2;rw [ll] at this;omega
   have es:S.hs[n]? = some S.hs[n]:=by simp [nl]
   obtain ⟨A,eA,_⟩:=w.hand es;exact ⟨_,rfl,W.o,ak,W.dx,_,_,rfl,w.o,aK.cls,aK.jC,rfl,_,rfl,_,_,_,_,rfl,rfl,aY.of w.hl,bW (by rw [List.getElem?_map,eA];rfl),k1 n A _ rfl eA es⟩
  ·rw [decide_eq_false hh]
   refine dM ?_;rw [ll] at hh;exact ⟨(by show 1<=sizeLine;decide),k2 hh⟩
def pP (CW CH:Addr) (K:PySem.W.Frag):Sp:=fun vs H Q _=>∃(i:Nat) (τ:Tg) (W:oE) (S:ji),vs=[.ref W.o]/\jD CW CH i τ H W S /\ ∀l H',H l=none->H' l=some (.lst (S.ns.map V.int))->Same H H'->Q (.ref l) H'
theorem Jj {ak au:Addr} {f:Addr} {fd:FuncData} (F:fj K "cells" "Works.cells" jL f fd) (aK:cM K ak) (Bt:mC mg):bU P w K mg base gF 1 f fd ["self"] (pP ak au K):=by
 refine F.ok tX (fun vs H Q E h=> ?_) (fun cdv A outer s H vs Q E hr h=> ?_)
 ·obtain ⟨i,τ,W,S,rfl,_⟩:=h
  rfl
 ·obtain ⟨i,τ,W,S,rfl,w,k⟩:=h
  refine ⟨_,(aG (aV (bT (bG (K:=K) rfl) (by rfl) Bt.dg cN (aj (bJ (K:=K) rfl (pv 0) rfl) aq)))), ?_⟩;exact ⟨_,rfl,W.o,ak,W.dx,_,_,rfl,w.o,aK.cls,aK.gU,rfl,W.nb,_,rfl,.inl (aY.of w.nb),fun l hl=>k l _ hl ao (aF hl)⟩
def jG (f:aO->List Int) (CW CH CN:Addr) (K:PySem.W.Frag):Sp:=fun vs H Q E=>∃(i:Nat) (τ:Tg) (W:oE) (S:ji) (h:Int),vs=[.ref W.o,.int h]/\jD CW CH i τ H W S /\
 (∀(k:Nat) (s:aO) (l:Addr) (H':Hp),h=k->S.hs[k]? = some s->H l=none->H' l=some (.lst ((f s).map V.int))->Same H H'->Q (.ref l) H')/\(¬vh h S.hs.length->E (.ref CN) none H)
theorem Jk {ak au aX:Addr} {f:Addr} {fd:FuncData} (F:fj K "boxes" "Works.boxes" jM f fd) (dh:gw P w K mg base 3 ak "hand_of" ["self","hand"] (jR ak au aX K)) (aK:cM K ak) (aL:dO K au) (Bt:mC mg):bU P w K mg base (oH P w) 4 f fd ["self","hand"] (jG aO.bs ak au aX K):=by
 refine F.M4 tY (fun vs H Q E h=> ?_) (fun cdv A outer s H vs Q E hr h hR=> ?_)
 ·obtain ⟨i,τ,W,S,h,rfl,_⟩:=h
  rfl
 ·obtain ⟨i,τ,W,S,h,rfl,w,k1,k2⟩:=h
  refine ⟨_,(aG (aV (bT (bG (K:=K) rfl) (by rfl) Bt.dg cN (aj (bJ (K:=K) rfl (iz dh aK.cls rfl hR (hr.mono (by decide)) (pv 0) (aj (pv 1) aq)) rfl) aq)))), ?_⟩;refine ⟨_,rfl,W.o,W.dx,_,rfl,w.o,rfl,_,rfl,i,τ,W,S,h,rfl,w,fun k A s e eA es=> ?_,k2⟩;have a:=w.hd k A s eA es;exact ⟨A.h,au,A.hx,_,_,rfl,a.c.h,aL.cls,aL.gD,rfl,A.b,_,rfl,.inl (aY.of a.c.b),fun l hl=>k1 k s l _ e es hl ao (aF hl)⟩
theorem Mt {ak au aX:Addr} {f:Addr} {fd:FuncData} (F:fj K "said" "Works.said" kO f fd) (dh:gw P w K mg base 3 ak "hand_of" ["self","hand"] (jR ak au aX K)) (aK:cM K ak) (aL:dO K au) (Bt:mC mg):bU P w K mg base (oH P w) 4 f fd ["self","hand"] (jG aO.sy ak au aX K):=by
 refine F.M4 vp (fun vs H Q E h=> ?_) (fun cdv A outer s H vs Q E hr h hR=> ?_)
 ·obtain ⟨i,τ,W,S,h,rfl,_⟩:=h
  rfl
 ·obtain ⟨i,τ,W,S,h,rfl,w,k1,k2⟩:=h
  refine ⟨_,(aG (aV (bT (bG (K:=K) rfl) (by rfl) Bt.dg cN (aj (bJ (K:=K) rfl (iz dh aK.cls rfl hR (hr.mono (by decide)) (pv 0) (aj (pv 1) aq)) rfl) aq)))), ?_⟩;refine ⟨_,rfl,W.o,W.dx,_,rfl,w.o,rfl,_,rfl,i,τ,W,S,h,rfl,w,fun k A s e eA es=> ?_,k2⟩;have a:=w.hd k A s eA es;exact ⟨A.h,au,A.hx,_,_,rfl,a.c.h,aL.cls,aL.jh,rfl,A.sy,_,rfl,.inl (aY.of a.c.y),fun l hl=>k1 k s l _ e es hl ao (aF hl)⟩
def zB (CW CH CN:Addr) (K:PySem.W.Frag):Sp:=fun vs H Q E=>∃(i:Nat) (τ:Tg) (W:oE) (S:ji) (h:Int),vs=[.ref W.o,.int h]/\jD CW CH i τ H W S/\(∀(k:Nat) (s:aO),h=k->S.hs[k]? = some s->Q (.str s.st) H)/\(¬vh h S.hs.length->E (.ref CN) none H)
theorem Rt {ak au aX:Addr} {f:Addr} {fd:FuncData} (F:fj K "how" "Works.how" mQ f fd) (dh:gw P w K mg base 3 ak "hand_of" ["self","hand"] (jR ak au aX K)) (aK:cM K ak) (aL:dO K au):bU P w K mg base (oH P w) 4 f fd ["self","hand"] (zB ak au aX K):=by
 refine F.M4 wY (fun vs H Q E h=> ?_) (fun cdv A outer s H vs Q E hr h hR=> ?_)
 ·obtain ⟨i,τ,W,S,h,rfl,_⟩:=h
  rfl
 ·obtain ⟨i,τ,W,S,h,rfl,w,k1,k2⟩:=h
  refine ⟨_,(aG (aV (bJ (K:=K) rfl (iz dh aK.cls rfl hR (hr.mono (by decide)) (pv 0) (aj (pv 1) aq)) rfl))), ?_⟩;refine ⟨_,rfl,W.o,W.dx,_,rfl,w.o,rfl,_,rfl,i,τ,W,S,h,rfl,w,fun k A s e eA es=> ?_,k2⟩;have a:=w.hd k A s eA es;exact ⟨A.h,au,A.hx,_,_,rfl,a.c.h,aL.cls,aL.ig,rfl,k1 k s e es⟩
def Al (S:ji):List Int:=(List.range S.hs.length).map fun k:Nat=>((S.ts.count (k:Int):Nat):Int)
def mK (CW CH:Addr) (K:PySem.W.Frag):Sp:=fun vs H Q _=>∃(i:Nat) (τ:Tg) (W:oE) (S:ji),vs=[.ref W.o]/\jD CW CH i τ H W S /\ ∀l H',H l=none->H' l=some (.lst ((Al S).map V.int))->Same H H'->Q (.ref l) H'
theorem Gg {ak au:Addr} {f:Addr} {fd:FuncData} (F:fj K "counts" "Works.counts" jk f fd) (aK:cM K ak) (Bt:mC mg):bU P w K mg base gF 1 f fd ["self"] (mK ak au K):=by
 refine F.ok rM (fun vs H Q E h=> ?_) (fun cdv A outer s H vs Q E hr h=> ?_)
 ·obtain ⟨i,τ,W,S,rfl,_⟩:=h
  rfl
 ·obtain ⟨i,τ,W,S,rfl,w,k⟩:=h
  refine ⟨_,(aG (aV (cI rfl (N:=["hand","self"]) (own:=["hand"]) (caps:=[0]) (bh.of (by kernel_rfl)) (dj (by rfl) Bt.fL (aj (bf (bC (K:=K) rfl) (by rfl) Bt.dU cU (aj (bJ (K:=K) rfl (pv 0) rfl) aq)) aq)) (fun _ _ _ _=>(bI (i:=0) (show List.Nodup (["hand","self"]:List Str) by decide +kernel) rfl (Or.inl rfl))) (fun _ _ _ _=>cB) (fun _ _ _ _=>(o8 (K:=K) rfl PySem.F.plainAttrs_list PySem.F.slot_list_count PySem.F.type_list_count (Gn (K:=K) rfl) (bJ (K:=K) rfl (pv 1) rfl) (aj (pv 0) aq)))))), ?_⟩;have ll:(W.hd.map fun a=>V.ref a.h).length=S.hs.length:=by rw [List.length_map,w.len]
  refine ⟨_,rfl,W.o,ak,W.dx,_,_,rfl,w.o,aK.cls,aK.jC,rfl,W.hl,_,rfl,.inl (aY.of w.hl),_,rfl,(by rw [ll];have:=w.hn;omega),(by rw [ll];have:=w.hn;omega),fun D hD=> ?_⟩;rw [ll,Int.toNat_natCast];refine j5 (fun j:Nat=>some (.int ((S.ts.count (j:Int):Nat):Int))) hD (by have:=w.hn;omega) (fun j H1 G F hj s1 kG kF=> ?_) (fun H1 s1 e1=> ?_)
  ·refine ⟨_,rfl,W.o,ak,W.dx,_,_,rfl,s1 _ _ w.o,aK.cls,aK.nO,rfl,.inl ⟨rfl,_,aY.of (s1 _ _ w.tn)⟩,_,rfl,_,S.ts,_,rfl,rfl,aY.of (s1 _ _ w.tn),kF _ H1 (Same.refl _) (by rw [Int.zero_add])⟩
  ·refine k D H1 hD ?_ s1
   rw [e1];unfold Al;rw [List.map_map,List.filterMap_eq_map'];rfl
def wO (CW CH:Addr) (K:PySem.W.Frag):Sp:=fun vs H Q _=>∃(i:Nat) (τ:Tg) (W:oE) (S:ji),vs=[.ref W.o]/\jD CW CH i τ H W S/\Q (.int S.ts.length) H
theorem Ml {ak au:Addr} {f:Addr} {fd:FuncData} (F:fj K "__len__" "Works.__len__" iK f fd) (aK:cM K ak) (Bt:mC mg):bU P w K mg base gF 1 f fd ["self"] (wO ak au K):=by
 refine F.ok qG (fun vs H Q E h=> ?_) (fun cdv A outer s H vs Q E hr h=> ?_)
 ·obtain ⟨i,τ,W,S,rfl,_⟩:=h
  rfl
 ·obtain ⟨i,τ,W,S,rfl,w,k⟩:=h
  refine ⟨_,(aG (aV (bf (bC (K:=K) rfl) (by rfl) Bt.dU cU (aj (bJ (K:=K) rfl (pv 0) rfl) aq)))), ?_⟩;refine ⟨_,rfl,W.o,ak,W.dx,_,_,rfl,w.o,aK.cls,aK.nO,rfl,W.tn,_,rfl,.inl (aY.of w.tn), ?_⟩;rw [List.length_map];exact k
structure lX (C:List (List Nat)) (τ:Tg) (H:Hp) (τ':Tg) (H':Hp):Prop where
 keep:∀x u,H x=some u->τ x∉C->H' x=some u/\τ' x=τ x
 tup:∀x xs,H x=some (.tup xs)->H' x=some (.tup xs)
theorem lX.of_same {C:List (List Nat)} {τ:Tg} {H H':Hp} (k:Same H H'):lX C τ H τ H':=⟨fun x u e _=>⟨k _ _ e,rfl⟩,k.tups⟩
theorem lX.claim {C:List (List Nat)} {τ:Tg} {H H':Hp} {p:Addr} {t:List Nat} (k:Same H H') (hp:H p=none):lX C τ H (aM τ p t) H':=⟨fun x u e _=>⟨k _ _ e,aP (aC e hp)⟩,k.tups⟩
theorem lX.set {C:List (List Nat)} {τ:Tg} {H:Hp} {x:Addr} {o u:HO} (ht:τ x∈C) (hx:H x=some o) (hn:∀xs,o ≠ .tup xs):lX C τ H τ (upd H x u):=
 ⟨fun y v e n=>⟨by rw [aD (fun z:y=x=>n (by rw [z];exact ht))];exact e,rfl⟩,fun y xs e=>by rw [aD (cG e hx fun z=>hn xs z.symm)];exact e⟩
theorem lX.trans {C:List (List Nat)} {τ τ1 τ2:Tg} {H H1 H2:Hp} (a:lX C τ H τ1 H1) (b:lX C τ1 H1 τ2 H2):lX C τ H τ2 H2:=⟨fun x u e n=>by
 obtain ⟨e1,t1⟩:=a.keep x u e n;obtain ⟨e2,t2⟩:=b.keep x u e1 (by rw [t1];exact n);exact ⟨e2,by rw [t2,t1]⟩,fun x xs e=>b.tup _ _ (a.tup _ _ e)⟩
theorem rT.Jt {C:List (List Nat)} {CH:Addr} {i k m:Nat} {τ τ':Tg} {H H':Hp} {A:mD} {s:aO} (h:rT CH i k m τ H A s) (q:lX C τ H τ' H') (h0:[0]∉C) (h4:[i,4,k]∉C) (h5:[i,5,k]∉C) (h6:[i,6,k]∉C):rT CH i k m τ' H' A s:=by
 obtain ⟨⟨c1,c2,c3,c4,c5⟩,r,tr,th,tb,ty⟩:=h;have e1:=q.keep _ _ c1 (by rw [th];exact h4);have e2:=q.keep _ _ c2 (by rw [tb];exact h5);have e3:=q.keep _ _ c3 (by rw [ty];exact h6);have rr:=r;obtain ⟨ts,hr,_⟩:=rr;have e4:=q.keep _ _ hr (by rw [tr];exact h0);exact ⟨⟨e1.1,e2.1,e3.1,c4,c5⟩,r.keep (fun o e=>(q.keep _ _ e (by rw [tr];exact h0)).1) q.tup,e4.2.trans tr,e1.2.trans th,e2.2.trans tb,e3.2.trans ty⟩
theorem fV {C:List (List Nat)} {τ τ':Tg} {H H':Hp} {r:Addr} {m:Nat} {rws:List Rw} (h:τ r=[0]/\cW H r m rws) (q:lX C τ H τ' H') (h0:[0]∉C):τ' r=[0]/\cW H' r m rws:=by
 obtain ⟨t,R⟩:=h;have rr:=R;obtain ⟨ts,hr,_⟩:=rr;have e4:=q.keep _ _ hr (by rw [t];exact h0);exact ⟨e4.2.trans t,R.keep (fun o e=>(q.keep _ _ e (by rw [t];exact h0)).1) q.tup⟩
def tH (CW CH CN CO:Addr) (K:PySem.W.Frag):Sp:=fun vs H Q E=>∃(i:Nat) (τ:Tg) (W:oE) (S:ji) (h:Int),vs=[.ref W.o,.int h]/\jD CW CH i τ H W S/\S.ts.length<=10000 /\
 (∀(k:Nat) (s:aO) (r:Rw) (t:Addr) (H':Hp),h=k->S.hs[k]? = some s->s.st = "waits" -> s.rws[s.pos]? = some r->touch r=true->H t=none->H' t=some (.tup (sY S.ns s.bs r))->jD CW CH i τ H' W (dY S k)->lW i τ H H'->Q (.ref t) H') /\
 (¬vh h S.hs.length->E (.ref CN) none H)/\(∀(k:Nat) (s:aO),h=k->S.hs[k]? = some s->s.st ≠ "waits" -> E (.ref CO) none H)
theorem zy {S:ji} {k:Nat} {s:aO} {r:Rw} (es:S.hs[k]? = some s) (er:s.rws[s.pos]? = some r):dY S k={S with ns:=iU S.ns s.bs r,hs:=S.hs.set k (jx S.ns s r),ts:=S.ts++[(k:Int)]}:=by
 unfold dY;simp only [es,er]
theorem CG (ns bs:List Int) (r:Rw):(iU ns bs r).length=ns.length:=by cases r<;>simp [iU]
theorem jD.turned {CW CH:Addr} {i:Nat} {τ:Tg} {H H':Hp} {W:oE} {S:ji} {k:Nat} {A:mD} {s:aO} {r:Rw} (w:jD CW CH i τ H W S) (eA:W.hd[k]? = some A) (es:S.hs[k]? = some s) (er:s.rws[s.pos]? = some r)
 (kp:∀x u,H x=some u->x≠W.nb->x≠A.b->x≠A.h->x≠A.sy->x≠W.tn->H' x=some u) (c:lH CH H' A (jx S.ns s r)) (hnb:H' W.nb=some (.lst ((iU S.ns s.bs r).map V.int))) (htn:H' W.tn=some (.lst ((S.ts++[(k:Int)]).map V.int))):jD CW CH i τ H' W (dY S k)/\lW i τ H H':=by
 have a:=w.hd k A s eA es;have tup:∀x xs,H x=some (.tup xs)->H' x=some (.tup xs):=fun x xs e=>kp _ _ e (cG e w.nb (by intro z;cases z)) (cG e a.c.b (by intro z;cases z)) (cG e a.c.h (by intro z;cases z)) (cG e a.c.y (by intro z;cases z)) (cG e w.tn (by intro z;cases z))
 have st:lW i τ H H':=by
  refine ⟨fun x u e n=> ?_,tup,fun x e=> ?_⟩
  ·have ne:∀(y:Addr) (t:List Nat),τ y=i::t->x≠y:=fun y t ty z=>n (by rw [z,ty];rfl)
   exact kp _ _ e (ne _ _ w.tb) (ne _ _ a.tb) (ne _ _ a.th) (ne _ _ a.ty) (ne _ _ w.tt)
  ·cases q:H x with
   | none=>rfl
   | some u=>
     have no:∀y o,H' y=some o->x≠y:=fun y o h z=>by rw [z,h] at e;cases e
     rw [kp _ _ q (no _ _ hnb) (no _ _ c.b) (no _ _ c.h) (no _ _ c.y) (no _ _ htn)] at e;cases e
 refine ⟨?_,st⟩
 have q:lX [[i,1],[i,5,k],[i,4,k],[i,6,k],[i,3]] τ H τ H':=by
  refine ⟨fun x u e n=>⟨?_,rfl⟩,tup⟩;have ne:∀(y:Addr) (t:List Nat),τ y=t->t∈[[i,1],[i,5,k],[i,4,k],[i,6,k],[i,3]]->x≠y:=fun y t ty ht z=>n (by rw [z,ty];exact ht);exact kp _ _ e (ne _ _ w.tb (by simp)) (ne _ _ a.tb (by simp)) (ne _ _ a.th (by simp)) (ne _ _ a.ty (by simp)) (ne _ _ w.tt (by simp))
 have i0:=w.i0;have z0:[0]∉[[i,1],[i,5,k],[i,4,k],[i,6,k],[i,3]]:=by simp
 rw [zy es er];have hk:k<S.hs.length:=(List.getElem?_eq_some_iff.mp es).1
 have get:∀(j:Nat) (s':aO),(S.hs.set k (jx S.ns s r))[j]? = some s'->(j=k/\s'=jx S.ns s r)\/(j≠k/\S.hs[j]? = some s'):=fun j s' e=>by
  rw [List.getElem?_set] at e
  by_cases z:k=j
  ·subst z
   simp [hk] at e;exact .inl ⟨rfl,e.symm⟩
  ·rw [if_neg z] at e
   exact .inr ⟨fun y=>z y.symm,e⟩
 have gr:(jx S.ns s r).rws=s.rws:=k_ _ _;have mem:∀s'∈S.hs.set k (jx S.ns s r),s'=jx S.ns s r\/s'∈S.hs:=fun s' m=>(List.mem_or_eq_of_mem_set m).symm;refine ⟨st.un w.un,i0,(q.keep _ _ w.o (by rw [w.to];simp)).1,tup _ _ w.pg,(q.keep _ _ w.L (by rw [w.tL];exact z0)).1,hnb,(q.keep _ _ w.hl (by rw [w.tl];simp)).1,htn,w.to,w.tb,w.tl,w.tt,w.tL, ?_, ?_, ?_, ?_, ?_, ?_, ?_, ?_⟩
 ·simp [w.rl]
 ·intro j r' s' h1 h2
  rcases get j s' h2 with ⟨rfl,rfl⟩|⟨_,h2⟩
  ·rw [gr]
   exact fV (w.rs j r' s h1 es) q z0
  ·exact fV (w.rs j r' s' h1 h2) q z0
 ·simp [w.len]
 ·intro j A' s' h1 h2
  rcases get j s' h2 with ⟨rfl,rfl⟩|⟨nj,h2⟩
  ·rw [eA] at h1
   cases h1;refine ⟨c, ?_,a.tr,a.th,a.tb,a.ty⟩;rw [gr];exact (fV ⟨a.tr,a.r⟩ q z0).2
  ·exact (w.hd j A' s' h1 h2).Jt q z0 (by simp [nj]) (by simp [nj]) (by simp [nj])
 ·intro s' m
  rcases mem s' m with rfl|m
  ·exact Cp _ _
  ·exact w.ok s' m
 ·intro s' m
  simp only [List.length_append,List.length_singleton];rcases mem s' m with rfl|m
  ·have:=Cm 60 {s with pos:=s.pos+1,bs:=uT S.ns s.bs r}
   have:=w.sl s (List.mem_of_getElem? es);show (led 60 _).sy.length<=_;simp only at *;omega
  ·have:=w.sl s' m
   omega
 ·show (iU S.ns s.bs r).length=S.m
  rw [CG,w.nl]
 ·simp [w.hn]
theorem Mr {ak au aX cR:Addr} {f:Addr} {fd:FuncData} (F:fj K "turn" "Works.turn" kJ f fd) (dh:gw P w K mg base 3 ak "hand_of" ["self","hand"] (jR ak au aX K)) (rm:MethAt P w K mg base 4 ak "touch_by" ["self","one"] (qy ak au K)) (jz:MethAt P w K mg base 6 au "lead_on" ["self"] (wU au K)) (aK:cM K ak) (aL:dO K au) (jQ:Xr K mg cR "Over"):bU P w K mg base (oH P w) 7 f fd ["self","hand"] (tH ak au aX cR K):=by
 refine F.M4 jH (fun vs H Q E h=> ?_) (fun cdv A outer s H vs Q E hr h hR=> ?_)
 ·obtain ⟨i,τ,W,S,h,rfl,_⟩:=h
  rfl
 ·obtain ⟨i,τ,W,S,h,rfl,w,tl,k1,k2,k3⟩:=h
  refine ⟨_,(aB (aW (i:=2) jH.nd rfl (Or.inl rfl) (iz dh aK.cls rfl hR (hr.mono (by decide)) (pv 0) (aj (pv 1) aq)))
   (aB (bL (aQ lQ (bJ (K:=K) rfl (pv 2) rfl) bD (aR _)) (aG (pY PySem.F.excBase_ValueError jQ.ex jQ.bd (by rfl) rfl rfl hR (aj bD aq))) bw)
   (aB (aW (i:=3) jH.nd rfl (Or.inl rfl) (cO rm aK.cls (hr.mono (by decide)) (pv 0) (aj (pv 2) aq)))
   (aB (uq (K:=K) rfl (pv 2) aA Cu)
   (aB (cH (cY jz aL.cls (hr.mono (by decide)) (pv 2)))
   (aB (cH (dz (K:=K) rfl (bJ (K:=K) rfl (pv 0) rfl) (aj (pv 1) aq)))
   (aG (aV (pv 3))))))))), ?_⟩
  refine ⟨_,rfl,W.o,W.dx,_,rfl,w.o,rfl,_,rfl,i,τ,W,S,h,rfl,w,fun k A s e eA es=> ?_,k2⟩;have a:=w.hd k A s eA es;refine ⟨_,rfl,A.h,au,A.hx,_,_,rfl,a.c.h,aL.cls,aL.ig,rfl,rfl,_,rfl, ?_⟩
  by_cases wt:s.st = "waits"
  rotate_left
  ·refine bK (fun _=> ?_) (fun z=>absurd (by simp [wt]) z)
   exact ⟨(by show 1<=sizeLine;decide),k3 k s e es wt⟩
  refine m5 (by rw [wt]) ?_;obtain ⟨r,er,tr⟩:=w.ok s (List.mem_of_getElem? es) wt;have Ce:W.nb≠A.b:=bZ w.tb a.tb (by simp);have Jr:W.nb≠A.sy:=bZ w.tb a.ty (by simp);refine ⟨_,rfl,W.o,W.dx,_,rfl,w.o,rfl,_,rfl,W.o,W.dx,W.pg,W.nb,W.hl,W.tn,A,s,S.m,S.ns,r,rfl,w.o,w.nb,w.nl,a.c,a.r,er,tr,Ce,Jr,fun t H1 tf t1 c1 nb1 p1=> ?_⟩;refine ⟨_,rfl,A.h,au,A.hx,_,_,rfl,c1.h,aL.cls,aL.pZ,rfl,_,_,rfl,rfl,A.hx,_,c1.h,(by show 5<1000;decide), ?_⟩;rw [uo];have c2:=c1.gA (s.pos+1) s.st;have p2:KH A H1 (upd H1 A.h (.ins au A.hx (hF A.r ((s.pos+1:Nat):Int) A.b A.sy s.st))):=KH.gA;have t2:=c1.tup p2 _ _ t1;dsimp only;rw [show ((s.pos:Nat):Int)+1=((s.pos+1:Nat):Int) by omega];generalize (upd H1 A.h (.ins au A.hx (hF A.r ((s.pos+1:Nat):Int) A.b A.sy s.st)))=H2 at c2 p2 t2 ⊢;have RB:A.r≠A.b:=bZ a.tr a.tb (by intro z;cases z);have Ut:A.r≠A.sy:=bZ a.tr a.ty (by intro z;cases z);have Uu:A.r≠A.h:=bZ a.tr a.th (by intro z;cases z);have nrn:A.r≠W.nb:=bZ a.tr w.tb (by intro z;cases z);have Y5:∀x xs,H x=some (.tup xs)->H2 x=some (.tup xs):=fun x xs q=>c1.tup p2 _ _ (p1 _ _ q (cG q w.nb (by intro z;cases z)) (cG q a.c.b (by intro z;cases z)));have R2:cW H2 A.r S.m s.rws:=a.r.keep (fun o q=>p2 _ _ (p1 _ _ q nrn RB) Uu RB Ut) Y5;have sl:=w.sl s (List.mem_of_getElem? es);refine ⟨_,rfl,A.h,A.hx,_,rfl,c2.h,rfl,A,_,S.m,rfl,c2,R2,RB,Ut,by show s.sy.length<_;omega,fun H3 c3 p3=> ?_⟩;have k13:∀x u,H x=some u->x≠W.nb->x≠A.b->x≠A.h->x≠A.sy->H3 x=some u:=fun x u q n1 n2 n3 n4=>p3 _ _ (p2 _ _ (p1 _ _ q n1 n2) n3 n2 n4) n3 n2 n4;have o3:=k13 _ _ w.o (bZ w.to w.tb (by simp)) (bZ w.to a.tb (by simp)) (bZ w.to a.th (by simp)) (bZ w.to a.ty (by simp));have Y8:=k13 _ _ w.tn (bZ w.tt w.tb (by simp)) (bZ w.tt a.tb (by simp)) (bZ w.tt a.th (by simp)) (bZ w.tt a.ty (by simp));have nb3:=p3 _ _ (p2 _ _ nb1 (bZ w.tb a.th (by simp)) Ce Jr) (bZ w.tb a.th (by simp)) Ce Jr;have t3:=c2.tup p3 _ _ t2;refine ⟨_,rfl,W.o,ak,W.dx,_,_,rfl,o3,aK.cls,aK.nO,rfl,.inl ⟨rfl,_,aY.of Y8⟩,_,rfl,_,_,_,rfl,rfl,Y8,(by rw [List.length_map,sizeLine_eq];omega), ?_⟩;have k14:∀x u,H x=some u->x≠W.nb->x≠A.b->x≠A.h->x≠A.sy->x≠W.tn->(upd H3 W.tn (.lst (S.ts.map V.int++[V.int h]))) x=some u:=fun x u q n1 n2 n3 n4 n5=>by rw [aD n5];exact k13 x u q n1 n2 n3 n4
  have nbt:W.nb≠W.tn:=bZ w.tb w.tt (by simp);have c4:lH au (upd H3 W.tn (.lst (S.ts.map V.int++[V.int h]))) A (jx S.ns s r):=⟨by rw [aD (bZ a.th w.tt (by simp))];exact c3.h,by rw [aD (bZ a.tb w.tt (by simp))];exact c3.b,by rw [aD (bZ a.ty w.tt (by simp))];exact c3.y,c3.pL,c3.bl⟩;obtain ⟨w4,st⟩:=w.turned (H':=upd H3 W.tn (.lst (S.ts.map V.int++[V.int h]))) eA es er k14 c4 (by rw [aD nbt];exact nb3) (by rw [ao,List.map_append,e];rfl);refine ⟨_,rfl,k1 k s r t _ e es wt er tr tf ?_ w4 st⟩;rw [aD (cG t3 Y8 (by intro z;cases z))];exact t3
structure Bs (H0:Hp) (τ0:Tg) (o:Addr) (τ:Tg) (H:Hp):Prop where
 un:j8 τ H
 kp:Kp o H0 H
 tg:∀x u,H0 x=some u->x≠o->τ x=τ0 x
theorem Bs.same {H0 H H':Hp} {τ0 τ:Tg} {o:Addr} (b:Bs H0 τ0 o τ H) (k:Same H H'):Bs H0 τ0 o τ H':=⟨b.un.same k,b.kp.trans (Kp.of_same k),b.tg⟩
theorem Bs.claim {H0 H H':Hp} {τ0 τ:Tg} {o p:Addr} {t:List Nat} (b:Bs H0 τ0 o τ H) (k:Same H H') (hp:H p=none) (hp':∃u,H' p=some u):Bs H0 τ0 o (aM τ p t) H':=
 ⟨b.un.claim k hp',b.kp.trans (Kp.of_same k),fun x u e n=>by rw [aP (aC (b.kp _ _ e n) hp)];exact b.tg x u e n⟩
theorem Bs.set {H0 H:Hp} {τ0 τ:Tg} {o x:Addr} {v:HO} (b:Bs H0 τ0 o τ H) (hx:x=o\/H0 x=none):Bs H0 τ0 o τ (upd H x v):=
 ⟨b.un.dom (fun y e=>by
   by_cases z:y=x
   ·rw [z,ao] at e;cases e
   ·rw [aD z] at e;exact e),fun y u e n=>by
   have z:y≠x:=by
    rcases hx with rfl|hx
    ·exact n
    ·exact aC e hx
   rw [aD z];exact b.kp _ _ e n,b.tg⟩
theorem Bs.fresh {H0 H:Hp} {τ0 τ:Tg} {o p:Addr} (b:Bs H0 τ0 o τ H) (hp:H p=none) (n:p≠o):H0 p=none:=p7 b.kp n hp
def gG (CW CH CN:Addr) (K:PySem.W.Frag):Sp:=fun vs H Q E=>∃(i:Nat) (τ:Tg) (o dx p L0:Addr) (Lr:List Addr) (m:Nat) (cv:V) (ns:List Int) (rws:List (List Rw)),vs=[.ref o,.ref p,cv]/\H o=some (.ins CW dx [])/\H p=some (.tup [.int m,.ref L0])/\H L0=some (.lst (Lr.map V.ref))/\Lr.length=rws.length /\
 (∀(k:Nat) (r:Addr) (x:List Rw),Lr[k]? = some r->rws[k]? = some x->cW H r m x)/\rws.length<=100/\m<=100/\j8 τ H/\i≠0/\ns.length<=100/\((cv = .non/\ns=List.replicate m 0) \/ ∃cl,cv = .ref cl/\H cl=some (.lst (ns.map V.int))) /\
 (pB m ns -> ∀(τ':Tg) (W:oE) (H':Hp),W.o=o->jD CW CH i τ' H' W (lE m ns rws)->(∀x u,H x=some u->x≠o->τ' x=τ x)->Kp o H H'->Q .non H')/\(¬pB m ns -> ∀H',Kp o H H'->E (.ref CN) none H')
theorem fW {α:Type} {l:List α} {x y:α} {k:Nat} (h:(l++[x])[k]? = some y):l[k]? = some y\/(k=l.length/\y=x):=by
 by_cases e:k<l.length
 ·rw [List.getElem?_append_left e] at h
  exact .inl h
 ·rw [List.getElem?_append_right (by omega)] at h
  have lt:=(List.getElem?_eq_some_iff.mp h).1;simp at lt;have:k=l.length:=by omega
  subst this;simp at h;exact .inr ⟨rfl,h.symm⟩
theorem Jc {ak au:Addr} {f:Addr} {fd:FuncData} (F:OD K "__init__" "Works.__init__" bY [.none] f fd) (aK:cM K ak) (aL:dO K au) {bN:Addr} (rW:Fb P w K mg base 3 "check_numbers" ["cells","count"] (oK bN K)) (CT:lF P w K mg base 1 au "Hand" ["self","rows"] [] (rZ au K)) (jz:MethAt P w K mg base 6 au "lead_on" ["self"] (wU au K)) (Bt:mC mg):bU P w K mg base (oH P w) 7 f fd ["self","program","cells"] (gG ak au bN K):=by
 refine F.M4 jJ (fun vs H Q E h=> ?_) (fun cdv A outer s H vs Q E hr h hR=> ?_)
 ·obtain ⟨i,τ,o,dx,p,L0,Lr,m,cv,ns,rws,rfl,_⟩:=h
  rfl
 ·obtain ⟨i,τ,o,dx,p,L0,Lr,m,cv,ns,rws,rfl,ho,hp,hL,lr,Ww,rl,ml,un,i0,nl,hcv,k1,k2⟩:=h
  refine ⟨_,(aB (bL (aQ o_ (pv 2) eF (aR _)) (aG (pX (i:=2) rfl jJ.nd rfl (Or.inl rfl) (N:=["cell"]) (own:=["cell"]) (caps:=[]) (bh.of (by kernel_rfl)) (dj (by rfl) Bt.fL (aj (aJ (aU (K:=K) rfl) (pv 1) aA (fun _ _=>rfl)) aq)) (fun _ _ _ _=>(bI (i:=0) (show List.Nodup (["cell"]:List Str) by decide +kernel) rfl (Or.inl rfl))) (fun _ _ _ _=>cB) (fun _ _ _ _=>aA))) bw)
   (aB (cH (IV rW rfl hR (hr.mono (by decide)) (by rfl) (aj (pv 2) (aj (aJ (aU (K:=K) rfl) (pv 1) aA (fun _ _=>rfl)) aq))))
   (aB (dD (K:=K) rfl (pv 0) (cZ (aj (aJ (aU (K:=K) rfl) (pv 1) aA (fun _ _=>rfl)) (aj (cI rfl (N:=["rows"]) (own:=["rows"]) (caps:=[]) (bh.of (by kernel_rfl)) (cj (K:=K) rfl (aJ (aU (K:=K) rfl) (pv 1) aA (fun _ _=>rfl))) (fun _ _ _ _=>(bI (i:=0) (show List.Nodup (["rows"]:List Str) by decide +kernel) rfl (Or.inl rfl))) (fun _ _ _ _=>cB) (fun _ _ _ _=>(bT (bG (K:=K) rfl) (by rfl) Bt.dg cN (aj (pv 0) aq)))) aq))) rfl)
   (aB (dD (K:=K) rfl (pv 0) (bT (bG (K:=K) rfl) (by rfl) Bt.dg cN (aj (pv 2) aq)) rfl)
   (aB (dD (K:=K) rfl (pv 0) (cI rfl (N:=["rows"]) (own:=["rows"]) (caps:=[]) (bh.of (by kernel_rfl)) (cj (K:=K) rfl (aJ (aU (K:=K) rfl) (bJ (K:=K) rfl (pv 0) rfl) aA (fun _ _=>rfl))) (fun _ _ _ _=>(bI (i:=0) (show List.Nodup (["rows"]:List Str) by decide +kernel) rfl (Or.inl rfl))) (fun _ _ _ _=>cB) (fun _ _ _ _=>(jY CT (hr.mono (by decide)) (by rfl) (aj (pv 0) aq)))) rfl)
   (aB (dD (K:=K) rfl (pv 0) (cC aq) rfl)
   (aG (jO PassesOwn.leaving rfl (cj (K:=K) rfl (bJ (K:=K) rfl (pv 0) rfl)) (bI (i:=3) jJ.nd rfl (Or.inl rfl))
   (aG (cH (cY jz aL.cls (hr.mono (by decide)) (pv 3)))))))))))), ?_⟩
  refine g_ (fun σ H1=>∃cl:Addr,σ=[some (.ref o),some (.ref p),some (.ref cl),none]/\H1 cl=some (.lst (ns.map V.int))/\Same H H1) (fun D' hD' rt'=> ?_) ?_
  ·refine ⟨_,rfl,rfl,_,rfl, ?_⟩
   rcases hcv with ⟨rfl,rfl⟩|⟨cl,rfl,hcl⟩
   ·refine dM ?_
    refine ⟨_,rfl,_,_,_,_,rfl,rfl,cu.of hp,rfl,_,rfl,by omega,by omega,fun D hD=> ?_⟩;rw [Int.toNat_natCast];refine j5 (fun _=>some (.int 0)) hD (by omega) (fun i H1 G F hi s1 kG kF=>kF _ H1 (Same.refl _) rfl) (fun H1 s1 e1=> ?_);rw [Ek] at e1;exact hD' _ _ ⟨D,rfl,e1,s1⟩
   ·refine cD ?_
    exact hD' _ _ ⟨cl,rfl,hcl,Same.refl _⟩
  rintro σ H1 ⟨cl,rfl,hcl,s1⟩;have hp1:=s1 _ _ hp;refine pQ (fun R g=> ?_);refine ⟨_,rfl,_,rfl,_,_,_,_,rfl,rfl,cu.of hp1,rfl,cl,m,ns,rfl,hcl,nl,fun good H2 s2=> ?_,fun bad H2 s2=>k2 bad H2 (Kp.of_same (s1.trans s2))⟩;refine g _ _ ?_;have Bd:=s1.trans s2;have ho2:=Bd _ _ ho;have hp2:=Bd _ _ hp;have hL2:=Bd _ _ hL;have WR:=s2 _ _ hcl;have Sx:∀(k:Nat) (r:Addr) (x:List Rw),Lr[k]? = some r->rws[k]? = some x->cW H2 r m x:=fun k r x a b=>(Ww k r x a b).same Bd;have B2:Bs H τ o (aM τ o [i,0]) H2:=⟨fun x e=>by rw [aP (aC ho2 e).symm];exact un.same Bd x e,Kp.of_same Bd,fun x u e n=>aP n⟩;have to2:aM τ o [i,0] o=[i,0]:=bB;generalize aM τ o [i,0]=τ2 at B2 to2;refine pQ (fun R g=> ?_);refine ⟨_,rfl,_,_,_,_,rfl,rfl,cu.of hp2,rfl,_,rfl,_,_,_,_,rfl,rfl,cu.of hp2,rfl,L0,rfl,⟨_,aY.of hL2⟩,fun L WT=> ?_⟩;have sL:=aF (o:=HO.lst []) WT;have nLo:L≠o:=(aC ho2 WT).symm;refine eE (K:=K) (xs:=Lr.map V.ref) (fun j σ Hc=>∃(v:Option V) (τc:Tg) (rs:List Addr),σ=[v]/\rs.length=j/\Same H2 Hc/\Hc L=some (.lst (rs.map V.ref))/\Bs H τ o τc Hc/\τc o=[i,0]/\τc L=[0] /\ ∀(k:Nat) (r:Addr) (x:List Rw),rs[k]? = some r->rws[k]? = some x->r≠L/\τc r=[0]/\cW Hc r m x) ?_ ?_ ?_ ?_
  ·exact ⟨none,aM τ2 L [0],[],rfl,rfl,sL,ao,B2.claim sL WT ⟨_,ao⟩,by rw [aP nLo.symm];exact to2,bB,fun k r x h=>by simp at h⟩
  ·rintro j σ Hc hj ⟨v,τc,rs,rfl,_,sc,_⟩
   exact aY.of (sc _ _ hL2)
  ·rintro j x σ Hc hj ⟨v,τc,rs,rfl,lj,sc,hLc,Bc,toc,tLc,hc⟩
   rw [List.getElem?_map] at hj
   obtain ⟨r0,Qk,rfl⟩:∃r0,Lr[j]? = some r0/\x = .ref r0:=by
    cases e:Lr[j]? with
    | none=>rw [e] at hj;cases hj
    | some r0=>rw [e] at hj;exact ⟨r0,rfl,(Option.some.inj hj).symm⟩
   have jl:j<rws.length:=by rw [←lr];exact (List.getElem?_eq_some_iff.mp Qk).1
   have ex:rws[j]? = some rws[j]:=by simp [jl]
   have rr:=Sx j r0 _ Qk ex;obtain ⟨ts,hts,vC,rq,rl'⟩:=rr;dsimp only [bV,oJ];rw [if_pos rfl];refine ⟨_,rfl,r0,_,rfl,.inl (aY.of (sc _ _ hts)),fun r hrn=> ?_⟩;have sr:=aF (o:=HO.lst ts) hrn;have nrL:r≠L:=(aC hLc hrn).symm;have nro:r≠o:=(aC (sc _ _ ho2) hrn).symm;have hLf:H L=none:=Bd.free WT;refine ⟨rs.map V.ref,sr _ _ hLc,(by rw [List.length_map,sizeLine_eq];omega),some (.ref r0),aM τc r [0],rs++[r],rfl,by simp [lj],fun y u e=> ?_,by rw [ao];simp,(Bc.claim sr hrn ⟨_,ao⟩).set (.inr hLf), ?_, ?_, ?_⟩
   ·rw [aD (aC e WT)]
    exact sr _ _ (sc _ _ e)
   ·rw [aP nro.symm];exact toc
   ·rw [aP nrL.symm];exact tLc
   ·intro k r' x' h1 h2
    have tups:∀y ys,Hc y=some (.tup ys)->(upd (upd Hc r (.lst ts)) L (.lst (rs.map V.ref++[V.ref r]))) y=some (.tup ys):=fun y ys e=>by
     rw [aD (cG e hLc (by intro z;cases z))];exact sr _ _ e
    rcases fW h1 with h1|⟨e1,rfl⟩
    ·obtain ⟨n1,t1,R1⟩:=hc k r' x' h1 h2
     have rr:=R1;obtain ⟨ts',hr',_⟩:=rr;have n2:r'≠r:=aC hr' hrn;refine ⟨n1,by rw [aP n2];exact t1,R1.keep (fun u e=> ?_) tups⟩;rw [aD n1];exact sr _ _ e
    ·rw [e1,lj,ex] at h2
     cases h2;refine ⟨nrL,bB,ts,by rw [aD nrL,ao], ?_,rq,rl'⟩;exact vC.keep (fun y ys e=>tups _ _ (sc _ _ e)) _ (p8 _)
  rintro σ H3 ⟨v,τ3,rs,rfl,lrs,PB,hL3,B3,to3,Ze,hr3⟩;rw [List.length_map] at lrs;have ho3:=PB _ _ ho2;refine ⟨(by show 2<=sizeLine;decide),fun pg hpg=> ?_⟩;have Vt:=aF (o:=HO.tup [V.int m,V.ref L]) hpg;refine ⟨_,rfl,o,ak,dx,_,rfl,Vt _ _ ho3,aK.cls,aK.nP,(by show 0<1000;decide), ?_⟩;refine g _ _ ?_;have aax:pg≠o:=(aC ho3 hpg).symm;have Yx:(upd (upd H3 pg (.tup [V.int m,V.ref L])) o (.ins ak dx (cX "program" (.ref pg) []))) o=some (.ins ak dx [("program",.ref pg)]):=ao;have Wy:(upd (upd H3 pg (.tup [V.int m,V.ref L])) o (.ins ak dx (cX "program" (.ref pg) []))) pg=some (.tup [V.int m,V.ref L]):=by rw [aD aax,ao]
  have q4:lX [[i,0]] τ3 H3 τ3 (upd (upd H3 pg (.tup [V.int m,V.ref L])) o (.ins ak dx (cX "program" (.ref pg) []))):=(lX.of_same Vt).trans (lX.set (by rw [to3];simp) (Vt _ _ ho3) (by intro xs z;cases z));have B4:Bs H τ o τ3 (upd (upd H3 pg (.tup [V.int m,V.ref L])) o (.ins ak dx (cX "program" (.ref pg) []))):=(B3.same Vt).set (.inl rfl);have Ec:Kp o H3 (upd (upd H3 pg (.tup [V.int m,V.ref L])) o (.ins ak dx (cX "program" (.ref pg) []))):=(Kp.of_same Vt).trans Kp.set;generalize (upd (upd H3 pg (.tup [V.int m,V.ref L])) o (.ins ak dx (cX "program" (.ref pg) [])))=H4 at Yx Wy q4 B4 Ec ⊢;have hL4:=(q4.keep _ _ hL3 (by rw [Ze];simp)).1;have hr4:∀(k:Nat) (r:Addr) (x:List Rw),rs[k]? = some r->rws[k]? = some x->τ3 r=[0]/\cW H4 r m x:=fun k r x h1 h2=>fV ⟨(hr3 k r x h1 h2).2.1,(hr3 k r x h1 h2).2.2⟩ q4 (by simp);have aaF:cl≠o:=cG WR ho2 (by intro z;cases z);have aa3:=Ec _ _ (PB _ _ WR) aaF;refine pQ (fun R g=> ?_);refine ⟨_,rfl,cl,_,rfl,.inl (aY.of aa3),fun nb hnb=> ?_⟩;have X_:=aF (o:=HO.lst (ns.map V.int)) hnb;refine ⟨_,rfl,o,ak,dx,_,rfl,X_ _ _ Yx,aK.cls,aK.gU,(by show 1<1000;decide), ?_⟩;refine g _ _ ?_;have RG:nb≠o:=(aC Yx hnb).symm;have UL:(upd (upd H4 nb (.lst (ns.map V.int))) o (.ins ak dx (cX "numbers" (.ref nb) [("program",.ref pg)]))) o=some (.ins ak dx [("program",.ref pg),("numbers",.ref nb)]):=ao;have WL:(upd (upd H4 nb (.lst (ns.map V.int))) o (.ins ak dx (cX "numbers" (.ref nb) [("program",.ref pg)]))) nb=some (.lst (ns.map V.int)):=by rw [aD RG,ao]
  have q5:lX [[i,0]] τ3 H4 (aM τ3 nb [i,1]) (upd (upd H4 nb (.lst (ns.map V.int))) o (.ins ak dx (cX "numbers" (.ref nb) [("program",.ref pg)]))):=(lX.claim X_ hnb).trans (lX.set (by rw [aP RG.symm,to3];simp) (X_ _ _ Yx) (by intro xs z;cases z));have B5:Bs H τ o (aM τ3 nb [i,1]) (upd (upd H4 nb (.lst (ns.map V.int))) o (.ins ak dx (cX "numbers" (.ref nb) [("program",.ref pg)]))):=(B4.claim X_ hnb ⟨_,ao⟩).set (.inl rfl);have to5:aM τ3 nb [i,1] o=[i,0]:=by rw [aP RG.symm];exact to3
  have Y7:aM τ3 nb [i,1] nb=[i,1]:=bB;generalize (upd (upd H4 nb (.lst (ns.map V.int))) o (.ins ak dx (cX "numbers" (.ref nb) [("program",.ref pg)])))=H5 at UL WL q5 B5 ⊢;generalize aM τ3 nb [i,1]=τ5 at q5 B5 to5 Y7;have U3:=q5.keep _ _ hL4 (by rw [Ze];simp);have hr5:∀(k:Nat) (r:Addr) (x:List Rw),rs[k]? = some r->rws[k]? = some x->τ5 r=[0]/\cW H5 r m x:=fun k r x h1 h2=>fV (hr4 k r x h1 h2) q5 (by simp);have Wx:=q5.tup _ _ Wy;have tL5:τ5 L=[0]:=U3.2.trans Ze;have U3:=U3.1;refine pQ (fun R g=> ?_);refine ⟨_,rfl,o,ak,dx,_,_,rfl,UL,aK.cls,aK.nP,rfl,_,_,_,_,rfl,rfl,cu.of Wx,rfl,L,rfl,⟨_,aY.of U3⟩,fun hl K3=> ?_⟩;have shl:=aF (o:=HO.lst []) K3;have aaD:hl≠o:=(aC UL K3).symm;refine eE (K:=K) (xs:=rs.map V.ref) (fun j σ Hc=>∃(v:Option V) (τc:Tg) (hd:List mD),σ=[v]/\hd.length=j/\Same H5 Hc/\Hc hl=some (.lst (hd.map fun a=> .ref a.h))/\Bs H τ o τc Hc/\(∀x u,H5 x=some u->τc x=τ5 x)/\τc hl=[i,2] /\ ∀(k:Nat) (A:mD) (x:List Rw),hd[k]? = some A->rws[k]? = some x->rT au i k m τc Hc A (new x)/\H A.h=none/\H A.b=none/\H A.sy=none) ?_ ?_ ?_ ?_
  ·exact ⟨none,aM τ5 hl [i,2],[],rfl,rfl,shl,ao,B5.claim shl K3 ⟨_,ao⟩,fun x u e=>aP (aC e K3),bB,fun k A x h=>by simp at h⟩
  ·rintro j σ Hc hj ⟨v,τc,hd,rfl,_,sc,_⟩
   exact aY.of (sc _ _ U3)
  ·rintro j x σ Hc hj ⟨v,τc,hd,rfl,lj,sc,UW,Bc,zc,tlc,hc⟩
   rw [List.getElem?_map] at hj
   obtain ⟨r,er,rfl⟩:∃r,rs[j]? = some r/\x = .ref r:=by
    cases e:rs[j]? with
    | none=>rw [e] at hj;cases hj
    | some r0=>rw [e] at hj;exact ⟨r0,rfl,(Option.some.inj hj).symm⟩
   have jl:j<rws.length:=by rw [←lr,←lrs];exact (List.getElem?_eq_some_iff.mp er).1
   have ex:rws[j]? = some rws[j]:=by simp [jl]
   obtain ⟨tr,R⟩:=hr5 j r _ er ex;have rr:=R;obtain ⟨ts,hts,_⟩:=rr;dsimp only [bV,oJ];rw [if_pos rfl];refine ⟨_,rfl,fun h hx hn hxn nhx=> ?_⟩;have hn':(upd Hc hx (.own h)) h=none:=by rw [aD nhx.symm];exact hn
   have sm:Same Hc (upd (upd Hc hx (.own h)) h (.ins au hx [])):=(aF hxn).trans (aF hn');refine ⟨h,r,hx,rfl,ao,fun b sy H7 hb hsy Wf h7 b7 sy7 k7=>⟨rfl, ?_⟩⟩;have S7:Same Hc H7:=fun y u e=>k7 _ _ (sm _ _ e) (aC e hn);have fb:Hc b=none:=sm.free hb;have fy:Hc sy=none:=sm.free hsy;have nhl:hl≠h:=aC UW hn;have nbl:hl≠b:=aC UW fb;have nyl:hl≠sy:=aC UW fy;have vW:h≠b:=aC ao hb;have yj:h≠sy:=aC ao hsy;have hlf:H hl=none:=B5.fresh K3 aaD;have sH:Same Hc Hc:=Same.refl _;have T:∀x u,Hc x=some u->aM (aM (aM τc h [i,4,j]) b [i,5,j]) sy [i,6,j] x=τc x:=fun y u e=>by rw [aP (aC e fy),aP (aC e fb),aP (aC e hn)]
   have B7:Bs H τ o (aM (aM (aM τc h [i,4,j]) b [i,5,j]) sy [i,6,j]) H7:=by
    refine ⟨fun y e=> ?_,Bc.kp.trans (Kp.of_same S7),fun y u e n=> ?_⟩
    ·have n1:y≠h:=fun z=>by rw [z,h7] at e;cases e
     have n2:y≠b:=fun z=>by rw [z,b7] at e;cases e
     have n3:y≠sy:=fun z=>by rw [z,sy7] at e;cases e
     rw [aP n3,aP n2,aP n1];exact Bc.un y (S7.free e)
    ·rw [T y u (Bc.kp _ _ e n)]
     exact Bc.tg y u e n
   have q7:lX [[i,2]] τc Hc (aM (aM (aM τc h [i,4,j]) b [i,5,j]) sy [i,6,j]) (upd H7 hl (.lst ((hd.map fun a=>V.ref a.h)++[V.ref h]))):=by
    refine ⟨fun y u e n=>⟨?_,T y u e⟩,fun y ys e=> ?_⟩
    ·rw [aD (fun z:y=hl=>n (by rw [z,tlc];simp))]
     exact S7 _ _ e
    ·rw [aD (cG e UW (by intro z;cases z))]
     exact S7 _ _ e
   have Th:aM (aM (aM τc h [i,4,j]) b [i,5,j]) sy [i,6,j] h=[i,4,j]:=by rw [aP yj,aP vW,bB]
   have Tb:aM (aM (aM τc h [i,4,j]) b [i,5,j]) sy [i,6,j] b=[i,5,j]:=by rw [aP Wf,bB]
   have Ty:aM (aM (aM τc h [i,4,j]) b [i,5,j]) sy [i,6,j] sy=[i,6,j]:=bB;generalize aM (aM (aM τc h [i,4,j]) b [i,5,j]) sy [i,6,j]=τ7 at T B7 q7 Th Tb Ty;refine ⟨_,S7 _ _ UW,(by rw [List.length_map,sizeLine_eq];omega),some (.ref r),τ7,hd++[⟨h,hx,r,b,sy⟩],rfl,by simp [lj],fun y u e=> ?_,by rw [ao];simp,B7.set (.inr hlf),fun y u e=> ?_, ?_, ?_⟩
   ·rw [aD (aC e K3)]
    exact S7 _ _ (sc _ _ e)
   ·rw [T y u (sc _ _ e)]
    exact zc y u e
   ·rw [T _ _ UW];exact tlc
   ·intro k A x' h1 h2
    rcases fW h1 with h1|⟨e1,rfl⟩
    ·exact ⟨(hc k A x' h1 h2).1.Jt q7 (by simp) (by simp) (by simp) (by simp),(hc k A x' h1 h2).2⟩
    ·rw [e1,lj,ex] at h2
     cases h2;rw [e1,lj];have Y6:τc r=[0]:=by rw [zc _ _ hts];exact tr
     obtain ⟨t9,R9⟩:=fV ⟨Y6,R.same sc⟩ q7 (by simp);have hoc:=sc _ _ UL;exact ⟨⟨⟨by rw [aD nhl.symm];exact h7,by rw [aD nbl.symm];exact b7,by rw [aD nyl.symm];exact sy7,Wf,rfl⟩,R9,t9,Th,Tb,Ty⟩,Bc.fresh hn (aC hoc hn).symm,Bc.fresh fb (aC hoc fb).symm,Bc.fresh fy (aC hoc fy).symm⟩
  rintro σ H8 ⟨v,τ8,hd,rfl,Wo,Ye,aa1,B8,Le,tl8,Yy⟩;rw [List.length_map] at Wo;have WD:=Ye _ _ UL;have QB:τ8 o=[i,0]:=by rw [Le _ _ UL];exact to5
  refine ⟨_,rfl,o,ak,dx,_,rfl,WD,aK.cls,aK.jC,(by show 2<1000;decide), ?_⟩;refine g _ _ ?_;have ho9:(upd H8 o (.ins ak dx (cX "hands" (.ref hl) [("program",.ref pg),("numbers",.ref nb)]))) o=some (.ins ak dx [("program",.ref pg),("numbers",.ref nb),("hands",.ref hl)]):=ao;have q9:lX [[i,0]] τ8 H8 τ8 (upd H8 o (.ins ak dx (cX "hands" (.ref hl) [("program",.ref pg),("numbers",.ref nb)]))):=lX.set (by rw [QB];simp) WD (by intro xs z;cases z);have B9:Bs H τ o τ8 (upd H8 o (.ins ak dx (cX "hands" (.ref hl) [("program",.ref pg),("numbers",.ref nb)]))):=B8.set (.inl rfl);generalize (upd H8 o (.ins ak dx (cX "hands" (.ref hl) [("program",.ref pg),("numbers",.ref nb)])))=H9 at ho9 q9 B9 ⊢;refine pQ (fun R g=> ?_);refine ⟨(by show 0<=sizeLine;decide),fun tn htn=> ?_⟩;have X8:=aF (o:=HO.lst []) htn;refine ⟨_,rfl,o,ak,dx,_,rfl,X8 _ _ ho9,aK.cls,aK.nO,(by show 3<1000;decide), ?_⟩;refine g _ _ ?_;have Ry:tn≠o:=(aC ho9 htn).symm;have Gw:(upd (upd H9 tn (.lst [])) o (.ins ak dx (cX "turns" (.ref tn) [("program",.ref pg),("numbers",.ref nb),("hands",.ref hl)]))) o=some (.ins ak dx (wF pg nb hl tn)):=ao;have Qh:(upd (upd H9 tn (.lst [])) o (.ins ak dx (cX "turns" (.ref tn) [("program",.ref pg),("numbers",.ref nb),("hands",.ref hl)]))) tn=some (.lst []):=by rw [aD Ry,ao]
  have FQ:lX [[i,0]] τ8 H9 (aM τ8 tn [i,3]) (upd (upd H9 tn (.lst [])) o (.ins ak dx (cX "turns" (.ref tn) [("program",.ref pg),("numbers",.ref nb),("hands",.ref hl)]))):=(lX.claim X8 htn).trans (lX.set (by rw [aP Ry.symm,QB];simp) (X8 _ _ ho9) (by intro xs z;cases z));have B10:Bs H τ o (aM τ8 tn [i,3]) (upd (upd H9 tn (.lst [])) o (.ins ak dx (cX "turns" (.ref tn) [("program",.ref pg),("numbers",.ref nb),("hands",.ref hl)]))):=(B9.claim X8 htn ⟨_,ao⟩).set (.inl rfl);have Ft:aM τ8 tn [i,3] o=[i,0]:=by rw [aP Ry.symm];exact QB
  have Fq:aM τ8 tn [i,3] tn=[i,3]:=bB;have BR:=q9.trans FQ;generalize (upd (upd H9 tn (.lst [])) o (.ins ak dx (cX "turns" (.ref tn) [("program",.ref pg),("numbers",.ref nb),("hands",.ref hl)])))=G5 at Gw Qh FQ B10 BR ⊢;generalize aM τ8 tn [i,3]=vg at FQ B10 Ft Fq BR;have vZ:=BR.keep _ _ aa1 (by rw [tl8];simp);have HX:vg hl=[i,2]:=vZ.2.trans tl8;have vZ:=vZ.1
  have n5:∀x u,H5 x=some u->τ5 x≠[i,0]->G5 x=some u/\vg x=τ5 x:=fun x u e n=>by
   have:=BR.keep _ _ (Ye _ _ e) (by rw [Le _ _ e];simp [n]);exact ⟨this.1,by rw [this.2,Le _ _ e]⟩
  have WW:=n5 _ _ U3 (by rw [tL5];simp);have Qi:=n5 _ _ WL (by rw [Y7];simp);have Wz:=BR.tup _ _ (Ye _ _ Wx);have aa2:∀(k:Nat) (A:mD) (x:List Rw),hd[k]? = some A->rws[k]? = some x->rT au i k m vg G5 A (new x):=fun k A x h1 h2=>(Yy k A x h1 h2).1.Jt BR (by simp) (by simp) (by simp) (by simp)
  have aaU:∀(k:Nat) (r:Addr) (x:List Rw),rs[k]? = some r->rws[k]? = some x->vg r=[0]/\cW G5 r m x:=fun k r x h1 h2=>by
   obtain ⟨t5,R5⟩:=hr5 k r x h1 h2;have rr:=R5;obtain ⟨ts,hts,_⟩:=rr;exact fV ⟨by rw [Le _ _ hts];exact t5,R5.same Ye⟩ BR (by simp)
  have lh:hd.length=rws.length:=by rw [Wo,lrs,lr]
  refine ⟨_,rfl,o,ak,dx,_,_,rfl,Gw,aK.cls,aK.jC,rfl,hl,rfl,⟨_,aY.of vZ⟩, ?_⟩
  refine m7 (K:=K) (a:=hl) (xs:=hd.map fun a=>V.ref a.h) (fun j σ Hc=>∃x1:Option V,σ=[some (.ref o),some (.ref p),some (.ref cl),x1]/\(∀x u,G5 x=some u->(∀k,vg x≠[i,4,k])->(∀k,vg x≠[i,5,k])->(∀k,vg x≠[i,6,k])->Hc x=some u)/\(∀x ys,G5 x=some (.tup ys)->Hc x=some (.tup ys))/\Bs H τ o vg Hc /\
   ∀(k:Nat) (A:mD) (x:List Rw),hd[k]? = some A->rws[k]? = some x->rT au i k m vg Hc A (if k<j then lead (new x) else new x))
   ⟨none,rfl,fun x u e _ _ _=>e,fun x ys e=>e,B10,fun k A x h1 h2=>by rw [if_neg (by omega)];exact aa2 k A x h1 h2⟩ (fun j σ Hc _ ⟨_,_,kc,_⟩=>aY.of (kc _ _ vZ (by rw [HX];simp) (by rw [HX];simp) (by rw [HX];simp))) ?_ ?_
  ·rintro j v σ Hc hj ⟨x1,rfl,kc,tc,Bc,hc⟩
   rw [List.getElem?_map] at hj
   obtain ⟨A,eA,rfl⟩:∃A,hd[j]? = some A/\v = .ref A.h:=by
    cases e:hd[j]? with
    | none=>rw [e] at hj;cases hj
    | some A=>rw [e] at hj;exact ⟨A,rfl,(Option.some.inj hj).symm⟩
   have jl:j<rws.length:=by rw [←lh];exact (List.getElem?_eq_some_iff.mp eA).1
   have ex:rws[j]? = some rws[j]:=by simp [jl]
   have a:=hc j A _ eA ex;rw [if_neg (by omega)] at a;refine ⟨_,rfl,A.h,A.hx,_,rfl,a.c.h,rfl,A,_,m,rfl,a.c,a.r,bZ a.tr a.tb (by intro z;cases z),bZ a.tr a.ty (by intro z;cases z),(by show 0<900000;decide),fun T_ c12 k12=> ?_⟩;have PJ:lX [[i,4,j],[i,5,j],[i,6,j]] vg Hc vg T_:=⟨fun x u e n=>⟨k12 _ _ e (fun z=>n (by rw [z,a.th];simp)) (fun z=>n (by rw [z,a.tb];simp)) (fun z=>n (by rw [z,a.ty];simp)),rfl⟩,a.c.tup k12⟩;refine ⟨_,rfl,fun x u e n4 n5 n6=>(PJ.keep _ _ (kc x u e n4 n5 n6) (by simp [n4,n5,n6])).1,fun x ys e=>PJ.tup _ _ (tc _ _ e), ?_, ?_⟩
   ·obtain ⟨f1,f2,f3⟩:=(Yy j A _ eA ex).2
    refine ⟨Bc.un.dom fun x e=> ?_,fun x u e n=>k12 _ _ (Bc.kp _ _ e n) (aC e f1) (aC e f2) (aC e f3),Bc.tg⟩;cases q:Hc x with
    | none=>rfl
    | some u=>
      have no:∀y o,T_ y=some o->x≠y:=fun y o h z=>by rw [z,h] at e;cases e
      rw [k12 _ _ q (no _ _ c12.h) (no _ _ c12.b) (no _ _ c12.y)] at e;cases e
   ·intro k A' x h1 h2
    by_cases z:k=j
    ·subst z
     rw [eA] at h1;cases h1;rw [ex] at h2;cases h2;rw [if_pos (by omega)];have lr':(lead (new rws[k])).rws=rws[k]:=k_ _ _;refine ⟨c12, ?_,a.tr,a.th,a.tb,a.ty⟩;rw [lr'];exact (fV ⟨a.tr,a.r⟩ PJ (by simp)).2
    ·have b:=(hc k A' x h1 h2).Jt PJ (by simp) (by simp [z]) (by simp [z]) (by simp [z])
     by_cases lt:k<j
     ·rw [if_pos lt] at b
      rw [if_pos (by omega)];exact b
     ·rw [if_neg lt] at b
      rw [if_neg (by omega)];exact b
  ·rintro σ Ua ⟨x1,rfl,kc,tc,Bc,hc⟩
   rw [List.length_map] at hc;have kt:∀x u t,G5 x=some u->vg x=t->(∀k,t≠[i,4,k])->(∀k,t≠[i,5,k])->(∀k,t≠[i,6,k])->Ua x=some u:=fun x u t e et n4 n5 n6=>kc x u e (by rw [et];exact n4) (by rw [et];exact n5) (by rw [et];exact n6);have Vp:vg L=[0]:=WW.2.trans tL5;have Vj:vg nb=[i,1]:=Qi.2.trans Y7
   have get:∀(k:Nat) (s:aO),(rws.map fun r=>lead (new r))[k]? = some s -> ∃x,rws[k]? = some x/\s=lead (new x):=fun k s e=>by
    rw [List.getElem?_map] at e;cases q:rws[k]? with
    | none=>rw [q] at e;cases e
    | some x=>rw [q] at e;exact ⟨x,rfl,(Option.some.inj e).symm⟩
   refine k1 good vg ⟨o,dx,pg,L,nb,hl,tn,rs,hd⟩ Ua rfl ⟨Bc.un,i0,kt _ _ _ Gw Ft (by simp) (by simp) (by simp),tc _ _ Wz,kt _ _ _ WW.1 Vp (by simp) (by simp) (by simp),kt _ _ _ Qi.1 Vj (by simp) (by simp) (by simp),kt _ _ _ vZ HX (by simp) (by simp) (by simp),kt _ _ _ Qh Fq (by simp) (by simp) (by simp),Ft,Vj,HX,Fq,Vp, ?_, ?_, ?_, ?_, ?_, ?_, ?_, ?_⟩ Bc.tg Bc.kp
   ·show rs.length=(rws.map _).length
    rw [List.length_map,lrs,lr]
   ·intro k r s h1 h2
    obtain ⟨x,ex,rfl⟩:=get k s h2;obtain ⟨t1,R1⟩:=aaU k r x h1 ex;have lr':(lead (new x)).rws=x:=k_ _ _;rw [lr'];exact ⟨t1,R1.keep (fun u e=>kt _ _ _ e t1 (by simp) (by simp) (by simp)) tc⟩
   ·show hd.length=(rws.map _).length
    rw [List.length_map,lh]
   ·intro k A s h1 h2
    obtain ⟨x,ex,rfl⟩:=get k s h2;have:=hc k A x h1 ex;rw [if_pos (List.getElem?_eq_some_iff.mp h1).1] at this;exact this
   ·intro s ms
    obtain ⟨x,_,rfl⟩:=List.mem_map.mp ms;exact Cp _ _
   ·intro s ms
    obtain ⟨x,_,rfl⟩:=List.mem_map.mp ms;exact Cm 60 (new x)
   ·have:=good.1
    show ns.length=m;omega
   ·show (rws.map _).length<=100
    rw [List.length_map];exact rl
def G3:Nat->PyData->Prop
 | 0,_=>False
 | n+1,.list ds=>ds.length<=20000 /\ ∀d∈ds,G3 n d
 | n+1,.tuple ds=>ds.length<=20000 /\ ∀d∈ds,G3 n d
 | _+1,.int _=>True
 | _+1,.str _=>True
 | _+1,.none=>True
 | _+1,.bool _=>True
 | _+1,_=>False
theorem G3.ints {n:Nat} {ns:List Int} (h:ns.length<=20000):G3 (n+2) (.list (ns.map PyData.int)):=by
 refine ⟨by rw [List.length_map];exact h,fun d hd=> ?_⟩;obtain ⟨i,_,rfl⟩:=List.mem_map.mp hd;trivial
theorem Ni (K:PySem.W.Frag):PySem.W.kitOne K (.type "str") (.type "tuple")=some false:=by kernel_rfl
theorem Nk (K:PySem.W.Frag):PySem.W.kitOne K (.type "str") (.type "list")=some false:=by kernel_rfl
theorem yu (K:PySem.W.Frag):PySem.W.kitOne K (.type "str") (.type "bool")=some false:=by kernel_rfl
theorem Nj (K:PySem.W.Frag):PySem.W.kitOne K (.type "str") (.type "str")=some true:=rfl
theorem Nq (K:PySem.W.Frag):PySem.W.kitOne K (.type "int") (.type "tuple")=some false:=by kernel_rfl
theorem Nt (K:PySem.W.Frag):PySem.W.kitOne K (.type "int") (.type "list")=some false:=by kernel_rfl
theorem Nr (K:PySem.W.Frag):PySem.W.kitOne K (.type "int") (.type "str")=some false:=by kernel_rfl
theorem Nu (K:PySem.W.Frag):PySem.W.kitOne K (.type "bool") (.type "tuple")=some false:=by kernel_rfl
theorem Nv (K:PySem.W.Frag):PySem.W.kitOne K (.type "bool") (.type "list")=some false:=by kernel_rfl
theorem Nm (K:PySem.W.Frag):PySem.W.kitOne K (.type "NoneType") (.type "tuple")=some false:=by kernel_rfl
theorem Np (K:PySem.W.Frag):PySem.W.kitOne K (.type "NoneType") (.type "list")=some false:=by kernel_rfl
theorem v7 (n:Nat) (v:V):(List.range n).filterMap (fun _=>some v)=List.replicate n v:=by
 induction n with
 | zero=>rfl
 | succ n ih=>rw [eV,ih,List.replicate_succ'];rfl
def kj (n:Nat) (K:PySem.W.Frag):Sp:=fun vs H Q _=>∃(x y:V) (d:PyData),vs=[x,y]/\Dat H x d/\Dat H y d/\G3 n d /\ ∀H',Same H H'->Q (.bl true) H'
theorem Gj {f:Addr} {fd:FuncData} (F:fj K "_law_alike" "_law_alike" pU f fd):bU P w K mg base gF 1 f fd ["found","due"] (kj 0 K):=by
 refine F.ok vQ (fun vs H Q E h=> ?_) (fun cdv A outer s H vs Q E hr h=> ?_)
 ·obtain ⟨x,y,d,_,_,_,z,_⟩:=h
  exact z.elim
 ·obtain ⟨x,y,d,_,_,_,z,_⟩:=h
  exact z.elim
theorem nJ {n:Nat} {f:Addr} {fd:FuncData} (F:fj K "_law_alike" "_law_alike" pU f fd) (d_:FnAt P w K mg base (n+1) "_law_alike" ["found","due"] (kj n K)) (Bt:mC mg):bU P w K mg base gF (n+1+1) f fd ["found","due"] (kj (n+1) K):=by
 refine F.ok vQ (fun vs H Q E h=> ?_) (fun cdv A outer s H vs Q E hr h=> ?_)
 ·obtain ⟨x,y,d,rfl,_⟩:=h
  rfl
 ·obtain ⟨x,y,d,rfl,dx,dy,pl,k⟩:=h
  refine ⟨_,(aB (bL (PW.pt (lN (dR (bf (cP (K:=K) (cv:= .ty "tuple") (c:= .type "tuple") rfl rfl) (by rfl) Bt.bR bM (aj (pv 1) (aj (d8 (v:= .ty "tuple") (by rfl) Bt.yP uR rfl) aq)))) (iM (dR (bf (cP (K:=K) (cv:= .ty "list") (c:= .type "list") rfl rfl) (by rfl) Bt.bR bM (aj (pv 1) (aj (d8 (v:= .ty "list") (by rfl) Bt.dg cN rfl) aq))))))) (aB (bL (PW.pt (lN (aQ lQ (bf (cP (K:=K) (cv:= .ty "tuple") (c:= .type "tuple") rfl rfl) (by rfl) Bt.bR bM (aj (pv 0) (aj (d8 (v:= .ty "tuple") (by rfl) Bt.yP uR rfl) aq))) (bf (cP (K:=K) (cv:= .ty "tuple") (c:= .type "tuple") rfl rfl) (by rfl) Bt.bR bM (aj (pv 1) (aj (d8 (v:= .ty "tuple") (by rfl) Bt.yP uR rfl) aq))) (aR _)) (iM (aQ lQ (bf (cP (K:=K) (cv:= .ty "list") (c:= .type "list") rfl rfl) (by rfl) Bt.bR bM (aj (pv 0) (aj (d8 (v:= .ty "list") (by rfl) Bt.dg cN rfl) aq))) (bf (cP (K:=K) (cv:= .ty "list") (c:= .type "list") rfl rfl) (by rfl) Bt.bR bM (aj (pv 1) (aj (d8 (v:= .ty "list") (by rfl) Bt.dg cN rfl) aq))) (aR _))))) (aG (aV gH)) bw)
   (aB (bL (aQ lQ (bf (bC (K:=K) rfl) (by rfl) Bt.dU cU (aj (pv 0) aq)) (bf (bC (K:=K) rfl) (by rfl) Bt.dU cU (aj (pv 1) aq)) (aR _)) (aG (aV gH)) bw)
   (aG (aV (bf (iV (K:=K) rfl rfl) (by rfl) Bt.Kr CK (aj (cI rfl (N:=["mine","other"]) (own:=["mine","other"]) (caps:=[]) (bh.of (by kernel_rfl)) (L_ (K:=K) rfl (by rfl) Bt.Qn (aj (pv 0) (aj (pv 1) aq))) (fun _ _ _ _=>(xV (K:=K) (n:=2) rfl rfl (iy (bI (i:=0) (show List.Nodup (["mine","other"]:List Str) by decide +kernel) rfl (Or.inl rfl)) (iy (bI (i:=1) (show List.Nodup (["mine","other"]:List Str) by decide +kernel) rfl (Or.inl rfl)) sG)))) (fun _ _ _ _=>cB) (fun _ _ _ _=>(bF d_ (hr.mono (Nat.le_refl _)) (by rfl) (aj (pv 0) (aj (pv 1) aq))))) aq)))))) bw)
   (aB (bL (aQ o_ (pv 1) eF (aR _)) (aG (aV (cT o_ (pv 0) eF (aR _)))) bw)
   (aB (bL (PW.pt (lN (dR (bf (cP (K:=K) (cv:= .ty "bool") (c:= .type "bool") rfl rfl) (by rfl) Bt.bR bM (aj (pv 1) (aj (d8 (v:= .ty "bool") (by rfl) Bt.u0 qj rfl) aq)))) (iM (dR (bf (cP (K:=K) (cv:= .ty "str") (c:= .type "str") rfl rfl) (by rfl) Bt.bR bM (aj (pv 1) (aj (d8 (v:= .ty "str") (by rfl) Bt.Xe Tp rfl) aq))))))) (aG (aV (mV (cT cA (bf (cP (K:=K) (cv:= .ty "bool") (c:= .type "bool") rfl rfl) (by rfl) Bt.bR bM (aj (pv 0) (aj (d8 (v:= .ty "bool") (by rfl) Bt.u0 qj rfl) aq))) (bf (cP (K:=K) (cv:= .ty "bool") (c:= .type "bool") rfl rfl) (by rfl) Bt.bR bM (aj (pv 1) (aj (d8 (v:= .ty "bool") (by rfl) Bt.u0 qj rfl) aq))) (aR _)) (o7 (cT cA (pv 0) (pv 1) (aR _)))))) bw)
   (aG (aV (mV (bf (cP (K:=K) (cv:= .ty "int") (c:= .type "int") rfl rfl) (by rfl) Bt.bR bM (aj (pv 0) (aj (d8 (v:= .ty "int") (by rfl) Bt.uZ pI rfl) aq))) (mV (Iw (bf (cP (K:=K) (cv:= .ty "bool") (c:= .type "bool") rfl rfl) (by rfl) Bt.bR bM (aj (pv 0) (aj (d8 (v:= .ty "bool") (by rfl) Bt.u0 qj rfl) aq)))) (o7 (cT cA (pv 0) (pv 1) (aR _)))))))))), ?_⟩
  match d,pl,dx,dy with
  | .int i,pl,dx,dy=>
    simp only [Dat] at dx dy;subst dx dy;refine ⟨_,rfl,_,_,false,rfl,.int i,Nq K,_,rfl,cD ?_⟩;refine ⟨_,rfl,_,_,false,rfl,.int i,Nt K,_,rfl,cD ?_⟩;refine ⟨_,rfl,rfl,_,rfl,cD ?_⟩;refine ⟨_,rfl,_,_,false,rfl,.int i,lB K,_,rfl,cD ?_⟩;refine ⟨_,rfl,_,_,false,rfl,.int i,Nr K,_,rfl,cD ?_⟩;refine ⟨_,rfl,_,_,true,rfl,.int i,rE K,_,rfl,dM ?_⟩;refine ⟨_,rfl,_,_,false,rfl,.int i,lB K,_,rfl,_,rfl,dM ?_⟩;refine ⟨_,rfl,_,rfl,rfl, ?_⟩;rw [decide_eq_true rfl];exact k _ (Same.refl _)
  | .str i,pl,dx,dy=>
    simp only [Dat] at dx dy;subst dx dy;refine ⟨_,rfl,_,_,false,rfl,.str i,Ni K,_,rfl,cD ?_⟩;refine ⟨_,rfl,_,_,false,rfl,.str i,Nk K,_,rfl,cD ?_⟩;refine ⟨_,rfl,rfl,_,rfl,cD ?_⟩;refine ⟨_,rfl,_,_,false,rfl,.str i,yu K,_,rfl,cD ?_⟩;refine ⟨_,rfl,_,_,true,rfl,.str i,Nj K,_,rfl,dM ?_⟩;refine ⟨_,rfl,_,_,false,rfl,.str i,yu K,_,rfl,_,_,false,rfl,.str i,yu K,rfl,_,rfl, ?_⟩;refine bK (fun _=> ?_) (fun z=>absurd (decide_eq_true rfl) z);refine ⟨_,rfl,_,rfl,rfl, ?_⟩;rw [decide_eq_true rfl];exact k _ (Same.refl _)
  | .bool i,pl,dx,dy=>
    simp only [Dat] at dx dy;subst dx dy;refine ⟨_,rfl,_,_,false,rfl,.bl i,Nu K,_,rfl,cD ?_⟩;refine ⟨_,rfl,_,_,false,rfl,.bl i,Nv K,_,rfl,cD ?_⟩;refine ⟨_,rfl,rfl,_,rfl,cD ?_⟩;refine ⟨_,rfl,_,_,true,rfl,.bl i,jP K,_,rfl,dM ?_⟩;refine dM ?_;refine ⟨_,rfl,_,_,true,rfl,.bl i,jP K,_,rfl,_,_,true,rfl,.bl i,jP K,rfl,_,rfl, ?_⟩;refine bK (fun _=> ?_) (fun z=>absurd (decide_eq_true rfl) z);refine ⟨_,rfl,_,rfl,rfl, ?_⟩;rw [decide_eq_true rfl];exact k _ (Same.refl _)
  | .none,pl,dx,dy=>
    simp only [Dat] at dx dy;subst dx dy;refine ⟨_,rfl,_,_,false,rfl,.non,Nm K,_,rfl,cD ?_⟩;refine ⟨_,rfl,_,_,false,rfl,.non,Np K,_,rfl,cD ?_⟩;refine ⟨_,rfl,rfl,_,rfl,dM ?_⟩;exact ⟨_,rfl,rfl,k _ (Same.refl _)⟩
  | .list ds,pl,dx,dy=>
    simp only [Dat] at dx dy;obtain ⟨a,vs,rfl,ha,da⟩:=dx;obtain ⟨b,ws,rfl,hb,db⟩:=dy;have la:vs.length=ds.length:=da.length;have lb:ws.length=ds.length:=db.length;have LK:ds.length<=20000:=pl.1;refine ⟨_,rfl,_,_,false,rfl,.lst hb,jw K,_,rfl,cD ?_⟩;refine ⟨_,rfl,_,_,true,rfl,.lst hb,iu K,_,rfl,dM ?_⟩;refine ⟨_,rfl,_,_,false,rfl,.lst ha,jw K,_,rfl,_,_,false,rfl,.lst hb,jw K,rfl,_,rfl, ?_⟩;refine m5 rfl ?_;refine ⟨_,rfl,_,_,true,rfl,.lst ha,iu K,_,rfl,_,_,true,rfl,.lst hb,iu K,rfl,_,rfl, ?_⟩;refine m5 rfl ?_;refine ⟨_,rfl,a,_,rfl,.inl (aY.of ha),_,rfl,b,_,rfl,.inl (aY.of hb),rfl,_,rfl, ?_⟩;refine m5 (by rw [la,lb]) ?_;refine ⟨_,rfl,_,rfl,a,b,vs,ws,rfl,.inl ⟨aY.of ha,aY.of hb,fun D hD=> ?_⟩⟩;refine GK (K:=K) la lb (fun i=>some (.bl true)) hD (aY.of ha) (aY.of hb) (by omega) (fun i x y H2 G F hx hy s2 kG kF=> ?_) (fun H2 s2 e2=> ?_)
    ·obtain ⟨d,ed,dx⟩:=da.get hx
     obtain ⟨d',ed',dy⟩:=db.get hy;rw [ed] at ed';cases ed';exact ⟨_,rfl,_,rfl,x,y,d,rfl,dx.same s2 d,dy.same s2 d,pl.2 d (List.mem_of_getElem? ed),fun H3 s3=>kF _ H3 s3 rfl⟩
    ·rw [v7] at e2
     refine ⟨D,List.replicate ds.length true,rfl,aY.of (by rw [e2,List.map_replicate]), ?_⟩;rw [show (List.replicate ds.length true).all id=true by simp];exact k H2 s2
  | .tuple ds,pl,dx,dy=>
    simp only [Dat] at dx dy;obtain ⟨a,vs,rfl,ha,da⟩:=dx;obtain ⟨b,ws,rfl,hb,db⟩:=dy;have la:vs.length=ds.length:=da.length;have lb:ws.length=ds.length:=db.length;have LK:ds.length<=20000:=pl.1;refine ⟨_,rfl,_,_,true,rfl,.tup hb,iR K,_,rfl,dM ?_⟩;refine dM ?_;refine ⟨_,rfl,_,_,true,rfl,.tup ha,iR K,_,rfl,_,_,true,rfl,.tup hb,iR K,rfl,_,rfl, ?_⟩;refine m5 rfl ?_;refine ⟨_,rfl,_,_,false,rfl,.tup ha,m6 K,_,rfl,_,_,false,rfl,.tup hb,m6 K,rfl,_,rfl, ?_⟩;refine m5 rfl ?_;refine ⟨_,rfl,a,_,rfl,.inr (cu.of ha),_,rfl,b,_,rfl,.inr (cu.of hb),rfl,_,rfl, ?_⟩;refine m5 (by rw [la,lb]) ?_;refine ⟨_,rfl,_,rfl,a,b,vs,ws,rfl,.inr ⟨cu.of ha,cu.of hb,fun D hD=> ?_⟩⟩;refine Cy (K:=K) la lb (fun i=>some (.bl true)) hD ha hb (by omega) (fun i x y H2 G F hx hy s2 kG kF=> ?_) (fun H2 s2 e2=> ?_)
    ·obtain ⟨d,ed,dx⟩:=da.get hx
     obtain ⟨d',ed',dy⟩:=db.get hy;rw [ed] at ed';cases ed';exact ⟨_,rfl,_,rfl,x,y,d,rfl,dx.same s2 d,dy.same s2 d,pl.2 d (List.mem_of_getElem? ed),fun H3 s3=>kF _ H3 s3 rfl⟩
    ·rw [v7] at e2
     refine ⟨D,List.replicate ds.length true,rfl,aY.of (by rw [e2,List.map_replicate]), ?_⟩;rw [show (List.replicate ds.length true).all id=true by simp];exact k H2 s2
def Bk (ns bs:List Int) (r:Rw):PyData:= .tuple [.str (n_ r),.int (qd r),oD (Im ns r),oD (HD bs r)]
theorem Ka {H:Hp} (x:Option Int):Dat H (oV x) (oD x):=by cases x<;>simp only [oV,oD,Dat]
theorem wg {H:Hp} {t:Addr} {ns bs:List Int} {r:Rw} (h:H t=some (.tup (sY ns bs r))):Dat H (.ref t) (Bk ns bs r):=by
 unfold Bk sY at *;simp only [Dat];exact ⟨t,_,rfl,h,by simp only [bH,Dat,and_true,true_and];exact ⟨Ka _,Ka _⟩⟩
theorem Iu {n:Nat} (ns bs:List Int) (r:Rw):G3 (n+2) (Bk ns bs r):=by
 refine ⟨by show 4<=20000;decide,fun d hd=> ?_⟩;have:∀x:Option Int,G3 (n+1) (oD x):=fun x=>by cases x<;>trivial
 simp only [List.mem_cons,List.mem_nil_iff,or_false] at hd;rcases hd with rfl|rfl|rfl|rfl
 ·trivial
 ·trivial
 ·exact this _
 ·exact this _
structure RT (τ:Tg) (H:Hp) (r:Addr):Prop where
 R:dG H r
 off:∀x o,H x=some o->τ x≠[]->x≠r/\Off H r x
 un:j8 τ H
theorem RT.draw {τ:Tg} {H H':Hp} {r:Addr} (h:RT τ H r) (k:KR r H H') (R':dG H' r):RT τ H' r:=by
 have un':j8 τ H':=h.un.dom fun x e=>by
  refine Kp.new k.1 e ?_;exact R'.at
 refine ⟨R',fun x o e t=> ?_,un'⟩;cases q:H x with
 | none=>exact absurd (h.un x q) t
 | some u=>
   obtain ⟨n,f⟩:=h.off x u q t;exact ⟨n,k.2 x u q n f⟩
theorem RT.stp {τ:Tg} {H H':Hp} {r:Addr} {i:Nat} (h:RT τ H r) (k:lW i τ H H'):RT τ H' r:=by
 obtain ⟨g,c,gs,cs,p,t,e1,e2,e3,q⟩:=h.R
 have tr:τ r=[]:=by
  by_cases z:τ r=[]
  ·exact z
  ·exact absurd rfl (h.off r _ e1 z).1
 have tg:τ g=[]:=by
  by_cases z:τ g=[]
  ·exact z
  ·exact absurd rfl ((h.off g _ e2 z).2 _ _ _ _ e1).1
 have tc:τ c=[]:=by
  by_cases z:τ c=[]
  ·exact z
  ·exact absurd rfl ((h.off c _ e3 z).2 _ _ _ _ e1).2
 have e1':=k.keep _ _ e1 (by rw [tr];simp);refine ⟨⟨g,c,gs,cs,p,t,e1',k.keep _ _ e2 (by rw [tg];simp),k.keep _ _ e3 (by rw [tc];simp),q⟩,fun x o e t=> ?_,h.un.dom k.dom⟩;cases q:H x with
 | none=>exact absurd (h.un x q) t
 | some u=>
   obtain ⟨n,f⟩:=h.off x u q t;refine ⟨n,fun g' c' u' v' e'=> ?_⟩;rw [e1'] at e';cases e';exact f _ _ _ _ e1
theorem RT.same {τ:Tg} {H H':Hp} {r:Addr} (h:RT τ H r) (k:Same H H'):RT τ H' r:=h.stp (i:=0) (lW.of_same k)
theorem RT.kr {τ:Tg} {H H':Hp} {r:Addr} {i:Nat} (h:RT τ H r) (k:KR r H H'):Mv i τ H τ H':=⟨fun x o e t=>⟨k.1 _ _ e (h.off x o e (by
 rcases t with t|t
 ·rw [t];simp
 ·intro z;rw [z] at t;cases t)).1,rfl⟩,h.R.tups k.1⟩
theorem RT.keep {τ:Tg} {H H':Hp} {r x:Addr} {o:HO} (h:RT τ H r) (k:KR r H H') (e:H x=some o) (t:τ x≠[]):H' x=some o:=k.1 _ _ e (h.off x o e t).1
theorem RT.claim {τ:Tg} {H H':Hp} {r p:Addr} {t:List Nat} (h:RT τ H r) (k:Same H H') (hp:H p=none) (hp':∃o,H' p=some o):RT (aM τ p t) H' r:=by
 have h':=h.same k;refine ⟨h'.R,fun x o e n=> ?_,h.un.claim k hp'⟩
 by_cases z:x=p
 ·subst z
  exact ⟨h.R.ne hp,(h.R.off hp).same h.R k⟩
 ·rw [aP z] at n
  exact h'.off x o e n
theorem RT.made {τ τ':Tg} {H H':Hp} {r:Addr} (h:RT τ H r) (k:Same H H') (tg:∀x u,H x=some u->τ' x=τ x) (un:j8 τ' H'):RT τ' H' r:=by
 have h':=h.same k;refine ⟨h'.R,fun x o e n=> ?_,un⟩;cases q:H x with
 | some u=>exact h'.off x o e (by rw [←tg x u q];exact n)
 | none=>exact ⟨h.R.ne q,(h.R.off q).same h.R k⟩
theorem Tr:∀b:Fin 8,qm (Str.ofString "abcdefgh").cps.toList ((b.val:Nat):Int)=some (97+b.val):=by decide +kernel
theorem Eu {i:Int} (h0:0<=i) (h1:i<8):qm (Str.ofString "abcdefgh").cps.toList i=some (97+i.toNat):=by
 have:=Tr ⟨i.toNat,by omega⟩;simp only [Int.toNat_of_nonneg h0] at this;exact this
theorem EY:(Str.ofString "abcdefgh").length<=sizeLine:=by rw [sizeLine_eq];decide
theorem J9 {H:Hp} {p:Addr} {x:Hs} (h:H p=some (.tup (match x with | .num n=>[.str "number",.int n] | .box b=>[.str "box",.str (qg b)]))):Dat H (.ref p) (vI x):=by
 cases x<;>simp only [vI,Dat]<;>refine ⟨p,_,rfl,h, ?_⟩<;>simp only [bH,Dat,and_true]
theorem Oh {H:Hp} {p:Addr} {a b:V} {q:Bool} {x y:Hs} (h:H p=some (.tup [.str (if q then "plus" else "minus"),a,b])) (da:Dat H a (vI x)) (db:Dat H b (vI y)):Dat H (.ref p) (j4 (.two q x y)):=by
 simp only [j4,Dat];refine ⟨p,_,rfl,h, ?_⟩;simp only [bH,Dat,and_true];exact ⟨trivial,da,db⟩
def Dq (K:PySem.W.Frag):Sp:=fun vs H Q _=>∃(r:Addr) (b:Int),vs=[.ref r,.int b]/\dG H r/\0<b/\b<=8 /\ ∀(v:V) (x:Hs) (H':Hp),Dat H' v (vI x)->HB x->dG H' r->KR r H H'->Q v H'
theorem Je {f:Addr} {fd:FuncData} (F:fj K "_law_plain" "_law_plain" uf f fd) (bO:FnAt P w K mg base 1 "_law_draw" ["reel","many"] (gZ K)):bU P w K mg base gF 2 f fd ["reel","boxes"] (Dq K):=by
 refine F.ok vP (fun vs H Q E h=> ?_) (fun cdv A outer s H vs Q E hr h=> ?_)
 ·obtain ⟨r,b,rfl,_⟩:=h
  rfl
 ·obtain ⟨r,b,rfl,R,b0,b1,k⟩:=h
  refine ⟨_,(aB (aW (i:=2) vP.nd rfl (Or.inl rfl) (bF bO (hr.mono (by decide)) (by rfl) (aj (pv 0) (aj aA aq))))
   (aB (bL (aQ cA (pv 2) aA (aR _)) (aG (aV (cZ (aj bD (aj (bF bO (hr.mono (by decide)) (by rfl) (aj (pv 0) (aj aA aq))) aq))))) bw)
   (aB (bL (aQ cA (pv 2) aA (aR _)) (aG (aV (cZ (aj bD (aj (bF bO (hr.mono (by decide)) (by rfl) (aj (pv 0) (aj aA aq))) aq))))) bw)
   (aG (aV (cZ (aj bD (aj (aJ Cq bD (bF bO (hr.mono (by decide)) (by rfl) (aj (pv 0) (aj (pv 1) aq))) (fun _ _=>rfl)) aq)))))))), ?_⟩
  refine ⟨_,rfl,r,3,rfl,R,by decide,by decide,fun z H1 z0 z1 R1 k1=> ?_⟩
  have num:∀(H2:Hp) (n:Int) (p:Addr),0<=n->n<1000->dG H2 r->KR r H H2->H2 p=none->Q (.ref p) (upd H2 p (.tup [.str "number",.int n])):=fun H2 n p n0 n1 R2 k2 hp=>by
   have sp:=aF (o:=HO.tup [V.str (Str.ofString "number"),V.int n]) hp;exact k _ (.num n) _ (J9 (x:= .num n) ao) ⟨n0,n1⟩ (R2.keep sp) (k2.trans (KR.same R2 sp))
  refine ⟨_,rfl,rfl,_,rfl, ?_⟩;refine bK (fun _=> ?_) (fun _=> ?_)
  ·refine ⟨_,rfl,r,1000,rfl,R1,by decide,by decide,fun n H2 n0 n1 R2 k2=> ?_⟩
   exact ⟨(by show 2<=sizeLine;decide),fun p hp=>num H2 n p n0 n1 R2 (k1.trans k2) hp⟩
  refine ⟨_,rfl,rfl,_,rfl, ?_⟩;refine bK (fun _=> ?_) (fun _=> ?_)
  ·refine ⟨_,rfl,r,4,rfl,R1,by decide,by decide,fun n H2 n0 n1 R2 k2=> ?_⟩
   exact ⟨(by show 2<=sizeLine;decide),fun p hp=>num H2 n p n0 (by omega) R2 (k1.trans k2) hp⟩
  refine ⟨_,rfl,_,rfl,r,b,rfl,R1,b0,by omega,fun n H2 n0 n1 R2 k2=> ?_⟩;refine ⟨_,_,_,rfl,rfl,EY,Eu n0 (by omega),(by show 2<=sizeLine;decide),fun p hp=> ?_⟩;have sp:=aF (o:=HO.tup [V.str (Str.ofString "box"),V.str (qg n.toNat)]) hp;exact k _ (.box n.toNat) _ (J9 (x:= .box n.toNat) ao) (by show n.toNat<8;omega) (R2.keep sp) ((k1.trans k2).trans (KR.same R2 sp))
def Dn (K:PySem.W.Frag):Sp:=fun vs H Q _=>∃(r:Addr) (b:Int),vs=[.ref r,.int b]/\dG H r/\0<b/\b<=8 /\ ∀(v:V) (e:zj) (H':Hp),Dat H' v (j4 e)->nW e->dG H' r->KR r H H'->Q v H'
theorem Ja {f:Addr} {fd:FuncData} (F:fj K "_law_worth" "_law_worth" uc f fd) (bO:FnAt P w K mg base 1 "_law_draw" ["reel","many"] (gZ K)) (Az:FnAt P w K mg base 2 "_law_plain" ["reel","boxes"] (Dq K)):bU P w K mg base gF 3 f fd ["reel","boxes"] (Dn K):=by
 refine F.ok qH (fun vs H Q E h=> ?_) (fun cdv A outer s H vs Q E hr h=> ?_)
 ·obtain ⟨r,b,rfl,_⟩:=h
  rfl
 ·obtain ⟨r,b,rfl,R,b0,b1,k⟩:=h
  refine ⟨_,(aB (aW (i:=2) qH.nd rfl (Or.inl rfl) (bF bO (hr.mono (by decide)) (by rfl) (aj (pv 0) (aj aA aq))))
   (aB (aW (i:=3) qH.nd rfl (Or.inl rfl) (bF Az (hr.mono (by decide)) (by rfl) (aj (pv 0) (aj (pv 1) aq))))
   (aB (bL (aQ iY (pv 2) aA (aR _)) (aG (aV (pv 3))) bw)
   (aG (aV (cZ (aj (aJ (aH (K:=K) rfl) (cC (aj bD (aj bD aq))) (bQ mW (pv 2) aA) (fun _ _=>rfl)) (aj (pv 3) (aj (bF Az (hr.mono (by decide)) (by rfl) (aj (pv 0) (aj (pv 1) aq))) aq))))))))), ?_⟩
  refine ⟨_,rfl,r,4,rfl,R,by decide,by decide,fun z H1 z0 z1 R1 k1=> ?_⟩;refine ⟨_,rfl,_,rfl,r,b,rfl,R1,b0,b1,fun v x H2 dx xo R2 k2=> ?_⟩;refine ⟨_,rfl,_,_,rfl,rfl,_,rfl, ?_⟩;have k12:=k1.trans k2;refine bK (fun _=> ?_) (fun zz=> ?_)
  ·exact ⟨_,rfl,k v (.one x) H2 dx xo R2 k12⟩
  have z2:2<=z:=by simp at zz;omega
  refine ⟨(by show 2<=sizeLine;decide),fun l hl=> ?_⟩;have sl:=aF (o:=HO.lst [V.str (Str.ofString "plus"),V.str (Str.ofString "minus")]) hl
  obtain ⟨q,eq⟩:∃q:Bool,qm [V.str (Str.ofString "plus"),V.str (Str.ofString "minus")] (z - 2)=some (.str (if q then "plus" else "minus")):=by
   have:z=2\/z=3:=by omega
   rcases this with rfl|rfl
   ·exact ⟨true,rfl⟩
   ·exact ⟨false,rfl⟩
  refine ⟨_,rfl,_,_,rfl,rfl,_,_,_,_,rfl,rfl,aY.of ao,eq, ?_⟩;have R3:=R2.keep sl;refine ⟨_,rfl,_,rfl,_,rfl,r,b,rfl,R3,b0,b1,fun u y H4 dy yo R4 k4=> ?_⟩;refine ⟨(by show 3<=sizeLine;decide),fun p hp=> ?_⟩;have sp:=aF (o:=HO.tup [V.str (if q then "plus" else "minus"),v,u]) hp;have dx4:=dx.keep (fun a xs e=>sp _ _ (k4.tups R3 _ _ (sl _ _ e))) _ (Cv x);exact k _ (.two q x y) _ (Oh ao dx4 (dy.same sp _)) ⟨xo,yo⟩ (R4.keep sp) (((k12.trans (KR.same R2 sl)).trans k4).trans (KR.same R4 sp))
def vO (n:Nat) (K:PySem.W.Frag):Sp:=fun vs H Q _=>∃(b:Addr) (v:V) (e:zj) (bs:List Int),vs=[.ref b,v]/\H b=some (.lst (bs.map V.int))/\bs.length=8/\Dat H v (j4 e)/\nW e/\rG e<=n/\Q (.int (vx bs e)) H
theorem Mx {f:Addr} {fd:FuncData} (F:fj K "_law_now" "_law_now" xJ f fd):bU P w K mg base gF 1 f fd ["boxes","told"] (vO 0 K):=by
 refine F.ok Dv (fun vs H Q E h=> ?_) (fun cdv A outer s H vs Q E hr h=> ?_)
 ·obtain ⟨b,v,e,bs,rfl,_,_,_,_,z,_⟩:=h
  cases e<;>simp [rG] at z
 ·obtain ⟨b,v,e,bs,rfl,_,_,_,_,z,_⟩:=h
  cases e<;>simp [rG] at z
theorem D_ {n:Nat} {f:Addr} {fd:FuncData} (F:fj K "_law_now" "_law_now" xJ f fd) (jA:FnAt P w K mg base (n+1) "_law_now" ["boxes","told"] (vO n K)):bU P w K mg base gF (n+1+1) f fd ["boxes","told"] (vO (n+1) K):=by
 refine F.ok Dv (fun vs H Q E h=> ?_) (fun cdv A outer s H vs Q E hr h=> ?_)
 ·obtain ⟨b,v,e,bs,rfl,_⟩:=h
  rfl
 ·obtain ⟨bb,v,e,bs,rfl,hb,bl,d,eo,dp,k⟩:=h
  refine ⟨_,(aB (bL (aQ cA (aJ (aU (K:=K) rfl) (pv 1) aA (fun _ _=>rfl)) bD (aR _)) (aG (aV (aJ (aU (K:=K) rfl) (pv 1) aA (fun _ _=>rfl)))) bw)
   (aB (bL (aQ cA (aJ (aU (K:=K) rfl) (pv 1) aA (fun _ _=>rfl)) bD (aR _)) (aG (aV (aJ (aH (K:=K) rfl) (pv 0) (o8 (K:=K) rfl PySem.F.plainAttrs_str PySem.F.slot_str_index PySem.F.type_str_index jZ bD (aj (aJ (aU (K:=K) rfl) (pv 1) aA (fun _ _=>rfl)) aq)) (fun _ _=>rfl)))) bw)
   (aB (bL (aQ cA (aJ (aU (K:=K) rfl) (pv 1) aA (fun _ _=>rfl)) bD (aR _)) (aG (aV (bQ iQ (bQ eG (bF jA (hr.mono (Nat.le_refl _)) (by rfl) (aj (pv 0) (aj (aJ (aU (K:=K) rfl) (pv 1) aA (fun _ _=>rfl)) aq))) (bF jA (hr.mono (Nat.le_refl _)) (by rfl) (aj (pv 0) (aj (aJ (aU (K:=K) rfl) (pv 1) aA (fun _ _=>rfl)) aq)))) aA))) bw)
   (aG (aV (bQ iQ (bQ mW (bF jA (hr.mono (Nat.le_refl _)) (by rfl) (aj (pv 0) (aj (aJ (aU (K:=K) rfl) (pv 1) aA (fun _ _=>rfl)) aq))) (bF jA (hr.mono (Nat.le_refl _)) (by rfl) (aj (pv 0) (aj (aJ (aU (K:=K) rfl) (pv 1) aA (fun _ _=>rfl)) aq)))) aA)))))), ?_⟩
  match e,d,eo,dp,k with
  | .one (.num m),d,eo,dp,k=>
    obtain ⟨t,rfl,ht⟩:=Ez (x:= .num m) d;refine ⟨_,rfl,_,_,_,_,rfl,rfl,cu.of ht,rfl,rfl,_,rfl, ?_⟩;refine bK (fun _=> ?_) (fun z=>absurd (decide_eq_true rfl) z);refine ⟨_,rfl,_,_,_,_,rfl,rfl,cu.of ht,rfl, ?_⟩;have e0:0<=m/\m<1000:=eo;have:vx bs (.one (.num m))=m:=Int.emod_eq_of_lt e0.1 e0.2;rw [this] at k;exact k
  | .one (.box b),d,eo,dp,k=>
    obtain ⟨t,rfl,ht⟩:=Ez (x:= .box b) d;refine ⟨_,rfl,_,_,_,_,rfl,rfl,cu.of ht,rfl,rfl,_,rfl, ?_⟩;refine bK (fun z=>absurd (of_decide_eq_true z) (by decide)) (fun _=> ?_);refine ⟨_,rfl,_,_,_,_,rfl,rfl,cu.of ht,rfl,rfl,_,rfl, ?_⟩;refine bK (fun _=> ?_) (fun z=>absurd (decide_eq_true rfl) z);have hb8:b<8:=eo;refine ⟨_,rfl,rfl,_,rfl,_,_,_,_,rfl,rfl,cu.of ht,rfl,_,_,b,[],rfl,rfl,qZ hb8,_,_,_,_,rfl,rfl,aY.of hb,bW (v:= .int ((bs[b]?).getD 0)) ?_,k⟩;have hl:b<bs.length:=by rw [bl];exact hb8
    rw [List.getElem?_map,List.getElem?_eq_getElem hl];rfl
  | .two p x y,d,eo,dp,k=>
    obtain ⟨t,u,w',rfl,ht,du,dw⟩:=Ks d;have e1:nW (.one x)/\nW (.one y):=eo
    have dn:1<=n:=by
     have:2<=n+1:=dp;omega
    have np:∀q:Bool,(Str.ofString "number")≠(if q then Str.ofString "plus" else Str.ofString "minus"):=by decide +kernel
    have nb:∀q:Bool,(Str.ofString "box")≠(if q then Str.ofString "plus" else Str.ofString "minus"):=by decide +kernel
    refine ⟨_,rfl,_,_,_,_,rfl,rfl,cu.of ht,rfl,rfl,_,rfl, ?_⟩;refine bK (fun z=>absurd (by simpa using (of_decide_eq_true z).symm) (np p)) (fun _=> ?_);refine ⟨_,rfl,_,_,_,_,rfl,rfl,cu.of ht,rfl,rfl,_,rfl, ?_⟩;refine bK (fun z=>absurd (by simpa using (of_decide_eq_true z).symm) (nb p)) (fun _=> ?_);refine ⟨_,rfl,_,_,_,_,rfl,rfl,cu.of ht,rfl,rfl,_,rfl, ?_⟩;cases p with
    | true=>
      refine bK (fun _=> ?_) (fun z=>absurd (decide_eq_true rfl) z);exact ⟨_,rfl,_,rfl,_,_,_,_,rfl,rfl,cu.of ht,rfl,bb,u,.one x,bs,rfl,hb,bl,du,e1.1,dn,_,rfl,_,rfl,_,_,_,_,rfl,rfl,cu.of ht,rfl,bb,w',.one y,bs,rfl,hb,bl,dw,e1.2,dn,_,_,rfl,rfl,_,_,rfl,rfl,(by show (0:Int)<1000;decide),k⟩
    | false=>
      refine bK (fun z=>absurd (of_decide_eq_true z) (by decide)) (fun _=> ?_);exact ⟨_,rfl,_,rfl,_,_,_,_,rfl,rfl,cu.of ht,rfl,bb,u,.one x,bs,rfl,hb,bl,du,e1.1,dn,_,rfl,_,rfl,_,_,_,_,rfl,rfl,cu.of ht,rfl,bb,w',.one y,bs,rfl,hb,bl,dw,e1.2,dn,_,_,rfl,rfl,_,_,rfl,rfl,(by show (0:Int)<1000;decide),k⟩
section
variable {H:Hp} {p:Addr} {x y:V} {b c n:Nat} {e f:zj}
theorem Kc (h:H p=some (.tup [.str "load",.str (qg b),.int c])):Dat H (.ref p) (jg (.load b c)):=by
 simp only [jg,Dat];exact ⟨p,_,rfl,h,by simp only [bH,Dat,and_true]⟩
theorem GJ (h:H p=some (.tup [.str "store",.int c,x])) (d:Dat H x (j4 e)):Dat H (.ref p) (jg (.store c e)):=by
 simp only [jg,Dat];exact ⟨p,_,rfl,h,by simp only [bH,Dat,and_true,true_and];exact d⟩
theorem J_ (h:H p=some (.tup [.str "swap",.str (qg b),.int c,x])) (d:Dat H x (j4 e)):Dat H (.ref p) (jg (.swap b c e)):=by
 simp only [jg,Dat];exact ⟨p,_,rfl,h,by simp only [bH,Dat,and_true,true_and];exact d⟩
theorem Oj (h:H p=some (.tup [.str "let",.str (qg b),x])) (d:Dat H x (j4 e)):Dat H (.ref p) (jg (.pC b e)):=by
 simp only [jg,Dat];exact ⟨p,_,rfl,h,by simp only [bH,Dat,and_true,true_and];exact d⟩
theorem Oi (h:H p=some (.tup [.str "say",x])) (d:Dat H x (j4 e)):Dat H (.ref p) (jg (.say e)):=by
 simp only [jg,Dat];exact ⟨p,_,rfl,h,by simp only [bH,Dat,and_true,true_and];exact d⟩
theorem Ti (h:H p=some (.tup [.str "go",.int n])):Dat H (.ref p) (jg (.go n)):=by
 simp only [jg,Dat];exact ⟨p,_,rfl,h,by simp only [bH,Dat,and_true]⟩
theorem Og {q:Bool} (h:H p=some (.tup [.str "unless",.str (if q then "=" else "<"),x,y,.int n])) (d:Dat H x (j4 e)) (d':Dat H y (j4 f)):Dat H (.ref p) (jg (.oh q e f n)):=by
 simp only [jg,Dat];exact ⟨p,_,rfl,h,by simp only [bH,Dat,and_true,true_and];exact ⟨d,d'⟩⟩
end
def qz (CH:Addr) (K:PySem.W.Frag):Sp:=fun vs H Q _=>∃(A:mD) (s:aO),vs=[.ref A.h]/\lH CH H A s /\ ∀(B:mD) (H':Hp),H B.h=none->H B.b=none->H B.sy=none->B.r=A.r->lH CH H' B s->Same H H'->Q (.ref B.h) H'
theorem Q5 (r b b' sy:Addr) (n:Int) (st:Str):cX "in_boxes" (.ref b') (hF r n b sy st)=hF r n b' sy st:=by rfl
theorem Q0 (r b sy sy':Addr) (n:Int) (st:Str):cX "sayings" (.ref sy') (hF r n b sy st)=hF r n b sy' st:=by rfl
theorem Ca {au:Addr} {f:Addr} {fd:FuncData} (F:fj K "another" "Hand.another" jr f fd) (aL:dO K au) (CT:lF P w K mg base 1 au "Hand" ["self","rows"] [] (rZ au K)) (Bt:mC mg):bU P w K mg base gF 3 f fd ["self"] (qz au K):=by
 refine F.ok lM (fun vs H Q E h=> ?_) (fun cdv A outer s H vs Q E hr h=> ?_)
 ·obtain ⟨A,s,rfl,_⟩:=h
  rfl
 ·obtain ⟨B,s,rfl,c,k⟩:=h
  refine ⟨_,(aB (aW (i:=1) lM.nd rfl (Or.inl rfl) (jY CT (hr.mono (by decide)) (by rfl) (aj (bJ (K:=K) rfl (pv 0) rfl) aq)))
   (aB (dD (K:=K) rfl (pv 1) (bJ (K:=K) rfl (pv 0) rfl) rfl)
   (aB (dD (K:=K) rfl (pv 1) (bT (bG (K:=K) rfl) (by rfl) Bt.dg cN (aj (bJ (K:=K) rfl (pv 0) rfl) aq)) rfl)
   (aB (dD (K:=K) rfl (pv 1) (bT (bG (K:=K) rfl) (by rfl) Bt.dg cN (aj (bJ (K:=K) rfl (pv 0) rfl) aq)) rfl)
   (aB (dD (K:=K) rfl (pv 1) (bJ (K:=K) rfl (pv 0) rfl) rfl)
   (aG (aV (pv 1)))))))), ?_⟩
  refine ⟨_,rfl,B.h,au,B.hx,_,_,rfl,c.h,aL.cls,aL.mY,rfl,fun h hx hh hhx nx=> ?_⟩;have hh':(upd H hx (.own h)) h=none:=by rw [aD nx.symm];exact hh
  have sm:Same H (upd (upd H hx (.own h)) h (.ins au hx [])):=(aF hhx).trans (aF hh');refine ⟨h,B.r,hx,rfl,ao,fun b0 Lg H1 hb0 aem ad5 e1 eb1 aeP k1=>⟨rfl, ?_⟩⟩;have S1:Same H H1:=fun x u e=>k1 _ _ (sm _ _ e) (aC e hh);clear k1 sm hh';have c1:=c.same S1;refine ⟨_,rfl,B.h,au,B.hx,_,_,rfl,c1.h,aL.cls,aL.pZ,rfl,_,rfl,h,au,hx,_,rfl,e1,aL.cls,aL.pZ,(by show 5<1000;decide), ?_⟩;rw [uo];have S2:Same H (upd H1 h (.ins au hx (hF B.r s.pos b0 Lg "waits"))):=fun x u e=>by rw [aD (aC e hh)];exact S1 _ _ e
  have e2:(upd H1 h (.ins au hx (hF B.r s.pos b0 Lg "waits"))) h=some (.ins au hx (hF B.r s.pos b0 Lg "waits")):=ao;generalize (upd H1 h (.ins au hx (hF B.r s.pos b0 Lg "waits")))=H2 at S2 e2 ⊢;have c2:=c.same S2;refine ⟨_,rfl,B.h,au,B.hx,_,_,rfl,c2.h,aL.cls,aL.gD,rfl,B.b,_,rfl,.inl (aY.of c2.b),fun b hb=> ?_⟩;have sb:=aF (o:=HO.lst (s.bs.map V.int)) hb;have vW:b≠h:=(aC e2 hb).symm;refine ⟨_,rfl,h,au,hx,_,rfl,sb _ _ e2,aL.cls,aL.gD,(by show 5<1000;decide), ?_⟩;rw [Q5];have fb:H b=none:=S2.free hb;have S3:Same H (upd (upd H2 b (.lst (s.bs.map V.int))) h (.ins au hx (hF B.r s.pos b Lg "waits"))):=fun x u e=>by rw [aD (aC e hh)];exact sb _ _ (S2 _ _ e)
  have e3:(upd (upd H2 b (.lst (s.bs.map V.int))) h (.ins au hx (hF B.r s.pos b Lg "waits"))) h=some (.ins au hx (hF B.r s.pos b Lg "waits")):=ao;have eb3:(upd (upd H2 b (.lst (s.bs.map V.int))) h (.ins au hx (hF B.r s.pos b Lg "waits"))) b=some (.lst (s.bs.map V.int)):=by rw [aD vW,ao]
  generalize (upd (upd H2 b (.lst (s.bs.map V.int))) h (.ins au hx (hF B.r s.pos b Lg "waits")))=H3 at S3 e3 eb3 ⊢;have c3:=c.same S3;refine ⟨_,rfl,B.h,au,B.hx,_,_,rfl,c3.h,aL.cls,aL.jh,rfl,B.sy,_,rfl,.inl (aY.of c3.y),fun y hy=> ?_⟩;have sy:=aF (o:=HO.lst (s.sy.map V.int)) hy;have yj:y≠h:=(aC e3 hy).symm;have pL:b≠y:=aC eb3 hy;refine ⟨_,rfl,h,au,hx,_,rfl,sy _ _ e3,aL.cls,aL.jh,(by show 5<1000;decide), ?_⟩;rw [Q0];have fy:H y=none:=S3.free hy;have S4:Same H (upd (upd H3 y (.lst (s.sy.map V.int))) h (.ins au hx (hF B.r s.pos b y "waits"))):=fun x u e=>by rw [aD (aC e hh)];exact sy _ _ (S3 _ _ e)
  have e4:(upd (upd H3 y (.lst (s.sy.map V.int))) h (.ins au hx (hF B.r s.pos b y "waits"))) h=some (.ins au hx (hF B.r s.pos b y "waits")):=ao;have eb4:(upd (upd H3 y (.lst (s.sy.map V.int))) h (.ins au hx (hF B.r s.pos b y "waits"))) b=some (.lst (s.bs.map V.int)):=by rw [aD vW];exact sy _ _ eb3
  have ey4:(upd (upd H3 y (.lst (s.sy.map V.int))) h (.ins au hx (hF B.r s.pos b y "waits"))) y=some (.lst (s.sy.map V.int)):=by rw [aD yj,ao]
  generalize (upd (upd H3 y (.lst (s.sy.map V.int))) h (.ins au hx (hF B.r s.pos b y "waits")))=H4 at S4 e4 eb4 ey4 ⊢;have c4:=c.same S4;refine ⟨_,rfl,B.h,au,B.hx,_,_,rfl,c4.h,aL.cls,aL.ig,rfl,_,rfl,h,au,hx,_,rfl,e4,aL.cls,aL.ig,(by show 5<1000;decide), ?_⟩;rw [xT];exact ⟨_,rfl,k ⟨h,hx,B.r,b,y⟩ _ hh fb fy rfl ⟨ao,by rw [aD vW];exact eb4,by rw [aD yj];exact ey4,pL,c.bl⟩ (fun x u e=>by rw [aD (aC e hh)];exact S4 _ _ e)⟩
def wQ (CW CH:Addr) (K:PySem.W.Frag):Sp:=fun vs H Q _=>∃(i i':Nat) (τ:Tg) (W:oE) (S:ji),vs=[.ref W.o]/\jD CW CH i τ H W S/\lZ S/\S.m<=100/\i'≠0 /\ ∀(τ':Tg) (W':oE) (H':Hp),jD CW CH i' τ' H' W' S->(∀x u,H x=some u->τ' x=τ x)->Same H H'->Q (.ref W'.o) H'
theorem Mq {ak au bN:Addr} {f:Addr} {fd:FuncData} (F:fj K "twin" "Works.twin" kI f fd) (aK:cM K ak) (aL:dO K au) (yW:lF P w K mg base 7 ak "Works" ["self","program","cells"] [] (fun vs H Q _=>gG ak au bN K vs H Q fun _ _ _=>False)) (vd:MethAt P w K mg base 3 au "another" ["self"] (qz au K)) (Bt:mC mg):bU P w K mg base gF 9 f fd ["self"] (wQ ak au K):=by
 refine F.ok ou (fun vs H Q E h=> ?_) (fun cdv A outer s H vs Q E hr h=> ?_)
 ·obtain ⟨i,i',τ,W,S,rfl,_⟩:=h
  rfl
 ·obtain ⟨i,i',τ,W,S,rfl,w,g,ml,i0,k⟩:=h
  refine ⟨_,(aB (aW (i:=1) ou.nd rfl (Or.inl rfl) (jY yW (hr.mono (by decide)) (by rfl) (aj (bJ (K:=K) rfl (pv 0) rfl) (aj (bJ (K:=K) rfl (pv 0) rfl) aq))))
   (aB (dD (K:=K) rfl (pv 1) (cI rfl (N:=["one"]) (own:=["one"]) (caps:=[]) (bh.of (by kernel_rfl)) (cj (K:=K) rfl (bJ (K:=K) rfl (pv 0) rfl)) (fun _ _ _ _=>(bI (i:=0) (show List.Nodup (["one"]:List Str) by decide +kernel) rfl (Or.inl rfl))) (fun _ _ _ _=>cB) (fun _ _ _ _=>(cY vd aL.cls (hr.mono (by decide)) (pv 0)))) rfl)
   (aB (dD (K:=K) rfl (pv 1) (bT (bG (K:=K) rfl) (by rfl) Bt.dg cN (aj (bJ (K:=K) rfl (pv 0) rfl) aq)) rfl)
   (aG (aV (pv 1)))))), ?_⟩
  have good:pB S.m S.ns:=⟨by rw [w.nl],g.n⟩;refine ⟨_,rfl,W.o,ak,W.dx,_,_,rfl,w.o,aK.cls,aK.nP,rfl,_,rfl,W.o,ak,W.dx,_,_,rfl,w.o,aK.cls,aK.gU,rfl,fun o dx ho hdx ndx=> ?_⟩;have ho':(upd H dx (.own o)) o=none:=by rw [aD ndx.symm];exact ho
  have sm:Same H (upd (upd H dx (.own o)) o (.ins ak dx [])):=(aF hdx).trans (aF ho');refine ⟨i',τ,o,dx,W.pg,W.L,W.rs,S.m,.ref W.nb,S.ns,S.hs.map aO.rws,rfl,ao,sm _ _ w.pg,sm _ _ w.L,by rw [List.length_map];exact w.rl,fun kk r x h1 h2=> ?_,by rw [List.length_map];exact w.hn,ml,w.un.same sm,i0,by rw [w.nl];exact ml,.inr ⟨W.nb,rfl,sm _ _ w.nb⟩,fun _ τ1 W1 H1 eo w1 tg kp=>⟨rfl, ?_⟩,fun bad=>absurd good bad⟩
  ·rw [List.getElem?_map] at h2
   cases e:S.hs[kk]? with
   | none=>rw [e] at h2;cases h2
   | some s=>rw [e] at h2;cases h2;exact (w.rs kk r s h1 e).2.same sm
  have S1:Same H H1:=fun x u e=>kp _ _ (sm _ _ e) (aC e ho);have G9:∀x u,H x=some u->τ1 x=τ x:=fun x u e=>tg x u (sm _ _ e) (aC e ho);have fo:H W1.o=none:=by rw [eo];exact ho
  have YF:V.ref o=V.ref W1.o:=by rw [eo]
  rw [YF];clear kp tg sm ho' YF;have wA:jD ak au i τ1 H1 W S:=w.mv (Mv.tags S1 G9) w1.un;refine ⟨_,rfl,W.o,ak,W.dx,_,_,rfl,wA.o,aK.cls,aK.jC,rfl,W.hl,rfl,⟨_,aY.of wA.hl⟩,fun D hD=> ?_⟩;have sD:=aF (o:=HO.lst []) hD;refine eE (K:=K) (xs:=W.hd.map fun a=>V.ref a.h) (fun j σ Hc=>∃(v:Option V) (τc:Tg) (hd:List mD),σ=[v]/\hd.length=j/\Same H1 Hc/\Hc D=some (.lst (hd.map fun a=> .ref a.h))/\j8 τc Hc/\(∀x u,H1 x=some u->τc x=τ1 x)/\τc D=[i',2] /\ ∀(k:Nat) (A:mD) (s:aO),hd[k]? = some A->S.hs[k]? = some s->rT au i' k S.m τc Hc A s) ?_ ?_ ?_ ?_
  ·exact ⟨none,aM τ1 D [i',2],[],rfl,rfl,sD,ao,w1.un.claim sD ⟨_,ao⟩,fun x u e=>aP (aC e hD),bB,fun k A s e=>by simp at e⟩
  ·rintro j σ Hc _ ⟨v,τc,hd,rfl,_,sc,_⟩
   exact aY.of (sc _ _ wA.hl)
  ·rintro j x σ Hc hj ⟨v,τc,hd,rfl,lj,sc,zf,KD,zc,tDc,hc⟩
   rw [List.getElem?_map] at hj
   obtain ⟨A,eA,rfl⟩:∃A,W.hd[j]? = some A/\x = .ref A.h:=by
    cases e:W.hd[j]? with
    | none=>rw [e] at hj;cases hj
    | some A=>rw [e] at hj;exact ⟨A,rfl,(Option.some.inj hj).symm⟩
   have wc:jD ak au i τc Hc W S:=wA.mv (Mv.tags sc zc) KD;have jl:j<S.hs.length:=by rw [←w.len];exact (List.getElem?_eq_some_iff.mp eA).1
   have es:S.hs[j]? = some S.hs[j]:=by simp [jl]
   have a:=wc.hd j A _ eA es;dsimp only [bV,oJ];rw [if_pos rfl];refine ⟨_,rfl,A.h,A.hx,_,rfl,a.c.h,rfl,A,_,rfl,a.c,fun B H7 fh fb fy er c7 s7=> ?_⟩;have nDh:D≠B.h:=aC zf fh;have nDb:D≠B.b:=aC zf fb;have nDy:D≠B.sy:=aC zf fy;have T:∀x u,Hc x=some u->aM (aM (aM τc B.h [i',4,j]) B.b [i',5,j]) B.sy [i',6,j] x=τc x:=fun y u e=>by rw [aP (aC e fy),aP (aC e fb),aP (aC e fh)]
   have U7:j8 (aM (aM (aM τc B.h [i',4,j]) B.b [i',5,j]) B.sy [i',6,j]) H7:=fun y e=>by
    have n1:y≠B.h:=fun z=>by rw [z,c7.h] at e;cases e
    have n2:y≠B.b:=fun z=>by rw [z,c7.b] at e;cases e
    have n3:y≠B.sy:=fun z=>by rw [z,c7.y] at e;cases e
    rw [aP n3,aP n2,aP n1];exact KD y (s7.free e)
   have Th:aM (aM (aM τc B.h [i',4,j]) B.b [i',5,j]) B.sy [i',6,j] B.h=[i',4,j]:=by rw [aP c7.yj,aP c7.vW,bB]
   have Tb:aM (aM (aM τc B.h [i',4,j]) B.b [i',5,j]) B.sy [i',6,j] B.b=[i',5,j]:=by rw [aP c7.pL,bB]
   have Ty:aM (aM (aM τc B.h [i',4,j]) B.b [i',5,j]) B.sy [i',6,j] B.sy=[i',6,j]:=bB;generalize aM (aM (aM τc B.h [i',4,j]) B.b [i',5,j]) B.sy [i',6,j]=τ7 at T U7 Th Tb Ty
   have q7:lX [[i',2]] τc Hc τ7 (upd H7 D (.lst ((hd.map fun a=>V.ref a.h)++[V.ref B.h]))):=by
    refine ⟨fun y u e n=>⟨?_,T y u e⟩,fun y ys e=> ?_⟩
    ·rw [aD (fun z:y=D=>n (by rw [z,tDc];simp))]
     exact s7 _ _ e
    ·rw [aD (cG e zf (by intro z;cases z))]
     exact s7 _ _ e
   have hjl:hd.length<=100:=by rw [lj];have:=w.hn;omega
   refine ⟨_,s7 _ _ zf,(by rw [List.length_map,sizeLine_eq];omega),some (.ref A.h),τ7,hd++[B],rfl,by simp [lj],fun y u e=> ?_,by rw [ao];simp, ?_,fun y u e=> ?_, ?_, ?_⟩
   ·rw [aD (aC e hD)]
    exact s7 _ _ (sc _ _ e)
   ·exact U7.dom fun y e=>by
     by_cases z:y=D
     ·rw [z,ao] at e;cases e
     ·rw [aD z] at e;exact e
   ·rw [T y u (sc _ _ e)]
    exact zc y u e
   ·rw [T _ _ zf];exact tDc
   ·intro k A' s' h1 h2
    rcases fW h1 with h1|⟨e1,rfl⟩
    ·exact (hc k A' s' h1 h2).Jt q7 (by simp) (by simp) (by simp) (by simp)
    ·rw [e1,lj,es] at h2
     cases h2;rw [e1,lj];obtain ⟨t9,R9⟩:=fV ⟨a.tr,a.r⟩ q7 (by simp);exact ⟨⟨by rw [aD nDh.symm];exact c7.h,by rw [aD nDb.symm];exact c7.b,by rw [aD nDy.symm];exact c7.y,c7.pL,c7.bl⟩,by rw [er];exact R9,by rw [er];exact t9,Th,Tb,Ty⟩
  rintro σ H8 ⟨v,τ8,hd,rfl,Wo,Yi,YD,un8,Le,tD8,Yy⟩;rw [List.length_map] at Wo;have WD:=Yi _ _ w1.o;have QB:τ8 W1.o=[i',0]:=by rw [Le _ _ w1.o];exact w1.to
  refine ⟨_,rfl,W1.o,ak,W1.dx,_,rfl,WD,aK.cls,aK.jC,(by show 4<1000;decide), ?_⟩;have ho9:(upd H8 W1.o (.ins ak W1.dx (cX "hands" (.ref D) (wF W1.pg W1.nb W1.hl W1.tn)))) W1.o=some (.ins ak W1.dx (wF W1.pg W1.nb D W1.tn)):=ao;have q9:lX [[i',0]] τ8 H8 τ8 (upd H8 W1.o (.ins ak W1.dx (cX "hands" (.ref D) (wF W1.pg W1.nb W1.hl W1.tn)))):=lX.set (by rw [QB];simp) WD (by intro xs z;cases z)
  have Uj:j8 τ8 (upd H8 W1.o (.ins ak W1.dx (cX "hands" (.ref D) (wF W1.pg W1.nb W1.hl W1.tn)))):=un8.dom fun y e=>by
   by_cases z:y=W1.o
   ·rw [z,ao] at e;cases e
   ·rw [aD z] at e;exact e
  have S9:Same H (upd H8 W1.o (.ins ak W1.dx (cX "hands" (.ref D) (wF W1.pg W1.nb W1.hl W1.tn)))):=fun x u e=>by rw [aD (aC e fo)];exact Yi _ _ (S1 _ _ e)
  generalize (upd H8 W1.o (.ins ak W1.dx (cX "hands" (.ref D) (wF W1.pg W1.nb W1.hl W1.tn))))=H9 at ho9 q9 Uj S9 ⊢;have w9:jD ak au i τ8 H9 W S:=w.mv (Mv.tags S9 fun x u e=>(Le x u (S1 _ _ e)).trans (G9 x u e)) Uj;refine ⟨_,rfl,W.o,ak,W.dx,_,_,rfl,w9.o,aK.cls,aK.nO,rfl,W.tn,_,rfl,.inl (aY.of w9.tn),fun t ht=> ?_⟩;have st:=aF (o:=HO.lst (S.ts.map V.int)) ht;have nto:t≠W1.o:=(aC ho9 ht).symm;refine ⟨_,rfl,W1.o,ak,W1.dx,_,rfl,st _ _ ho9,aK.cls,aK.nO,(by show 4<1000;decide), ?_⟩;have Gw:(upd (upd H9 t (.lst (S.ts.map V.int))) W1.o (.ins ak W1.dx (cX "turns" (.ref t) (wF W1.pg W1.nb D W1.tn)))) W1.o=some (.ins ak W1.dx (wF W1.pg W1.nb D t)):=ao;have Wv:(upd (upd H9 t (.lst (S.ts.map V.int))) W1.o (.ins ak W1.dx (cX "turns" (.ref t) (wF W1.pg W1.nb D W1.tn)))) t=some (.lst (S.ts.map V.int)):=by rw [aD nto,ao]
  have FQ:lX [[i',0]] τ8 H9 (aM τ8 t [i',3]) (upd (upd H9 t (.lst (S.ts.map V.int))) W1.o (.ins ak W1.dx (cX "turns" (.ref t) (wF W1.pg W1.nb D W1.tn)))):=(lX.claim st ht).trans (lX.set (by rw [aP nto.symm,QB];simp) (st _ _ ho9) (by intro xs z;cases z))
  have Qz:j8 (aM τ8 t [i',3]) (upd (upd H9 t (.lst (S.ts.map V.int))) W1.o (.ins ak W1.dx (cX "turns" (.ref t) (wF W1.pg W1.nb D W1.tn)))):=(Uj.claim st ⟨_,ao⟩).dom fun y e=>by
   by_cases z:y=W1.o
   ·rw [z,ao] at e;cases e
   ·rw [aD z] at e;exact e
  have S10:Same H (upd (upd H9 t (.lst (S.ts.map V.int))) W1.o (.ins ak W1.dx (cX "turns" (.ref t) (wF W1.pg W1.nb D W1.tn)))):=fun x u e=>by rw [aD (aC e fo)];exact st _ _ (S9 _ _ e)
  have Ft:aM τ8 t [i',3] W1.o=[i',0]:=by rw [aP nto.symm];exact QB
  have Fq:aM τ8 t [i',3] t=[i',3]:=bB;have tgt:∀x u,H x=some u->aM τ8 t [i',3] x=τ x:=fun x u e=>by rw [aP (aC (S9 _ _ e) ht)];exact (Le x u (S1 _ _ e)).trans (G9 x u e)
  have Q18:lX [[i',0]] τ1 H1 τ8 H8:=⟨fun x u e _=>⟨Yi _ _ e,Le x u e⟩,Yi.tups⟩;have Q8:=q9.trans FQ;generalize (upd (upd H9 t (.lst (S.ts.map V.int))) W1.o (.ins ak W1.dx (cX "turns" (.ref t) (wF W1.pg W1.nb D W1.tn))))=G5 at Gw Wv FQ Qz S10 Q8 ⊢;generalize aM τ8 t [i',3]=vg at FQ Qz Ft Fq tgt Q8;have Q1:=Q18.trans Q8;have hL:=Q1.keep _ _ w1.L (by rw [w1.tL];simp);have hnb:=Q1.keep _ _ w1.nb (by rw [w1.tb];simp);have K6:=Q8.keep _ _ YD (by rw [tD8];simp);refine ⟨_,rfl,k vg ⟨W1.o,W1.dx,W1.pg,W1.L,W1.nb,D,t,W1.rs,hd⟩ G5 ⟨Qz,i0,Gw,Q1.tup _ _ w1.pg,hL.1,hnb.1,K6.1,Wv,Ft,hnb.2.trans w1.tb,K6.2.trans tD8,Fq,hL.2.trans w1.tL, ?_, ?_,by rw [Wo,w.len],fun kk A s h1 h2=>(Yy kk A s h1 h2).Jt Q8 (by simp) (by simp) (by simp) (by simp),w.ok,w.sl,w.nl,w.hn⟩ tgt S10⟩
  ·have:=w1.rl
   unfold lE at this;simpa using this
  ·intro kk r s h1 h2
   have e1:(lE S.m S.ns (S.hs.map aO.rws)).hs[kk]? = some (lead (new s.rws)):=by
    show ((S.hs.map aO.rws).map fun r=>lead (new r))[kk]? = _;rw [List.getElem?_map,List.getElem?_map,h2];rfl
   have:=w1.rs kk r _ h1 e1;rw [show (lead (new s.rws)).rws=s.rws from k_ _ _] at this;exact fV this Q1 (by simp)
def Il (s:aO):V:=if s.st = "waits" then .int s.pos else .non
def Bo (CH:Addr) (K:PySem.W.Frag):Sp:=fun vs H Q _=>∃(A:mD) (s:aO),vs=[.ref A.h]/\lH CH H A s /\ ∀(t:Addr) (H':Hp),Dat (nw H H') (.ref t) (jW s)->Same H H'->Q (.ref t) H'
theorem MJ {au:Addr} {f:Addr} {fd:FuncData} (F:fj K "picture" "Hand.picture" jo f fd) (aL:dO K au) (Bt:mC mg):bU P w K mg base gF 1 f fd ["self"] (Bo au K):=by
 refine F.ok lK (fun vs H Q E h=> ?_) (fun cdv A outer s H vs Q E hr h=> ?_)
 ·obtain ⟨A,s,rfl,_⟩:=h
  rfl
 ·obtain ⟨B,s,rfl,c,k⟩:=h
  refine ⟨_,(aB (aW (i:=1) lK.nd rfl (Or.inl rfl) (ju (aQ cA (bJ (K:=K) rfl (pv 0) rfl) bD (aR _)) (bJ (K:=K) rfl (pv 0) rfl) eF))
   (aG (aV (cZ (aj (bJ (K:=K) rfl (pv 0) rfl) (aj (pv 1) (aj (bT (bG (K:=K) rfl) (by rfl) Bt.dg cN (aj (bJ (K:=K) rfl (pv 0) rfl) aq)) (aj (bT (bG (K:=K) rfl) (by rfl) Bt.dg cN (aj (bJ (K:=K) rfl (pv 0) rfl) aq)) aq)))))))), ?_⟩
  refine g_ (fun σ H1=>σ=[some (.ref B.h),some (Il s)]/\H1=H) (fun D' hD' rt'=> ?_) ?_
  ·refine ⟨_,rfl,B.h,au,B.hx,_,_,rfl,c.h,aL.cls,aL.ig,rfl,rfl,_,rfl, ?_⟩
   refine bK (fun q=> ?_) (fun q=> ?_)
   ·have hq:s.st=Str.ofString "waits" :=V.str.inj (of_decide_eq_true q)
    refine ⟨_,rfl,B.h,au,B.hx,_,_,rfl,c.h,aL.cls,aL.pZ,rfl,hD' _ _ ⟨?_,rfl⟩⟩;unfold Il;rw [if_pos hq];rfl
   ·have hq:¬s.st=Str.ofString "waits" :=fun z=>q (decide_eq_true (by rw [z]))
    refine hD' _ _ ⟨?_,rfl⟩;unfold Il;rw [if_neg hq];rfl
  rintro σ H1 ⟨rfl,rfl⟩;refine ⟨_,rfl,B.h,au,B.hx,_,_,rfl,c.h,aL.cls,aL.ig,rfl,_,rfl,_,rfl,B.h,au,B.hx,_,_,rfl,c.h,aL.cls,aL.gD,rfl,B.b,_,rfl,.inl (aY.of c.b),fun b hb=> ?_⟩;have sb:=aF (o:=HO.lst (s.bs.map V.int)) hb;have cb:=c.same sb;refine ⟨_,rfl,B.h,au,B.hx,_,_,rfl,cb.h,aL.cls,aL.jh,rfl,B.sy,_,rfl,.inl (aY.of cb.y),fun y hy=> ?_⟩;have sy:=aF (o:=HO.lst (s.sy.map V.int)) hy;refine ⟨(by show 4<=sizeLine;decide),fun t ht=> ?_⟩;have st:=aF (o:=HO.tup [V.str s.st,Il s,V.ref b,V.ref y]) ht;refine k t _ ?_ ((sb.trans sy).trans st);have fy:H1 y=none:=sb.free hy;have ft:H1 t=none:=sb.free (sy.free ht);simp only [jW,Dat];refine ⟨t,_,rfl,vV ft ao, ?_⟩;simp only [bH,Dat,and_true,true_and];refine ⟨?_,cL (vV hb (st _ _ (sy _ _ ao))),cL (vV fy (st _ _ ao))⟩;unfold Il;split<;>simp only [Dat]
def Ve (S:ji):PyData:=Bf S (Al S)
def Ie (CW CH:Addr) (K:PySem.W.Frag):Sp:=fun vs H Q _=>∃(i:Nat) (τ:Tg) (W:oE) (S:ji),vs=[.ref W.o]/\jD CW CH i τ H W S /\ ∀(t:Addr) (H':Hp),Dat H' (.ref t) (Ve S)->Same H H'->Q (.ref t) H'
theorem jD.prog {CW CH:Addr} {i:Nat} {τ:Tg} {H:Hp} {W:oE} {S:ji} (w:jD CW CH i τ H W S):Dat H (.ref W.pg) (gQ S):=by
 have go:∀(rs:List Addr) (hs:List aO),rs.length=hs.length->(∀(k:Nat) (r:Addr) (s:aO),rs[k]? = some r->hs[k]? = some s->cW H r S.m s.rws)->bH H (rs.map V.ref) (hs.map fun s=>jV s.rws):=by
  intro rs
  induction rs with
  | nil=>
    intro hs l _;cases hs with
    | nil=>simp only [List.map_nil,bH]
    | cons a b=>cases l
  | cons r rs ih=>
    intro hs l h;cases hs with
    | nil=>cases l
    | cons s hs=>
      simp only [List.map_cons,bH];obtain ⟨ts,e1,e2,_⟩:=h 0 r s rfl rfl;exact ⟨jy e1 e2,ih hs (by simpa using l) fun k r' s' h1 h2=>h (k+1) r' s' h1 h2⟩
 simp only [gQ,Dat];refine ⟨W.pg,_,rfl,w.pg, ?_⟩;simp only [bH,Dat,and_true,true_and];exact ⟨W.L,_,rfl,w.L,go W.rs S.hs w.rl fun k r s h1 h2=>(w.rs k r s h1 h2).2⟩
theorem jD.pW {CW CH:Addr} {i:Nat} {τ:Tg} {H:Hp} {W:oE} {S:ji} (w:jD CW CH i τ H W S):∀s∈S.hs,∀r∈s.rws,um S.m r:=fun s hs=>by
 obtain ⟨k,hk⟩:=List.getElem?_of_mem hs;obtain ⟨A,_,a⟩:=w.hand hk;obtain ⟨ts,_,_,h,_⟩:=a.r;exact h
theorem Ro {ak au:Addr} {f:Addr} {fd:FuncData} (F:fj K "picture" "Works.picture" iI f fd) (aK:cM K ak) (aL:dO K au) (u_:MethAt P w K mg base 1 au "picture" ["self"] (Bo au K)) (gj:MethAt P w K mg base 1 ak "cells" ["self"] (pP ak au K)) (fH:MethAt P w K mg base 1 ak "counts" ["self"] (mK ak au K)) (Bt:mC mg):bU P w K mg base gF 2 f fd ["self"] (Ie ak au K):=by
 refine F.ok jU (fun vs H Q E h=> ?_) (fun cdv A outer s H vs Q E hr h=> ?_)
 ·obtain ⟨i,τ,W,S,rfl,_⟩:=h
  rfl
 ·obtain ⟨i,τ,W,S,rfl,w,k⟩:=h
  refine ⟨_,(aB (pX (i:=1) rfl jU.nd rfl (Or.inl rfl) (N:=["one"]) (own:=["one"]) (caps:=[]) (bh.of (by kernel_rfl)) (cj (K:=K) rfl (bJ (K:=K) rfl (pv 0) rfl)) (fun _ _ _ _=>(bI (i:=0) (show List.Nodup (["one"]:List Str) by decide +kernel) rfl (Or.inl rfl))) (fun _ _ _ _=>cB) (fun _ _ _ _=>(cY u_ aL.cls (hr.mono (by decide)) (pv 0))))
   (aG (aV (cZ (aj (bJ (K:=K) rfl (pv 0) rfl) (aj (cY gj aK.cls (hr.mono (by decide)) (pv 0)) (aj (pv 1) (aj (cY fH aK.cls (hr.mono (by decide)) (pv 0)) aq)))))))), ?_⟩
  refine ⟨_,rfl,W.o,ak,W.dx,_,_,rfl,w.o,aK.cls,aK.jC,rfl,W.hl,rfl,⟨_,aY.of w.hl⟩,fun D hD=> ?_⟩;refine GR (K:=K) (fun j=>((S.hs[j]?).map jW).getD .none) hD (aY.of w.hl) (by rw [List.length_map,w.len];have:=w.hn;omega) (fun j x H1 F hj s1 kF=> ?_) (fun H1 s1 d1=> ?_)
  ·rw [List.getElem?_map] at hj
   obtain ⟨A,eA,rfl⟩:∃A,W.hd[j]? = some A/\x = .ref A.h:=by
    cases e:W.hd[j]? with
    | none=>rw [e] at hj;cases hj
    | some A=>rw [e] at hj;exact ⟨A,rfl,(Option.some.inj hj).symm⟩
   have jl:j<S.hs.length:=by rw [←w.len];exact (List.getElem?_eq_some_iff.mp eA).1
   have es:S.hs[j]? = some S.hs[j]:=by simp [jl]
   have a:=(w.same s1).hd j A _ eA es;refine ⟨_,rfl,A.h,A.hx,_,rfl,a.c.h,rfl,A,_,rfl,a.c,fun t H2 d2 s2=> ?_⟩;refine kF _ H2 s2 ?_;rw [es];exact d2
  have w1:=w.same s1;refine ⟨_,rfl,W.o,ak,W.dx,_,_,rfl,w1.o,aK.cls,aK.nP,rfl,_,rfl,W.o,W.dx,_,rfl,w1.o,rfl,i,τ,W,S,rfl,w1,fun l2 H2 f2 e2 s2=> ?_⟩;have w2:=w1.same s2;refine ⟨_,rfl,_,rfl,W.o,W.dx,_,rfl,w2.o,rfl,i,τ,W,S,rfl,w2,fun l3 H3 f3 e3 s3=> ?_⟩;have w3:=w2.same s3;refine ⟨(by show 4<=sizeLine;decide),fun t ht=> ?_⟩;have st:=aF (o:=HO.tup [V.ref W.pg,V.ref l2,V.ref D,V.ref l3]) ht;have w4:=w3.same st;refine k t _ ?_ (((s1.trans s2).trans s3).trans st);have d4:=d1.same (((M6 _ _).trans (s2.trans s3)).trans st) _
  have eh:((List.range (W.hd.map fun a=>V.ref a.h).length).map fun j=>((S.hs[j]?).map jW).getD .none)=S.hs.map jW:=by
   rw [List.length_map,w.len];refine List.ext_getElem? fun n=> ?_
   by_cases hn:n<S.hs.length
   ·simp [hn]
   ·simp [hn]
  rw [eh] at d4;unfold Ve Bf;simp only [Dat];refine ⟨t,_,rfl,ao, ?_⟩;have d5:=w4.prog;simp only [bH,and_true];refine ⟨d5,cL (st _ _ (s3 _ _ e2)),d4,cL (st _ _ e3)⟩
theorem JD (K:PySem.W.Frag) (C:Addr):PySem.W.kitOne K (.ref C) (.ref C)=some true:=by simp [PySem.W.kitOne]
def Qx (S T:ji):Bool:=PyData.eqv (Ve S) (Ve T)
def vN (CW CH:Addr) (K:PySem.W.Frag):Sp:=fun vs H Q _=>∃(i i':Nat) (τ τ':Tg) (W W':oE) (S S':ji),vs=[.ref W.o,.ref W'.o]/\jD CW CH i τ H W S/\jD CW CH i' τ' H W' S'/\lZ S/\lZ S' /\ ∀(H':Hp),Same H H'->Q (.bl (Qx S S')) H'
theorem Rm {ak au:Addr} {f:Addr} {fd:FuncData} (F:fj K "__eq__" "Works.__eq__" jm f fd) (aK:cM K ak) (sO:YT K mg ak "Works") (lY:MethAt P w K mg base 2 ak "picture" ["self"] (Ie ak au K)) (Bt:mC mg):bU P w K mg base gF 3 f fd ["self","other"] (vN ak au K):=by
 refine F.ok rN (fun vs H Q E h=> ?_) (fun cdv A outer s H vs Q E hr h=> ?_)
 ·obtain ⟨i,i',τ,τ',W,W',S,S',rfl,_⟩:=h
  rfl
 ·obtain ⟨i,i',τ,τ',W,W',S,S',rfl,w,w',g,g',k⟩:=h
  have qb:=hr.units;refine ⟨_,(aG (aV (mV (bf (cP (K:=K) (cv:= .ref ak) (c:= .ref ak) rfl rfl) (by rfl) Bt.bR bM (aj (pv 1) (aj (h_ (v:= .ref ak) (by rfl) sO.bd rfl) aq))) (o7 (cT (DX (K:=K) rfl qb) (cY lY aK.cls (hr.mono (by decide)) (pv 0)) (cY lY aK.cls (hr.mono (by decide)) (pv 1)) (aR _)))))), ?_⟩;refine ⟨_,rfl,_,_,true,rfl,sO.ty w'.o aK.cls,JD K _,true,rfl, ?_⟩;refine dM ?_;refine ⟨_,rfl,W.o,W.dx,_,rfl,w.o,rfl,i,τ,W,S,rfl,w,fun t H1 d1 s1=> ?_⟩;have w1:=w'.same s1;refine ⟨_,rfl,W'.o,W'.dx,_,rfl,w1.o,rfl,i',τ',W',S',rfl,w1,fun t' H2 d2 s2=> ?_⟩;refine ⟨_,_,d1.same s2 _,d2,yL g w.pW,yL g' w'.pW, ?_⟩;rw [if_neg Bool.false_ne_true];exact k H2 (s1.trans s2)
theorem RT.set {τ:Tg} {H:Hp} {r x:Addr} {o u:HO} (h:RT τ H r) (e:H x=some o) (t:τ x≠[]):RT τ (upd H x u) r:=by
 obtain ⟨n,f⟩:=h.off x o e t;refine ⟨h.R.set n f,fun y v ey ty=> ?_,fun y ey=> ?_⟩
 ·by_cases z:y=x
  ·subst z
   exact ⟨n,f.set n⟩
  ·rw [aD z] at ey
   obtain ⟨n',f'⟩:=h.off y v ey ty;exact ⟨n',f'.set n⟩
 ·by_cases z:y=x
  ·rw [z,ao] at ey;cases ey
  ·rw [aD z] at ey;exact h.un y ey
def Px (K:PySem.W.Frag):Sp:=fun vs H Q _=>∃(r z:Addr) (sz bx:Int) (m n:Nat),vs=[.ref r,.ref z,.int n]/\dG H r/\H z=some (.lst [.int sz,.int m,.int bx])/\z≠r/\0<=sz/\sz<=100/\0<m/\m<=20/\0<bx/\bx<=8 /\ ∀(v:V) (x:Rw) (H':Hp),Dat H' v (jg x)->um m x->dG H' r->KR r H H'->Q v H'
theorem abh:∀i:Int,i=0\/i=1->qm (Str.ofString "=<").cps.toList i=some (if i=0 then 61 else 60):=by
 intro i h;rcases h with rfl|rfl<;>decide +kernel
theorem J0:(Str.ofString "=<").length<=sizeLine:=by rw [sizeLine_eq];decide
theorem Rn {f:Addr} {fd:FuncData} (F:fj K "_law_row" "_law_row" Bx f fd) (bO:FnAt P w K mg base 1 "_law_draw" ["reel","many"] (gZ K)) (j7:FnAt P w K mg base 3 "_law_worth" ["reel","boxes"] (Dn K)) (Bt:mC mg):bU P w K mg base gF 4 f fd ["reel","sizes","at"] (Px K):=by
 refine F.ok kE (fun vs H Q E h=> ?_) (fun cdv A outer s H vs Q E hr h=> ?_)
 ·obtain ⟨r,z,sz,bx,m,n,rfl,_⟩:=h
  rfl
 ·obtain ⟨r,z,sz,bx,m,n,rfl,R,hz,P0,z0,z1,m0,m1,b0,b1,k⟩:=h
  refine ⟨_,(aB (aW (i:=3) kE.nd rfl (Or.inl rfl) (bF bO (hr.mono (by decide)) (by rfl) (aj (pv 0) (aj aA aq))))
   (aB (aW (i:=4) kE.nd rfl (Or.inl rfl) (bF bO (hr.mono (by decide)) (by rfl) (aj (pv 0) (aj aA aq))))
   (aB (aW (i:=5) kE.nd rfl (Or.inl rfl) (aJ Cq bD (bF bO (hr.mono (by decide)) (by rfl) (aj (pv 0) (aj (aJ (aH (K:=K) rfl) (pv 1) aA (fun _ _=>rfl)) aq))) (fun _ _=>rfl)))
   (aB (aW (i:=6) kE.nd rfl (Or.inl rfl) (bF bO (hr.mono (by decide)) (by rfl) (aj (pv 0) (aj (aJ (aH (K:=K) rfl) (pv 1) aA (fun _ _=>rfl)) aq))))
   (aB (aW (i:=7) kE.nd rfl (Or.inl rfl) (bF bO (hr.mono (by decide)) (by rfl) (aj (pv 0) (aj (bQ eG (aJ (aH (K:=K) rfl) (pv 1) aA (fun _ _=>rfl)) aA) aq))))
   (aB (bL (aQ iY (pv 3) aA (aR _)) (aG (aV (cZ (aj bD (aj (pv 5) (aj (pv 6) aq)))))) bw)
   (aB (bL (aQ iY (pv 3) aA (aR _)) (aG (aV (cZ (aj bD (aj (pv 6) (aj (bF j7 (hr.mono (by decide)) (by rfl) (aj (pv 0) (aj (aJ (aH (K:=K) rfl) (pv 1) aA (fun _ _=>rfl)) aq))) aq)))))) bw)
   (aB (bL (aQ iY (pv 3) aA (aR _)) (aG (aV (cZ (aj bD (aj (pv 5) (aj (pv 6) (aj (bF j7 (hr.mono (by decide)) (by rfl) (aj (pv 0) (aj (aJ (aH (K:=K) rfl) (pv 1) aA (fun _ _=>rfl)) aq))) aq))))))) bw)
   (aB (bL (aQ iY (pv 3) aA (aR _)) (aG (aV (cZ (aj bD (aj (pv 5) (aj (bF j7 (hr.mono (by decide)) (by rfl) (aj (pv 0) (aj (aJ (aH (K:=K) rfl) (pv 1) aA (fun _ _=>rfl)) aq))) aq)))))) bw)
   (aB (bL (aQ cA (pv 3) aA (aR _)) (aG (aV (cZ (aj bD (aj (bF j7 (hr.mono (by decide)) (by rfl) (aj (pv 0) (aj (aJ (aH (K:=K) rfl) (pv 1) aA (fun _ _=>rfl)) aq))) aq))))) bw)
   (aB (bL (aQ I_ (pv 4) aA (aR _)) (aG (aW (i:=7) kE.nd rfl (Or.inl rfl) (bf (wz rfl) (by rfl) Bt.Qp Kq (aj (pv 7) (aj (bQ eG (pv 2) aA) aq))))) bw)
   (aB (bL (aQ cA (pv 3) aA (aR _)) (aG (aV (cZ (aj bD (aj (pv 7) aq))))) bw)
   (aG (aV (cZ (aj bD (aj (aJ Cq bD (bQ mW (pv 3) aA) (fun _ _=>rfl)) (aj (bF j7 (hr.mono (by decide)) (by rfl) (aj (pv 0) (aj (aJ (aH (K:=K) rfl) (pv 1) aA (fun _ _=>rfl)) aq))) (aj (bF j7 (hr.mono (by decide)) (by rfl) (aj (pv 0) (aj (aJ (aH (K:=K) rfl) (pv 1) aA (fun _ _=>rfl)) aq))) (aj (pv 7) aq)))))))))))))))))))), ?_⟩
  refine ⟨_,rfl,r,13,rfl,R,by decide,by decide,fun kd H1 kd0 kd1 R1 k1=> ?_⟩;refine ⟨_,rfl,r,3,rfl,R1,by decide,by decide,fun ah H2 _ _ R2 k2=> ?_⟩;have hz2:=k2.1 _ _ (k1.1 _ _ hz P0) P0;refine ⟨_,rfl,_,rfl,_,_,_,_,rfl,rfl,aY.of hz2,rfl,r,bx,rfl,R2,b0,by omega,fun i H3 i0 i1 R3 k3=> ?_⟩;refine ⟨_,_,_,rfl,rfl,EY,Eu i0 (by omega), ?_⟩;have hz3:=k3.1 _ _ hz2 P0;refine ⟨_,rfl,_,rfl,_,_,_,_,rfl,rfl,aY.of hz3,rfl,r,m,rfl,R3,by omega,by omega,fun c H4 c0 c1 R4 k4=> ?_⟩;obtain ⟨c,rfl⟩:=Int.eq_ofNat_of_zero_le c0;have hz4:=k4.1 _ _ hz3 P0;refine ⟨_,rfl,_,rfl,_,_,_,_,rfl,rfl,aY.of hz4,rfl,_,_,rfl,rfl,r,_,rfl,R4,by omega,by omega,fun to H5 t0 t1 R5 k5=> ?_⟩;obtain ⟨to,rfl⟩:=Int.eq_ofNat_of_zero_le t0;have UG:=k5.1 _ _ hz4 P0;have K5:KR r H H5:=(((k1.trans k2).trans k3).trans k4).trans k5;have ib:i.toNat<8:=by omega
  have cm:c<m:=by omega
  refine ⟨_,rfl,_,_,rfl,rfl,_,rfl, ?_⟩;refine bK (fun _=> ?_) (fun _=> ?_)
  ·refine ⟨_,rfl,_,rfl,(by show 3<=sizeLine;decide),fun p hp=> ?_⟩
   have sp:=aF (o:=HO.tup [V.str (Str.ofString "load"),V.str (qg i.toNat),V.int c]) hp;exact k _ (.load i.toNat c) _ (Kc ao) ⟨ib,cm⟩ (R5.keep sp) (K5.trans (KR.same R5 sp))
  refine ⟨_,rfl,_,_,rfl,rfl,_,rfl, ?_⟩;refine bK (fun _=> ?_) (fun _=> ?_)
  ·refine ⟨_,rfl,_,rfl,_,rfl,_,_,_,_,rfl,rfl,aY.of UG,rfl,r,bx,rfl,R5,b0,b1,fun v e H6 d eo R6 k6=> ?_⟩
   refine ⟨(by show 3<=sizeLine;decide),fun p hp=> ?_⟩;have sp:=aF (o:=HO.tup [V.str (Str.ofString "store"),V.int c,v]) hp;exact k _ (.store c e) _ (GJ ao (d.same sp _)) ⟨cm,eo⟩ (R6.keep sp) ((K5.trans k6).trans (KR.same R6 sp))
  refine ⟨_,rfl,_,_,rfl,rfl,_,rfl, ?_⟩;refine bK (fun _=> ?_) (fun _=> ?_)
  ·refine ⟨_,rfl,_,rfl,_,rfl,_,rfl,_,_,_,_,rfl,rfl,aY.of UG,rfl,r,bx,rfl,R5,b0,b1,fun v e H6 d eo R6 k6=> ?_⟩
   refine ⟨(by show 4<=sizeLine;decide),fun p hp=> ?_⟩;have sp:=aF (o:=HO.tup [V.str (Str.ofString "swap"),V.str (qg i.toNat),V.int c,v]) hp;exact k _ (.swap i.toNat c e) _ (J_ ao (d.same sp _)) ⟨ib,cm,eo⟩ (R6.keep sp) ((K5.trans k6).trans (KR.same R6 sp))
  refine ⟨_,rfl,_,_,rfl,rfl,_,rfl, ?_⟩;refine bK (fun _=> ?_) (fun q8=> ?_)
  ·refine ⟨_,rfl,_,rfl,_,rfl,_,_,_,_,rfl,rfl,aY.of UG,rfl,r,bx,rfl,R5,b0,b1,fun v e H6 d eo R6 k6=> ?_⟩
   refine ⟨(by show 3<=sizeLine;decide),fun p hp=> ?_⟩;have sp:=aF (o:=HO.tup [V.str (Str.ofString "let"),V.str (qg i.toNat),v]) hp;exact k _ (.pC i.toNat e) _ (Oj ao (d.same sp _)) ⟨ib,eo⟩ (R6.keep sp) ((K5.trans k6).trans (KR.same R6 sp))
  refine ⟨_,rfl,rfl,_,rfl, ?_⟩;refine bK (fun _=> ?_) (fun q9=> ?_)
  ·refine ⟨_,rfl,_,rfl,_,_,_,_,rfl,rfl,aY.of UG,rfl,r,bx,rfl,R5,b0,b1,fun v e H6 d eo R6 k6=> ?_⟩
   refine ⟨(by show 2<=sizeLine;decide),fun p hp=> ?_⟩;have sp:=aF (o:=HO.tup [V.str (Str.ofString "say"),v]) hp;exact k _ (.say e) _ (Oi ao (d.same sp _)) eo (R6.keep sp) ((K5.trans k6).trans (KR.same R6 sp))
  have k10:10<=kd:=by
   have h8:¬kd<9:=by simpa using q8
   have h9:¬kd=9:=fun e=>q9 (decide_eq_true (by rw [e]));omega
  unfold zA;dsimp only;refine g_ (fun σ H'=>∃to:Nat,σ=[some (.ref r),some (.ref z),some (.int n),some (.int kd),some (.int ah),some (.str (qg i.toNat)),some (.int c),some (.int to)]/\H'=H5) (fun D' hD' _=> ?_) ?_
  ·refine ⟨_,rfl,_,_,rfl,rfl,_,rfl, ?_⟩
   refine bK (fun _=> ?_) (fun _=>hD' _ _ ⟨to,rfl,rfl⟩);refine ⟨_,rfl,_,rfl,_,_,rfl,rfl,_,_,rfl, ?_⟩;refine hD' _ _ ⟨if n+1>to then n+1 else to, ?_,rfl⟩
   have:(if (n:Int)+1>(to:Int) then (n:Int)+1 else (to:Int))=((if n+1>to then n+1 else to:Nat):Int):=by
    by_cases h:n+1>to
    ·rw [if_pos h,if_pos (by omega)];omega
    ·rw [if_neg h,if_neg (by omega)]
   rw [this];rfl
  rintro σ H' ⟨to,rfl,rfl⟩;refine ⟨_,rfl,rfl,_,rfl, ?_⟩;refine bK (fun _=> ?_) (fun FQ=> ?_)
  ·refine ⟨_,rfl,(by show 2<=sizeLine;decide),fun p hp=> ?_⟩
   have sp:=aF (o:=HO.tup [V.str (Str.ofString "go"),V.int to]) hp;exact k _ (.go to) _ (Ti ao) trivial (R5.keep sp) (K5.trans (KR.same R5 sp))
  have k11:kd - 11=0\/kd - 11=1:=by
   have:¬kd=10:=fun e=>FQ (decide_eq_true (by rw [e]));omega
  refine ⟨_,rfl,_,_,rfl,rfl,_,_,_,rfl,rfl,J0,abh _ k11, ?_⟩;refine ⟨_,rfl,_,rfl,_,_,_,_,rfl,rfl,aY.of UG,rfl,r,bx,rfl,R5,b0,b1,fun v e H6 d eo R6 k6=> ?_⟩;have hz6:=k6.1 _ _ UG P0;refine ⟨_,rfl,_,rfl,_,_,_,_,rfl,rfl,aY.of hz6,rfl,r,bx,rfl,R6,b0,b1,fun v' e' H7 d' YF R7 k7=> ?_⟩;refine ⟨_,rfl,(by show 5<=sizeLine;decide),fun p hp=> ?_⟩;have sp:=aF (o:=HO.tup [V.str (Str.ofString "unless"),V.str ⟨#[if kd - 11=0 then 61 else 60]⟩,v,v',V.int to]) hp;have d7:=(d.keep (k7.tups R6) _ (qT e)).same sp _;refine k _ (.oh (decide (kd - 11=0)) e e' to) _ (Og ?_ d7 (d'.same sp _)) ⟨eo,YF⟩ (R7.keep sp) (((K5.trans k6).trans k7).trans (KR.same R7 sp));rw [ao];rcases k11 with h|h
  ·rw [h];rfl
  ·rw [h];rfl
structure Pg (τ:Tg) (H:Hp) (p L:Addr) (rs:List Addr) (rws:List (List Rw)) (m:Nat):Prop where
 ep:H p=some (.tup [.int m,.ref L])
 eL:H L=some (.lst (rs.map V.ref))
 tL:τ L=[0]
 len:rs.length=rws.length
 row:∀(k:Nat) (r:Addr) (x:List Rw),rs[k]? = some r->rws[k]? = some x->τ r=[0]/\cW H r m x
theorem Pg.mv {i:Nat} {τ τ':Tg} {H H':Hp} {p L:Addr} {rs:List Addr} {rws:List (List Rw)} {m:Nat} (g:Pg τ H p L rs rws m) (q:Mv i τ H τ' H'):Pg τ' H' p L rs rws m:=by
 have e:=q.keep _ _ g.eL (.inl g.tL);exact ⟨q.tup _ _ g.ep,e.1,e.2.trans g.tL,g.len,fun k r x h1 h2=>DG (g.row k r x h1 h2) q⟩
theorem Pg.same {τ:Tg} {H H':Hp} {p L:Addr} {rs:List Addr} {rws:List (List Rw)} {m:Nat} (g:Pg τ H p L rs rws m) (k:Same H H'):Pg τ H' p L rs rws m:=g.mv (Mv.of_same (i:=0) k)
def Ib (K:PySem.W.Frag):Sp:=fun vs H Q _=>∃(r:Addr) (τ:Tg),vs=[.ref r]/\RT τ H r /\ ∀(p L:Addr) (rs:List Addr) (rws:List (List Rw)) (m:Nat) (τ':Tg) (H':Hp),Pg τ' H' p L rs rws m->0<rws.length->rws.length<=8->0<m->m<=20->(∀x∈rws,x.length<=60)->RT τ' H' r->(∀x u,H x=some u->τ' x=τ x)->Kp r H H'->Q (.ref p) H'
theorem Mu {f:Addr} {fd:FuncData} (F:fj K "_law_program" "_law_program" oY f fd) (bO:FnAt P w K mg base 1 "_law_draw" ["reel","many"] (gZ K)) (Ub:FnAt P w K mg base 4 "_law_row" ["reel","sizes","at"] (Px K)) (Bt:mC mg):bU P w K mg base gF 5 f fd ["reel"] (Ib K):=by
 refine F.ok fB (fun vs H Q E h=> ?_) (fun cdv A outer s H vs Q E hr h=> ?_)
 ·obtain ⟨r,τ,rfl,_⟩:=h
  rfl
 ·obtain ⟨r,τ,rfl,T,k⟩:=h
  refine ⟨_,(aB (aW (i:=1) fB.nd rfl (Or.inl rfl) (bF bO (hr.mono (by decide)) (by rfl) (aj (pv 0) (aj aA aq))))
   (aB (aW (i:=2) fB.nd rfl (Or.inr rfl) (bQ eG aA (bF bO (hr.mono (by decide)) (by rfl) (aj (pv 0) (aj (aJ (aH (K:=K) rfl) (cC (aj aA (aj aA (aj aA aq)))) (bF bO (hr.mono (by decide)) (by rfl) (aj (pv 0) (aj aA aq))) (fun _ _=>rfl)) aq)))))
   (aB (aW (i:=3) fB.nd rfl (Or.inr rfl) (aJ (aH (K:=K) rfl) (cC (aj aA (aj aA aq))) (bF bO (hr.mono (by decide)) (by rfl) (aj (pv 0) (aj aA aq))) (fun _ _=>rfl)))
   (aB (aW (i:=4) fB.nd rfl (Or.inl rfl) (cC aq))
   (aB (jO PassesOwn.never rfl (dj (by rfl) Bt.fL (aj (bQ eG aA (bF bO (hr.mono (by decide)) (by rfl) (aj (pv 0) (aj (aJ (aH (K:=K) rfl) (cC (aj aA (aj aA aq))) (bT j6 (by rfl) Bt.uZ pI (aj (cT I_ (pv 1) aA (aR _)) aq)) (fun _ _=>rfl)) aq)))) aq)) (bI (i:=5) fB.nd rfl (Or.inl rfl))
   (aB (aW (i:=6) fB.nd rfl (Or.inr rfl) (bF bO (hr.mono (by decide)) (by rfl) (aj (pv 0) (aj (aJ (aH (K:=K) rfl) (cC (aj aA (aj aA aq))) (bT j6 (by rfl) Bt.uZ pI (aj (cT cA (pv 1) aA (aR _)) aq)) (fun _ _=>rfl)) aq))))
   (aG (cH (dz (K:=K) rfl (pv 4) (aj (cI rfl (N:=["at","reel","size","many","boxes"]) (own:=["at"]) (caps:=[0,6,2,3]) (bh.of (by kernel_rfl)) (dj (by rfl) Bt.fL (aj (pv 6) aq)) (fun _ _ _ _=>(bI (i:=0) (show List.Nodup (["at","reel","size","many","boxes"]:List Str) by decide +kernel) rfl (Or.inl rfl))) (fun _ _ _ _=>cB) (fun _ _ _ _=>(bF Ub (hr.mono (by decide)) (by rfl) (aj (pv 1) (aj (cC (aj (pv 2) (aj (pv 3) (aj (pv 4) aq)))) (aj (pv 0) aq)))))) aq))))))
   (aG (aV (cZ (aj (pv 2) (aj (pv 4) aq)))))))))), ?_⟩
  refine ⟨_,rfl,r,8,rfl,T.R,by decide,by decide,fun great H1 g0 g1 R1 k1=> ?_⟩;have T1:=T.draw k1 R1;refine ⟨_,rfl,(by show 3<=sizeLine;decide),fun l hl=> ?_⟩;have sl:=aF (o:=HO.lst [V.int 2,V.int 3,V.int 20]) hl;have nlr:l≠r:=R1.ne hl;refine ⟨_,rfl,r,3,rfl,R1.keep sl,by decide,by decide,fun z H2 z0 z1 R2 k2=> ?_⟩;have T2:=(T1.same sl).draw k2 R2
  obtain ⟨bb,eb,b0,b1⟩:∃bb:Int,qm [V.int 2,V.int 3,V.int 20] z=some (.int bb)/\0<bb/\bb<=20:=by
   have:z=0\/z=1\/z=2:=by omega
   rcases this with rfl|rfl|rfl
   ·exact ⟨2,rfl,by decide,by decide⟩
   ·exact ⟨3,rfl,by decide,by decide⟩
   ·exact ⟨20,rfl,by decide,by decide⟩
  refine ⟨_,_,_,_,rfl,rfl,aY.of (k2.1 _ _ ao nlr),eb,r,bb,rfl,R2,b0,by omega,fun i H3 i0 i1 R3 k3=>⟨_,_,rfl,rfl, ?_⟩⟩;have T3:=T2.draw k3 R3;obtain ⟨m,em,m0,Wj⟩:∃m:Nat,(1:Int)+i=m/\0<m/\m<=20:=⟨(1+i).toNat,by omega,by omega,by omega⟩;dsimp only [bV];rw [em];refine ⟨(by show 2<=sizeLine;decide),fun l4 hl4=> ?_⟩;have Zm:=aF (o:=HO.lst [V.int 2,V.int 8]) hl4;have aaB:l4≠r:=R3.ne hl4;refine ⟨_,rfl,r,2,rfl,R3.keep Zm,by decide,by decide,fun z4 H5 z40 z41 R5 k5=> ?_⟩;have T5:=(T3.same Zm).draw k5 R5
  obtain ⟨bx,ebx,bx0,bx1⟩:∃bb:Int,qm [V.int 2,V.int 8] z4=some (.int bb)/\0<bb/\bb<=8:=by
   have:z4=0\/z4=1:=by omega
   rcases this with rfl|rfl
   ·exact ⟨2,rfl,by decide,by decide⟩
   ·exact ⟨8,rfl,by decide,by decide⟩
  refine ⟨_,_,_,_,rfl,rfl,aY.of (k5.1 _ _ ao aaB),ebx, ?_⟩;have kp5:Kp r H H5:=((((k1.1.trans (Kp.of_same sl)).trans k2.1).trans k3.1).trans (Kp.of_same Zm)).trans k5.1;refine ⟨(by show 0<=sizeLine;decide),fun a ha=> ?_⟩;have sa:=aF (o:=HO.lst []) ha;have nar:a≠r:=R5.ne ha;have ha0:H a=none:=p7 kp5 nar ha;have T6:=T5.claim (t:=[0]) sa ha ⟨_,ao⟩;have Bb:∀x u,H x=some u->aM τ a [0] x=τ x:=fun x u e=>aP (aC e ha0);have ta6:aM τ a [0] a=[0]:=bB;have kp6:=kp5.trans (Kp.of_same sa);have ea6:(upd H5 a (.lst [])) a=some (.lst []):=ao;generalize (upd H5 a (.lst []))=H6 at sa T6 kp6 ea6 ⊢;generalize aM τ a [0]=τ6 at T6 Bb ta6;refine ⟨_,rfl,(by show 2<=sizeLine;decide),fun l7 hl7=> ?_⟩;have Yb:=aF (o:=HO.lst [V.int 4,V.int 8]) hl7;refine ⟨_,rfl,_,_,rfl,rfl,.inr ⟨_,rfl, ?_⟩⟩
  obtain ⟨nn,en,n0,n1⟩:∃nn:Int,qm [V.int 4,V.int 8] (if decide (5<great) then 1 else 0)=some (.int nn)/\0<nn/\nn<=8:=by
   cases decide (5<great)
   ·exact ⟨4,rfl,by decide,by decide⟩
   ·exact ⟨8,rfl,by decide,by decide⟩
  refine ⟨_,_,_,_,rfl,rfl,aY.of ao,en,r,nn,rfl,(T6.same Yb).R,n0,by omega,fun cnt H7 c0 c1 R7 k7=>⟨_,_,rfl,rfl,_,rfl,by omega,by omega, ?_⟩⟩;have T7:=(T6.same Yb).draw k7 R7;have ea7:=k7.1 _ _ (Yb _ _ ea6) nar
  refine nQ (lo:=0) (fun j σ Hc=>∃(v w':Option V) (τc:Tg) (rs:List Addr) (rws:List (List Rw)),σ=[some (.ref r),some (.int great),some (.int m),some (.int bx),some (.ref a),v,w']/\RT τc Hc r/\Hc a=some (.lst (rs.map V.ref))/\τc a=[0]/\rs.length=rws.length/\rws.length=j/\(∀x∈rws,x.length<=60)/\(∀(k:Nat) (q:Addr) (x:List Rw),rs[k]? = some q->rws[k]? = some x->q≠a/\τc q=[0]/\cW Hc q m x)/\(∀x u,H x=some u->τc x=τ x)/\Kp r H Hc)
   ⟨none,none,τ6,[],[],rfl,T7,ea7,ta6,rfl,rfl,by simp,fun k q x e=>by simp at e,Bb,(kp6.trans (Kp.of_same Yb)).trans k7.1⟩ ?_ ?_
  ·rintro j σ Hc hj ⟨v,w',τc,rs,rws,rfl,Tc,eac,tac,lr,lj,Wr,hrs,zc,kpc⟩
   refine ⟨_,rfl,(by show 2<=sizeLine;decide),fun l8 hl8=> ?_⟩;have Pz:=aF (o:=HO.lst [V.int 9,V.int 61]) hl8;refine ⟨_,rfl,rfl,.inr ⟨_,rfl, ?_⟩⟩
   obtain ⟨nz,ez,nz0,nz1⟩:∃nn:Int,qm [V.int 9,V.int 61] (if decide (V.int great=V.int 7) then 1 else 0)=some (.int nn)/\0<nn/\nn<=61:=by
    cases decide (V.int great=V.int 7)
    ·exact ⟨9,rfl,by decide,by decide⟩
    ·exact ⟨61,rfl,by decide,by decide⟩
   refine ⟨_,_,_,_,rfl,rfl,aY.of ao,ez,r,nz,rfl,(Tc.same Pz).R,nz0,by omega,fun sz H8 s0 s1 R8 k8=> ?_⟩;have T8:=(Tc.same Pz).draw k8 R8;have Ef:∀x o,Hc x=some o->τc x≠[]->H8 x=some o:=fun x o e t=>(Tc.same Pz).keep k8 (Pz _ _ e) t;have t8:∀x xs,Hc x=some (.tup xs)->H8 x=some (.tup xs):=fun x xs e=>k8.tups (Tc.same Pz).R _ _ (Pz _ _ e);have ea8:=Ef _ _ eac (by rw [tac];simp);have kp8:=(kpc.trans (Kp.of_same Pz)).trans k8.1;refine ⟨_,rfl,.inl ⟨rfl,_,aY.of ea8⟩,_,rfl,sz,rfl,by omega,by omega,fun D hD=> ?_⟩;have sD:=aF (o:=HO.lst []) hD;have Qc:D≠r:=R8.ne hD;have SN:H D=none:=p7 kp8 Qc hD;have Ys:D≠a:=(aC ea8 hD).symm;have TD:=T8.claim (t:=[0]) sD hD ⟨_,ao⟩
   have tgD:∀x u,Hc x=some u->aM τc D [0] x=τc x:=fun x u e=>by
    by_cases z:x=D
    ·subst z
     by_cases t:τc x=[]
     ·by_cases zr:x=r
      ·exact absurd zr Qc
      ·have:=k8.1 _ _ (Pz _ _ e) zr
       rw [hD] at this;cases this
     ·have:=Ef _ _ e t
      rw [hD] at this;cases this
    ·exact aP z
   have KN:aM τc D [0] D=[0]:=bB;have X5:aM τc D [0] a=[0]:=by rw [aP Ys.symm];exact tac
   have Ph:∀x u,H x=some u->aM τc D [0] x=τ x:=fun x u e=>by rw [aP (aC e SN)];exact zc x u e
   have Ny:∀(k:Nat) (q:Addr) (x:List Rw),rs[k]? = some q->rws[k]? = some x->q≠a/\q≠D/\aM τc D [0] q=[0]/\cW H8 q m x:=fun k q x h1 h2=>by
    obtain ⟨n1,t1,R1'⟩:=hrs k q x h1 h2;have rr:=R1';obtain ⟨ts,hq,_⟩:=rr;have hq8:=Ef _ _ hq (by rw [t1];simp);exact ⟨n1,aC hq8 hD,by rw [tgD _ _ hq];exact t1,R1'.keep (fun o e=>Ef _ _ e (by rw [t1];simp)) t8⟩
   generalize aM τc D [0]=τd at TD tgD KN X5 Ph Ny;refine lD (lo:=0) (n:=sz.toNat) (fun i σ Hd=>∃(v:Option V) (refs:List V) (rw':List Rw),σ=[v,some (.ref r),some (.int sz),some (.int m),some (.int bx)]/\RT τd Hd r/\Hd D=some (.lst refs)/\bH Hd refs (rw'.map jg)/\(∀x∈rw',um m x)/\rw'.length=i/\Hd a=some (.lst (rs.map V.ref))/\(∀(k:Nat) (q:Addr) (x:List Rw),rs[k]? = some q->rws[k]? = some x->cW Hd q m x)/\Kp r H Hd) ?_ ?_ ?_
   ·exact ⟨none,[],[],rfl,TD,ao,by simp [bH],by simp,rfl,sD _ _ ea8,fun k q x h1 h2=>((Ny k q x h1 h2).2.2.2).same sD,kp8.trans (Kp.of_same sD)⟩
   ·rintro i σ Hd hi ⟨v,refs,rw',rfl,Td,K6,dd,od,ld,W8,hrd,RP⟩
    dsimp only [bV,oJ];rw [if_pos rfl];refine ⟨_,rfl,_,rfl,_,rfl,_,rfl,(by show 3<=sizeLine;decide),fun z hz=> ?_⟩;have sz':=aF (o:=HO.lst [V.int sz,V.int m,V.int bx]) hz;have P0:z≠r:=Td.R.ne hz;refine ⟨_,rfl,r,z,sz,bx,m,i,by rw [Int.zero_add];rfl,Td.R.keep sz',ao,P0,s0,by omega,m0,Wj,bx0,bx1,fun y x H9 dy xo R9 k9=> ?_⟩;have T9:=(Td.same sz').draw k9 R9;have JF:∀x o,Hd x=some o->τd x≠[]->H9 x=some o:=fun x o e t=>(Td.same sz').keep k9 (sz' _ _ e) t;have t9:∀x xs,Hd x=some (.tup xs)->H9 x=some (.tup xs):=fun x xs e=>k9.tups (Td.same sz').R _ _ (sz' _ _ e);have hD9:=JF _ _ K6 (by rw [KN];simp);have tu:∀a ys,H9 a=some (.tup ys)->(upd H9 D (.lst (refs++[y]))) a=some (.tup ys):=fun a ys e=>by rw [aD (cG e hD9 (by intro z;cases z))];exact e
    have ll:refs.length=rw'.length:=by rw [dd.length,List.length_map]
    refine ⟨refs,hD9,(by rw [ll,sizeLine_eq];omega),_,refs++[y],rw'++[x],rfl,T9.set hD9 (by rw [KN];simp),ao, ?_, ?_,by simp [ld],by rw [aD Ys.symm];exact JF _ _ W8 (by rw [X5];simp), ?_, ?_⟩
    ·rw [List.map_append]
     exact v9 ((dd.kp t9).kp tu) (dy.keep tu _ (pD x))
    ·intro q hq
     rcases List.mem_append.mp hq with hq|hq
     ·exact od q hq
     ·rw [List.mem_singleton.mp hq];exact xo
    ·intro kk q x' h1 h2
     obtain ⟨_,n2,t2,_⟩:=Ny kk q x' h1 h2;exact (hrd kk q x' h1 h2).keep (fun o e=>by rw [aD n2];exact JF _ _ e (by rw [t2];simp)) (fun y ys e=>tu _ _ (t9 _ _ e))
    ·intro x' o e n'
     rw [aD (aC e SN)];exact k9.1 _ _ (sz' _ _ (RP _ _ e n')) n'
   ·rintro σ Hd ⟨v,refs,rw',rfl,Td,K6,dd,od,ld,W8,hrd,RP⟩
    refine ⟨_,_,_,rfl,rfl,W8,(by rw [List.length_map,lr,lj,sizeLine_eq];omega), ?_⟩;have tu:∀x ys,Hd x=some (.tup ys)->(upd Hd a (.lst (rs.map V.ref++[V.ref D]))) x=some (.tup ys):=fun x ys e=>by rw [aD (cG e W8 (by intro z;cases z))];exact e
    refine ⟨_,_,τd,rs++[D],rws++[rw'],rfl,Td.set W8 (by rw [X5];simp),by rw [ao,List.map_append];rfl,X5,by simp [lr],by simp [lj], ?_, ?_,Ph,fun x o e n'=>by rw [aD (aC e ha0)];exact RP _ _ e n'⟩
    ·intro x hx
     rcases List.mem_append.mp hx with hx|hx
     ·exact Wr x hx
     ·rw [List.mem_singleton.mp hx];omega
    ·intro kk q x h1 h2
     rcases fW h2 with h2|⟨ek,rfl⟩
     ·have kl:=(List.getElem?_eq_some_iff.mp h2).1
      rw [List.getElem?_append_left (by rw [lr];exact kl)] at h1;obtain ⟨n1,_,t1,_⟩:=Ny kk q x h1 h2;exact ⟨n1,t1,(hrd kk q x h1 h2).keep (fun o e=>by rw [aD n1];exact e) tu⟩
     ·have e1:q=D:=by
       rcases fW h1 with h1|⟨_,h1⟩
       ·have:=(List.getElem?_eq_some_iff.mp h1).1;rw [lr] at this;omega
       ·exact h1
      subst e1;exact ⟨Ys,KN,refs,by rw [aD Ys];exact K6,dd.kp tu,od,by omega⟩
  ·rintro σ Hc ⟨v,w',τc,rs,rws,rfl,Tc,eac,tac,lr,lj,Wr,hrs,zc,kpc⟩
   refine ⟨_,rfl,_,rfl,(by show 2<=sizeLine;decide),fun p hp=> ?_⟩;have sp:=aF (o:=HO.tup [V.int m,V.ref a]) hp;exact k p a rs rws m τc _ ⟨ao,sp _ _ eac,tac,lr,fun k q x h1 h2=>⟨(hrs k q x h1 h2).2.1,((hrs k q x h1 h2).2.2).same sp⟩⟩ (by omega) (by omega) m0 Wj Wr (Tc.same sp) zc (kpc.trans (Kp.of_same sp))
structure vf where
 (h b sy:Addr)
structure oG (H:Hp) (A:vf) (s:aO) (c:Nat):Prop where
 h:H A.h=some (.lst [.int s.pos,.ref A.b,.ref A.sy,.str s.st,.int c])
 b:H A.b=some (.lst (s.bs.map V.int))
 y:H A.sy=some (.lst (s.sy.map V.int))
 vW:A.h≠A.b
 yj:A.h≠A.sy
 pL:A.b≠A.sy
 bl:s.bs.length=8
def KL (A:vf) (H H':Hp):Prop:=∀x o,H x=some o->x≠A.h->x≠A.b->x≠A.sy->H' x=some o
theorem KL.of_same {A:vf} {H H':Hp} (k:Same H H'):KL A H H':=fun x o e _ _ _=>k _ _ e
theorem KL.trans {A:vf} {H H1 H2:Hp} (a:KL A H H1) (b:KL A H1 H2):KL A H H2:=fun x o e n1 n2 n3=>b x o (a x o e n1 n2 n3) n1 n2 n3
theorem KL.gA {A:vf} {H:Hp} {o:HO}:KL A H (upd H A.h o):=fun x u e n _ _=>by rw [aD n];exact e
theorem KL.tV {A:vf} {H:Hp} {o:HO}:KL A H (upd H A.b o):=fun x u e _ n _=>by rw [aD n];exact e
theorem KL.Br {A:vf} {H:Hp} {o:HO}:KL A H (upd H A.sy o):=fun x u e _ _ n=>by rw [aD n];exact e
section
variable {H H':Hp} {A:vf} {s:aO} {c:Nat}
theorem oG.same (q:oG H A s c) (k:Same H H'):oG H' A s c:=⟨k _ _ q.h,k _ _ q.b,k _ _ q.y,q.vW,q.yj,q.pL,q.bl⟩
theorem oG.tup (q:oG H A s c) (k:KL A H H'):∀x xs,H x=some (.tup xs)->H' x=some (.tup xs):=fun x xs e=>k _ _ e (cG e q.h (by intro z;cases z)) (cG e q.b (by intro z;cases z)) (cG e q.y (by intro z;cases z))
theorem oG.gA (q:oG H A s c) (n c':Nat) (st:Str):oG (upd H A.h (.lst [.int n,.ref A.b,.ref A.sy,.str st,.int c'])) A {s with pos:=n,st:=st} c':=
 ⟨ao,by rw [aD q.vW.symm];exact q.b,by rw [aD q.yj.symm];exact q.y,q.vW,q.yj,q.pL,q.bl⟩
theorem oG.tV (q:oG H A s c) (bs:List Int) (l:bs.length=8):oG (upd H A.b (.lst (bs.map V.int))) A {s with bs:=bs} c:=
 ⟨by rw [aD q.vW];exact q.h,ao,by rw [aD q.pL.symm];exact q.y,q.vW,q.yj,q.pL,l⟩
theorem oG.Br (q:oG H A s c) (ys:List Int):oG (upd H A.sy (.lst (ys.map V.int))) A {s with sy:=ys} c:=
 ⟨by rw [aD q.yj];exact q.h,by rw [aD q.pL];exact q.b,ao,q.vW,q.yj,q.pL,q.bl⟩
theorem oG.ixb (q:oG H A s c) {b:Nat} (h:b<8):Cr (s.bs.map V.int).length ((b:Nat):Int)=some b:=by
 rw [List.length_map,q.bl];unfold Cr;rw [if_pos (by omega),if_pos (by omega)];simp
end
def Py (K:PySem.W.Frag):Sp:=fun vs H Q _=>∃(A:vf) (s:aO) (c:Nat) (v:V) (r:Rw) (m:Nat),vs=[.ref A.h,v]/\oG H A s c/\Dat H v (jg r)/\um m r/\touch r=false/\s.sy.length<1000000 /\ ∀H',oG H' A (lR s r) c->KL A H H'->Q .non H'
theorem Rp {f:Addr} {fd:FuncData} (F:fj K "_law_own" "_law_own" BJ f fd) (jA:FnAt P w K mg base 3 "_law_now" ["boxes","told"] (vO 2 K)):bU P w K mg base gF 4 f fd ["hand","row"] (Py K):=by
 refine F.ok wZ (fun vs H Q E h=> ?_) (fun cdv A outer s H vs Q E hr h=> ?_)
 ·obtain ⟨A,s,c,v,r,m,rfl,_⟩:=h
  rfl
 ·obtain ⟨B,z,c,v,r,m,rfl,q,d,ro,tr,sl,k⟩:=h
  refine ⟨_,(aB (fQ (bQ eG (aJ (aH (K:=K) rfl) (pv 0) aA (fun _ _=>rfl)) aA) (gB (pv 0) aA set_list))
   (aG (bL (aQ cA (aJ (aU (K:=K) rfl) (pv 1) aA (fun _ _=>rfl)) bD (aR _)) (aG (fQ (bF jA (hr.mono (by decide)) (by rfl) (aj (aJ (aH (K:=K) rfl) (pv 0) aA (fun _ _=>rfl)) (aj (aJ (aU (K:=K) rfl) (pv 1) aA (fun _ _=>rfl)) aq))) (gB (aJ (aH (K:=K) rfl) (pv 0) aA (fun _ _=>rfl)) (o8 (K:=K) rfl PySem.F.plainAttrs_str PySem.F.slot_str_index PySem.F.type_str_index jZ bD (aj (aJ (aU (K:=K) rfl) (pv 1) aA (fun _ _=>rfl)) aq)) set_list))) (aG (bL (aQ cA (aJ (aU (K:=K) rfl) (pv 1) aA (fun _ _=>rfl)) bD (aR _)) (aG (cH (dz (K:=K) rfl (aJ (aH (K:=K) rfl) (pv 0) aA (fun _ _=>rfl)) (aj (bF jA (hr.mono (by decide)) (by rfl) (aj (aJ (aH (K:=K) rfl) (pv 0) aA (fun _ _=>rfl)) (aj (aJ (aU (K:=K) rfl) (pv 1) aA (fun _ _=>rfl)) aq))) aq)))) (aG (bL (aQ cA (aJ (aU (K:=K) rfl) (pv 1) aA (fun _ _=>rfl)) bD (aR _)) (aG (fQ (aJ (aU (K:=K) rfl) (pv 1) aA (fun _ _=>rfl)) (gB (pv 0) aA set_list))) (aB (aW (i:=2) wZ.nd rfl (Or.inl rfl) (bF jA (hr.mono (by decide)) (by rfl) (aj (aJ (aH (K:=K) rfl) (pv 0) aA (fun _ _=>rfl)) (aj (aJ (aU (K:=K) rfl) (pv 1) aA (fun _ _=>rfl)) aq))))
   (aB (aW (i:=3) wZ.nd rfl (Or.inl rfl) (bF jA (hr.mono (by decide)) (by rfl) (aj (aJ (aH (K:=K) rfl) (pv 0) aA (fun _ _=>rfl)) (aj (aJ (aU (K:=K) rfl) (pv 1) aA (fun _ _=>rfl)) aq))))
   (aG (bL (fD (PW.pt (lN (PW.pt (jN (aQ cA (pv 2) (pv 3) (aR _)) (i_ (aQ cA (aJ (aU (K:=K) rfl) (pv 1) aA (fun _ _=>rfl)) bD (aR _))))) (iM (PW.pt (jN (aQ iY (pv 2) (pv 3) (aR _)) (i_ (aQ cA (aJ (aU (K:=K) rfl) (pv 1) aA (fun _ _=>rfl)) bD (aR _))))))))) (aG (fQ (aJ (aU (K:=K) rfl) (pv 1) aA (fun _ _=>rfl)) (gB (pv 0) aA set_list))) bw))))))))))), ?_⟩
  refine ⟨_,rfl,_,_,_,_,rfl,rfl,aY.of q.h,rfl,_,_,rfl,rfl,_,rfl,B.h,_,_,0,rfl,rfl,q.h,rfl, ?_⟩;have q1:=q.gA (z.pos+1) c z.st;have k1:KL B H (upd H B.h (.lst [.int ((z.pos+1:Nat):Int),.ref B.b,.ref B.sy,.str z.st,.int c])):=KL.gA;have d1:=d.keep (q.tup k1) _ (pD r);rw [show ([V.int z.pos,V.ref B.b,V.ref B.sy,V.str z.st,V.int c].set 0 (V.int ((z.pos:Int)+1)))=[.int ((z.pos+1:Nat):Int),.ref B.b,.ref B.sy,.str z.st,.int c] from rfl];generalize (upd H B.h (.lst [.int ((z.pos+1:Nat):Int),.ref B.b,.ref B.sy,.str z.st,.int c]))=H1 at q1 k1 d1 ⊢;obtain ⟨t,ws,rfl,ht,ps⟩:=rH d1;cases r with
  | load b cc=>cases tr
  | store cc e=>cases tr
  | swap b cc e=>cases tr
  | pC b e=>
    obtain ⟨x,rfl,dx⟩:=ps;refine ⟨_,rfl,_,_,_,_,rfl,rfl,cu.of ht,rfl,rfl,_,rfl, ?_⟩;refine bK (fun _=> ?_) (fun z=>absurd (decide_eq_true rfl) z);refine ⟨_,rfl,_,_,_,_,rfl,rfl,aY.of q1.h,rfl,_,rfl,_,_,_,_,rfl,rfl,cu.of ht,rfl,B.b,x,e,_,rfl,q1.b,q1.bl,dx,ro.2,rP e, ?_⟩;refine ⟨_,rfl,_,_,_,_,rfl,rfl,aY.of q1.h,rfl,rfl,_,rfl,_,_,_,_,rfl,rfl,cu.of ht,rfl,_,_,b,[],rfl,rfl,qZ ro.1,B.b,_,_,b,rfl,rfl,q1.b,q1.ixb ro.1, ?_⟩;rw [←List.map_set];exact k _ (q1.tV _ (by rw [List.length_set];exact q1.bl)) (k1.trans KL.tV)
  | say e=>
    obtain ⟨x,rfl,dx⟩:=ps;refine ⟨_,rfl,_,_,_,_,rfl,rfl,cu.of ht,rfl,rfl,_,rfl, ?_⟩;refine bK (fun z=>absurd (of_decide_eq_true z) (by decide)) (fun _=> ?_);refine ⟨_,rfl,_,_,_,_,rfl,rfl,cu.of ht,rfl,rfl,_,rfl, ?_⟩;refine bK (fun _=> ?_) (fun z=>absurd (decide_eq_true rfl) z);refine ⟨_,rfl,_,_,_,_,rfl,rfl,aY.of q1.h,rfl,.inl ⟨rfl,_,aY.of q1.y⟩,_,rfl,_,_,_,_,rfl,rfl,aY.of q1.h,rfl,_,rfl,_,_,_,_,rfl,rfl,cu.of ht,rfl,B.b,x,e,_,rfl,q1.b,q1.bl,dx,ro,rP e, ?_⟩;refine ⟨_,_,_,rfl,rfl,q1.y,(by rw [List.length_map,sizeLine_eq];show z.sy.length<_;omega), ?_⟩;have:=k _ (q1.Br (z.sy++[vx z.bs e])) (k1.trans KL.Br);rw [List.map_append] at this;exact this
  | go n=>
    obtain rfl:=ps;refine ⟨_,rfl,_,_,_,_,rfl,rfl,cu.of ht,rfl,rfl,_,rfl, ?_⟩;refine bK (fun z=>absurd (of_decide_eq_true z) (by decide)) (fun _=> ?_);refine ⟨_,rfl,_,_,_,_,rfl,rfl,cu.of ht,rfl,rfl,_,rfl, ?_⟩;refine bK (fun z=>absurd (of_decide_eq_true z) (by decide)) (fun _=> ?_);refine ⟨_,rfl,_,_,_,_,rfl,rfl,cu.of ht,rfl,rfl,_,rfl, ?_⟩;refine bK (fun _=> ?_) (fun z=>absurd (decide_eq_true rfl) z);refine ⟨_,rfl,_,_,_,_,rfl,rfl,cu.of ht,rfl,_,rfl,B.h,_,_,0,rfl,rfl,q1.h,rfl, ?_⟩;exact k _ (q1.gA n c z.st) (k1.trans KL.gA)
  | oh qq e f n=>
    obtain ⟨x,y,rfl,dx,dy⟩:=ps;refine ⟨_,rfl,_,_,_,_,rfl,rfl,cu.of ht,rfl,rfl,_,rfl, ?_⟩;refine bK (fun z=>absurd (of_decide_eq_true z) (by decide)) (fun _=> ?_);refine ⟨_,rfl,_,_,_,_,rfl,rfl,cu.of ht,rfl,rfl,_,rfl, ?_⟩;refine bK (fun z=>absurd (of_decide_eq_true z) (by decide)) (fun _=> ?_);refine ⟨_,rfl,_,_,_,_,rfl,rfl,cu.of ht,rfl,rfl,_,rfl, ?_⟩;refine bK (fun z=>absurd (of_decide_eq_true z) (by decide)) (fun _=> ?_);refine ⟨_,rfl,_,_,_,_,rfl,rfl,aY.of q1.h,rfl,_,rfl,_,_,_,_,rfl,rfl,cu.of ht,rfl,B.b,x,e,_,rfl,q1.b,q1.bl,dx,ro.1,rP e, ?_⟩;refine ⟨_,rfl,_,_,_,_,rfl,rfl,aY.of q1.h,rfl,_,rfl,_,_,_,_,rfl,rfl,cu.of ht,rfl,B.b,y,f,_,rfl,q1.b,q1.bl,dy,ro.2,rP f, ?_⟩
    have yes:iT z.bs (.oh qq e f n)=true->k=k->Q .non H1:=fun hh _=>by
     refine k _ ?_ k1;show oG H1 B {z with pos:=if iT z.bs (.oh qq e f n) then z.pos+1 else n} c;rw [hh];exact q1
    have no:∀D:Ends,(∀σ H',D.nx σ H'=Q .non H')->iT z.bs (.oh qq e f n)=false -> ∀σ,D.nx σ (upd H1 B.h (.lst [.int n,.ref B.b,.ref B.sy,.str z.st,.int c])):=fun D hD hh σ=>by
     rw [hD];refine k _ ?_ (k1.trans KL.gA);show oG _ B {z with pos:=if iT z.bs (.oh qq e f n) then z.pos+1 else n} c;rw [hh];exact q1.gA n c z.st
    refine ⟨_,rfl,_,rfl,rfl,_,rfl, ?_⟩;cases qq with
    | true=>
      by_cases he:vx z.bs e=vx z.bs f
      ·refine bK (fun _=> ?_) (fun w'=>absurd (decide_eq_true (by rw [he])) w')
       refine ⟨_,rfl,_,_,_,_,rfl,rfl,cu.of ht,rfl,rfl,_,rfl, ?_⟩;refine bK (fun _=> ?_) (fun z=>absurd (decide_eq_true rfl) z);refine cD ?_;exact yes (by show decide (vx z.bs e=vx z.bs f)=true;rw [he];simp) rfl
      ·refine bK (fun w'=>absurd (V.int.inj (of_decide_eq_true w')) he) (fun _=> ?_)
       refine cD ?_;refine ⟨_,rfl,_,rfl,_,_,rfl,rfl,_,rfl, ?_⟩;have hF:iT z.bs (.oh true e f n)=false:=by show decide (vx z.bs e=vx z.bs f)=false;simp [he]
       refine bK (fun _=> ?_) (fun _=> ?_)
       ·refine ⟨_,rfl,_,_,_,_,rfl,rfl,cu.of ht,rfl,rfl,_,rfl, ?_⟩
        refine bK (fun _=> ?_) (fun z=>absurd (by decide) z);refine ⟨_,rfl,_,_,_,_,rfl,rfl,cu.of ht,rfl,_,rfl,B.h,_,_,0,rfl,rfl,q1.h,rfl, ?_⟩;exact no _ (fun _ _=>rfl) hF _
       ·refine dM ?_
        refine ⟨_,rfl,_,_,_,_,rfl,rfl,cu.of ht,rfl,_,rfl,B.h,_,_,0,rfl,rfl,q1.h,rfl, ?_⟩;exact no _ (fun _ _=>rfl) hF _
    | false=>
      by_cases he:vx z.bs e=vx z.bs f
      ·refine bK (fun _=> ?_) (fun w'=>absurd (decide_eq_true (by rw [he])) w')
       refine ⟨_,rfl,_,_,_,_,rfl,rfl,cu.of ht,rfl,rfl,_,rfl, ?_⟩;refine bK (fun z=>absurd (of_decide_eq_true z) (by decide)) (fun _=> ?_);refine ⟨_,rfl,_,rfl,_,_,rfl,rfl,_,rfl, ?_⟩;have hF:iT z.bs (.oh false e f n)=false:=by show decide (vx z.bs e<vx z.bs f)=false;simp [he]
       refine bK (fun w'=>absurd (of_decide_eq_true w') (by show ¬vx z.bs e<vx z.bs f;omega)) (fun _=> ?_);refine dM ?_;refine ⟨_,rfl,_,_,_,_,rfl,rfl,cu.of ht,rfl,_,rfl,B.h,_,_,0,rfl,rfl,q1.h,rfl, ?_⟩;exact no _ (fun _ _=>rfl) hF _
      ·refine bK (fun w'=>absurd (V.int.inj (of_decide_eq_true w')) he) (fun _=> ?_)
       refine cD ?_;refine ⟨_,rfl,_,rfl,_,_,rfl,rfl,_,rfl, ?_⟩
       by_cases hlt:vx z.bs e<vx z.bs f
       ·refine bK (fun _=> ?_) (fun w'=>absurd (decide_eq_true hlt) w')
        refine ⟨_,rfl,_,_,_,_,rfl,rfl,cu.of ht,rfl,rfl,_,rfl, ?_⟩;refine m5 rfl ?_;exact yes (by show decide (vx z.bs e<vx z.bs f)=true;simp [hlt]) rfl
       ·refine bK (fun w'=>absurd (of_decide_eq_true w') hlt) (fun _=> ?_)
        refine dM ?_;refine ⟨_,rfl,_,_,_,_,rfl,rfl,cu.of ht,rfl,_,rfl,B.h,_,_,0,rfl,rfl,q1.h,rfl, ?_⟩;exact no _ (fun _ _=>rfl) (by show decide (vx z.bs e<vx z.bs f)=false;simp [hlt]) _
def rJ (x:Str):Bool:=inV (.str x) [V.str (Str.ofString "let"),V.str (Str.ofString "say"),V.str (Str.ofString "go"),V.str (Str.ofString "unless")]
theorem zq (r:Rw):rJ (n_ r) = !touch r:=by
 cases r
 ·exact (by decide +kernel:rJ (Str.ofString "load")=false)
 ·exact (by decide +kernel:rJ (Str.ofString "store")=false)
 ·exact (by decide +kernel:rJ (Str.ofString "swap")=false)
 ·exact (by decide +kernel:rJ (Str.ofString "let")=true)
 ·exact (by decide +kernel:rJ (Str.ofString "say")=true)
 ·exact (by decide +kernel:rJ (Str.ofString "go")=true)
 ·exact (by decide +kernel:rJ (Str.ofString "unless")=true)
theorem yQ {H:Hp} {v:V} {r:Rw} (h:Dat H v (jg r)):∃t ys,v = .ref t/\H t=some (.tup (.str (n_ r)::ys)):=by
 obtain ⟨t,vs,rfl,e,ps⟩:=rH h;cases r with
 | load b c=>obtain rfl:=ps;exact ⟨t,_,rfl,e⟩
 | store c e'=>obtain ⟨x,rfl,_⟩:=ps;exact ⟨t,_,rfl,e⟩
 | swap b c e'=>obtain ⟨x,rfl,_⟩:=ps;exact ⟨t,_,rfl,e⟩
 | pC b e'=>obtain ⟨x,rfl,_⟩:=ps;exact ⟨t,_,rfl,e⟩
 | say e'=>obtain ⟨x,rfl,_⟩:=ps;exact ⟨t,_,rfl,e⟩
 | go n=>obtain rfl:=ps;exact ⟨t,_,rfl,e⟩
 | oh q e' f n=>obtain ⟨x,y,rfl,_⟩:=ps;exact ⟨t,_,rfl,e⟩
def Dr (K:PySem.W.Frag):Sp:=fun vs H Q _=>∃(A:vf) (s:aO) (c m:Nat) (r:Addr),vs=[.ref A.h,.ref r]/\oG H A s c/\cW H r m s.rws/\r≠A.h/\r≠A.b/\r≠A.sy/\s.sy.length<900000 /\ ∀H',oG H' A (lead s) c->KL A H H'->Q .non H'
theorem Rq {f:Addr} {fd:FuncData} (F:fj K "_law_led" "_law_led" BK f fd) (Uc:FnAt P w K mg base 4 "_law_own" ["hand","row"] (Py K)) (Bt:mC mg):bU P w K mg base gF 5 f fd ["hand","rows"] (Dr K):=by
 refine F.ok xg (fun vs H Q E h=> ?_) (fun cdv A outer s H vs Q E hr h=> ?_)
 ·obtain ⟨A,s,c,m,r,rfl,_⟩:=h
  rfl
 ·obtain ⟨B,s,c,m,rw',rfl,q,R,Uu,RB,Ut,sl,k⟩:=h
  refine ⟨_,(aB (aW (i:=2) xg.nd rfl (Or.inl rfl) aA)
   (aB (zQ PassesOwn.never (PW.pt (jN (aQ iY (pv 2) aA (aR _)) (jN (aQ iY (aJ (aH (K:=K) rfl) (pv 0) aA (fun _ _=>rfl)) (bf (bC (K:=K) rfl) (by rfl) Bt.dU cU (aj (pv 1) aq)) (aR _)) (i_ (aQ (pA (K:=K) rfl) (aJ (aU (K:=K) rfl) (aJ (aH (K:=K) rfl) (pv 1) (aJ (aH (K:=K) rfl) (pv 0) aA (fun _ _=>rfl)) (fun _ _=>rfl)) aA (fun _ _=>rfl)) (cZ (aj bD (aj bD (aj bD (aj bD aq))))) (by with_unfolding_all rfl)))))) (aB (cH (bF Uc (hr.mono (by decide)) (by rfl) (aj (pv 0) (aj (aJ (aH (K:=K) rfl) (pv 1) (aJ (aH (K:=K) rfl) (pv 0) aA (fun _ _=>rfl)) (fun _ _=>rfl)) aq))))
   (aG (aW (i:=2) xg.nd rfl (Or.inl rfl) (bQ eG (pv 2) aA)))))
   (aB (fQ bD (gB (pv 0) aA set_list))
   (aG (bL (aQ iY (aJ (aH (K:=K) rfl) (pv 0) aA (fun _ _=>rfl)) (bf (bC (K:=K) rfl) (by rfl) Bt.dU cU (aj (pv 1) aq)) (aR _)) (aG (fQ (aJ (aH (K:=K) rfl) (cC (aj bD (aj bD aq))) (bT j6 (by rfl) Bt.uZ pI (aj (cT (pA (K:=K) rfl) (aJ (aU (K:=K) rfl) (aJ (aH (K:=K) rfl) (pv 1) (aJ (aH (K:=K) rfl) (pv 0) aA (fun _ _=>rfl)) (fun _ _=>rfl)) aA (fun _ _=>rfl)) (cZ (aj bD (aj bD (aj bD (aj bD aq))))) (by with_unfolding_all rfl)) aq)) (fun _ _=>rfl)) (gB (pv 0) aA set_list))) bw))))), ?_⟩
  have fin:∀(D:Ends) (d:Nat) (z:aO) (H1:Hp),(∀σ H',D.nx σ H'=Q .non H')->oG H1 B z c->KL B H H1->z.rws=s.rws->(∃ts,H1 rw'=some (.lst ts)/\bH H1 ts (z.rws.map jg))->(z.rws[z.pos]? = none->lead s={z with st:= "ends" })->(∀r,z.rws[z.pos]? = some r->lead s={z with st:=if touch r then "waits" else "lost" }) ->
   Fv (Fw (tC (V.str (Str.ofString "ends"))) (SX (kh 0) (tC (V.int 3)) Ip)) (Vq (Pk (Bl (Lx fun i j=>V.bl (decide (i<j))) (Bl (BP K) (kh 0) (tC (V.int 0))) (X6 (VL K) (gP (kh 1) sZ)))) (Fw (Bl (BP K) (Vo (gP (tC (V.str (Str.ofString "waits"))) (gP (tC (V.str (Str.ofString "lost"))) sZ))) (X6 (fun xs H Q=>(∃i,xs=[V.int i]/\Q (V.int i) H) \/ ∃k,xs=[V.bl k]/\Q (V.int (if k=true then 1 else 0)) H) (gP (Bl (ZJ K false) (Bl (Ir K) (Bl (BP K) (kh 1) (Bl (BP K) (kh 0) (tC (V.int 0)))) (tC (V.int 0))) (QD (gP (tC (V.str (Str.ofString "let"))) (gP (tC (V.str (Str.ofString "say"))) (gP (tC (V.str (Str.ofString "go"))) (gP (tC (V.str (Str.ofString "unless"))) sZ)))))) sZ))) (SX (kh 0) (tC (V.int 3)) Ip)) zA) D [some (.ref B.h),some (.ref rw'),some (.int d)] H1:=fun D d z H1 hD q1 k1 zr ⟨ts,hts,vC⟩ e0 e1=>by
   have ln:ts.length=z.rws.length:=by rw [vC.length,List.length_map]
   refine ⟨_,rfl,B.h,_,_,3,rfl,rfl,q1.h,rfl, ?_⟩;have q2:=q1.gA z.pos c "ends";have k2:=k1.trans (KL.gA (A:=B) (H:=H1) (o:= .lst [.int z.pos,.ref B.b,.ref B.sy,.str "ends",.int c]));rw [show ([V.int z.pos,V.ref B.b,V.ref B.sy,V.str z.st,V.int c].set 3 (V.str (Str.ofString "ends")))=[.int z.pos,.ref B.b,.ref B.sy,.str "ends",.int c] from rfl];have Gu:(upd H1 B.h (.lst [.int z.pos,.ref B.b,.ref B.sy,.str "ends",.int c])) rw'=some (.lst ts):=by rw [aD Uu];exact hts
   have W_:bH (upd H1 B.h (.lst [.int z.pos,.ref B.b,.ref B.sy,.str "ends",.int c])) ts (z.rws.map jg):=vC.kp fun x xs e=>by rw [aD (cG e q1.h (by intro z;cases z))];exact e
   generalize (upd H1 B.h (.lst [.int z.pos,.ref B.b,.ref B.sy,.str "ends",.int c]))=H2 at q2 k2 Gu W_ ⊢;refine ⟨_,rfl,_,_,_,_,rfl,rfl,aY.of q2.h,rfl,_,rfl,rw',_,rfl,.inl (aY.of Gu),_,_,rfl,rfl,_,rfl, ?_⟩;cases er:z.rws[z.pos]? with
   | none=>
     have ge:z.rws.length<=z.pos:=List.getElem?_eq_none_iff.mp er;refine bK (fun w'=>absurd (of_decide_eq_true w') (by rw [ln];show ¬(z.pos:Int)<(z.rws.length:Int);omega)) (fun _=> ?_);show D.nx _ _;rw [hD];exact k _ (by rw [e0 er];exact q2) k2
   | some r=>
     have lt:z.pos<z.rws.length:=(List.getElem?_eq_some_iff.mp er).1;obtain ⟨v,ev,dv⟩:=W_.getD (i:=z.pos) (d:=jg r) (by rw [List.getElem?_map,er];rfl);obtain ⟨t,ys,rfl,ht⟩:=yQ dv;refine bK (fun _=> ?_) (fun w'=>absurd (decide_eq_true (by rw [ln];show (z.pos:Int)<(z.rws.length:Int);omega)) w');refine ⟨(by show 2<=sizeLine;decide),fun l hl=> ?_⟩;have sl':=aF (o:=HO.lst [V.str (Str.ofString "waits"),V.str (Str.ofString "lost")]) hl;refine ⟨_,rfl,_,rfl,_,_,_,_,rfl,rfl,aY.of (sl' _ _ q2.h),rfl,_,_,_,_,rfl,rfl,aY.of (sl' _ _ Gu),bW ev,_,_,_,_,rfl,rfl,cu.of (sl' _ _ ht),Aw,(by show 4<=sizeLine;decide),fun p hp=> ?_⟩;have sp:=aF (o:=HO.tup [V.str (Str.ofString "let"),V.str (Str.ofString "say"),V.str (Str.ofString "go"),V.str (Str.ofString "unless")]) hp;refine ⟨p,_,rfl,.inr (cu.of ao),rfl,rfl,.inr ⟨_,rfl,_,_,_,_,rfl,rfl,aY.of (sp _ _ ao),(show qm [V.str (Str.ofString "waits"),V.str (Str.ofString "lost")] (if (if false=true then !rJ (n_ r) else rJ (n_ r))=true then 1 else 0)=some (.str (if touch r then "waits" else "lost")) from ?_), ?_⟩⟩
     ·rw [if_neg Bool.false_ne_true,zq]
      cases touch r<;>rfl
     have q3:=(q2.same sl').same sp;refine ⟨_,rfl,B.h,_,_,3,rfl,rfl,q3.h,rfl, ?_⟩;show D.nx _ _;rw [hD];refine k _ ?_ ((k2.trans (KL.of_same (sl'.trans sp))).trans KL.gA);rw [e1 r er];exact q3.gA z.pos c _
  refine ⟨fun n σ H1=>∃(d:Nat) (z:aO),σ=[some (.ref B.h),some (.ref rw'),some (.int d)]/\d<=60/\n=60 - d/\oG H1 B z c/\KL B H H1/\led (60 - d) z=lead s/\z.rws=s.rws/\z.sy.length<=s.sy.length+d,
   ⟨60,0,s,rfl,by decide,rfl,q,KL.of_same (Same.refl _),rfl,rfl,Nat.le_refl _⟩,fun n σ H1 hσ=> ?_⟩
  obtain ⟨d,z,rfl,d60,rfl,q1,k1,hl,zr,zs⟩:=hσ
  have R1:cW H1 rw' m z.rws:=by
   rw [zr];exact R.keep (fun o e=>k1 _ _ e Uu RB Ut) (q.tup k1)
  obtain ⟨ts,hts,vC,ro,rl⟩:=R1;have ln:ts.length=z.rws.length:=by rw [vC.length,List.length_map]
  refine ⟨_,rfl,_,_,rfl,rfl,_,rfl, ?_⟩
  by_cases e6:d=60
  ·subst e6
   have h0:led 0 z=lead s:=hl;refine bK (fun w'=>absurd (of_decide_eq_true w') (by decide)) (fun _=> ?_);refine cD ?_;refine fin _ 60 z H1 (fun _ _=>rfl) q1 k1 zr ⟨ts,hts,vC⟩ (fun en=> ?_) (fun r er=> ?_)
   ·rw [←h0];simp only [led,en]
   ·rw [←h0];simp only [led,er];cases touch r<;>rfl
  refine bK (fun _=> ?_) (fun w'=>absurd (decide_eq_true (by omega)) w');refine ⟨_,rfl,_,_,_,_,rfl,rfl,aY.of q1.h,rfl,_,rfl,rw',_,rfl,.inl (aY.of hts),_,_,rfl,rfl,_,rfl, ?_⟩;cases er:z.rws[z.pos]? with
  | none=>
    have ge:z.rws.length<=z.pos:=List.getElem?_eq_none_iff.mp er;refine bK (fun w'=>absurd (of_decide_eq_true w') (by rw [ln];show ¬(z.pos:Int)<(z.rws.length:Int);omega)) (fun _=> ?_);refine cD ?_;refine fin _ d z H1 (fun _ _=>rfl) q1 k1 zr ⟨ts,hts,vC⟩ (fun _=> ?_) (fun r N7=>by rw [er] at N7;cases N7);rw [←hl];cases e60:60 - d<;>simp only [led,er]
  | some r=>
    have lt:z.pos<z.rws.length:=(List.getElem?_eq_some_iff.mp er).1;obtain ⟨v,ev,dv⟩:=vC.getD (i:=z.pos) (d:=jg r) (by rw [List.getElem?_map,er];rfl);obtain ⟨t,ys,rfl,ht⟩:=yQ dv;refine bK (fun _=> ?_) (fun w'=>absurd (decide_eq_true (by rw [ln];show (z.pos:Int)<(z.rws.length:Int);omega)) w');refine ⟨_,rfl,_,rfl,_,_,_,_,rfl,rfl,aY.of q1.h,rfl,_,_,_,_,rfl,rfl,aY.of hts,bW ev,_,_,_,_,rfl,rfl,cu.of ht,Aw,(by show 4<=sizeLine;decide),fun p hp=> ?_⟩;have sp:=aF (o:=HO.tup [V.str (Str.ofString "let"),V.str (Str.ofString "say"),V.str (Str.ofString "go"),V.str (Str.ofString "unless")]) hp;refine ⟨p,_,rfl,.inr (cu.of ao),rfl,rfl,_,rfl, ?_⟩;have q2:=q1.same sp;have k2:=k1.trans (KL.of_same (A:=B) sp);have uw:=zq r;cases tr:touch r with
    | true=>
      rw [tr] at uw;refine bK (fun w'=>absurd (show rJ (n_ r)=true from w') (by rw [uw];decide)) (fun _=> ?_);refine fin _ d z _ (fun _ _=>rfl) q2 k2 zr ⟨ts,sp _ _ hts,vC.same sp _⟩ (fun en=>by rw [er] at en;cases en) (fun r' N7=> ?_);rw [er] at N7;cases N7;rw [←hl];cases e60:60 - d<;>simp only [led,er,tr,if_true]
    | false=>
      rw [tr] at uw;refine bK (fun _=> ?_) (fun w'=>absurd (show rJ (n_ r)=true from uw) w');refine ⟨fun σ' H'=>∃m',m'<60 - d /\ ∃(d:Nat) (z:aO),σ'=[some (.ref B.h),some (.ref rw'),some (.int d)]/\d<=60/\m'=60 - d/\oG H' B z c/\KL B H H'/\led (60 - d) z=lead s/\z.rws=s.rws/\z.sy.length<=s.sy.length+d,fun _ _ q=>q, ?_⟩;refine ⟨_,rfl,_,rfl,_,rfl,_,_,_,_,rfl,rfl,aY.of q2.h,rfl,_,_,_,_,rfl,rfl,aY.of (sp _ _ hts),bW ev,B,z,c,_,r,m,rfl,q2,dv.same sp _,ro r (List.mem_of_getElem? er),tr,by omega,fun H3 q3 k3=> ?_⟩;refine ⟨_,rfl,_,_,rfl,rfl,60 - (d+1),by omega,d+1,lR z r,rfl,by omega,rfl,q3,k2.trans k3, ?_,by rw [qX,zr], ?_⟩
      ·rw [←hl,show 60 - d=(60 - (d+1))+1 by omega]
       simp only [led,er,tr];rfl
      ·have:=uM z r
       omega
structure vG where
 (st nb hl:Addr) (hd:List vf)
structure K8 (j k:Nat) (τ:Tg) (H:Hp) (A:vf) (s:aO) (c:Nat):Prop where
 q:oG H A s c
 th:τ A.h=[j,4,k]
 tb:τ A.b=[j,5,k]
 ty:τ A.sy=[j,6,k]
structure rR (j:Nat) (τ:Tg) (H:Hp) (L:vG) (ns:List Int) (hs:List aO) (cs:List Nat):Prop where
 st:H L.st=some (.lst [.ref L.nb,.ref L.hl])
 nb:H L.nb=some (.lst (ns.map V.int))
 hl:H L.hl=some (.lst (L.hd.map fun a=> .ref a.h))
 ts:τ L.st=[j,0]
 tb:τ L.nb=[j,1]
 tl:τ L.hl=[j,2]
 len:L.hd.length=hs.length
 lc:cs.length=hs.length
 hd:∀(k:Nat) (A:vf) (s:aO) (c:Nat),L.hd[k]? = some A->hs[k]? = some s->cs[k]? = some c->K8 j k τ H A s c
theorem K8.Jt {C:List (List Nat)} {j k:Nat} {τ τ':Tg} {H H':Hp} {A:vf} {s:aO} {c:Nat} (h:K8 j k τ H A s c) (q:lX C τ H τ' H') (h4:[j,4,k]∉C) (h5:[j,5,k]∉C) (h6:[j,6,k]∉C):K8 j k τ' H' A s c:=by
 obtain ⟨⟨c1,c2,c3,c4,c5,c6,c7⟩,th,tb,ty⟩:=h;have e1:=q.keep _ _ c1 (by rw [th];exact h4);have e2:=q.keep _ _ c2 (by rw [tb];exact h5);have e3:=q.keep _ _ c3 (by rw [ty];exact h6);exact ⟨⟨e1.1,e2.1,e3.1,c4,c5,c6,c7⟩,e1.2.trans th,e2.2.trans tb,e3.2.trans ty⟩
theorem K8.mv {j k:Nat} {τ τ':Tg} {H H':Hp} {A:vf} {s:aO} {c:Nat} (h:K8 j k τ H A s c) (q:Mv j τ H τ' H'):K8 j k τ' H' A s c:=by
 obtain ⟨⟨c1,c2,c3,c4,c5,c6,c7⟩,th,tb,ty⟩:=h;have e1:=q.keep _ _ c1 (.inr (by rw [th];rfl));have e2:=q.keep _ _ c2 (.inr (by rw [tb];rfl));have e3:=q.keep _ _ c3 (.inr (by rw [ty];rfl));exact ⟨⟨e1.1,e2.1,e3.1,c4,c5,c6,c7⟩,e1.2.trans th,e2.2.trans tb,e3.2.trans ty⟩
section
variable {j:Nat} {τ τ':Tg} {H H':Hp} {L:vG} {ns:List Int} {hs:List aO} {cs:List Nat}
theorem rR.mv (w:rR j τ H L ns hs cs) (q:Mv j τ H τ' H'):rR j τ' H' L ns hs cs:=by
 have e1:=q.keep _ _ w.st (.inr (by rw [w.ts];rfl));have e2:=q.keep _ _ w.nb (.inr (by rw [w.tb];rfl));have e3:=q.keep _ _ w.hl (.inr (by rw [w.tl];rfl));exact ⟨e1.1,e2.1,e3.1,e1.2.trans w.ts,e2.2.trans w.tb,e3.2.trans w.tl,w.len,w.lc,fun k A s c h1 h2 h3=>(w.hd k A s c h1 h2 h3).mv q⟩
theorem rR.same (w:rR j τ H L ns hs cs) (k:Same H H'):rR j τ H' L ns hs cs:=w.mv (Mv.of_same k)
theorem rR.hand {k:Nat} {s:aO} (w:rR j τ H L ns hs cs) (h:hs[k]? = some s):∃A c,L.hd[k]? = some A/\cs[k]? = some c/\K8 j k τ H A s c:=by
 have kl:=(List.getElem?_eq_some_iff.mp h).1;have e1:L.hd[k]? = some (L.hd[k]'(by rw [w.len];exact kl)):=List.getElem?_eq_getElem _;have e2:cs[k]? = some (cs[k]'(by rw [w.lc];exact kl)):=List.getElem?_eq_getElem _;exact ⟨_,_,e1,e2,w.hd k _ s _ e1 h e2⟩
end
def Du (K:PySem.W.Frag):Sp:=fun vs H Q _=>∃(j:Nat) (τ:Tg) (p PL nb:Addr) (rs:List Addr) (rws:List (List Rw)) (m:Nat) (ns:List Int),vs=[.ref p,.ref nb]/\Pg τ H p PL rs rws m/\rws.length<=100/\H nb=some (.lst (ns.map V.int))/\j8 τ H /\
 ∀(L:vG) (τ':Tg) (H':Hp),rR j τ' H' L ns (rws.map fun r=>lead (new r)) (List.replicate rws.length 0)->j8 τ' H'->(∀x u,H x=some u->τ' x=τ x)->Same H H'->Q (.ref L.st) H'
theorem Jl {f:Addr} {fd:FuncData} (F:fj K "_law_begun" "_law_begun" uh f fd) (Di:FnAt P w K mg base 5 "_law_led" ["hand","rows"] (Dr K)) (Bt:mC mg):bU P w K mg base gF 6 f fd ["program","numbers"] (Du K):=by
 refine F.ok nF (fun vs H Q E h=> ?_) (fun cdv A outer s H vs Q E hr h=> ?_)
 ·obtain ⟨j,τ,p,PL,nb,rs,rws,m,ns,rfl,_⟩:=h
  rfl
 ·obtain ⟨j,τ,p,PL,nb,rs,rws,m,ns,rfl,g,rl,hnb,un,k⟩:=h
  refine ⟨_,(aB (aW (i:=2) nF.nd rfl (Or.inl rfl) (cC aq))
   (aB (jO PassesOwn.never rfl (cj (K:=K) rfl (aJ (aU (K:=K) rfl) (pv 0) aA (fun _ _=>rfl))) (bI (i:=3) nF.nd rfl (Or.inl rfl))
   (aB (aW (i:=4) nF.nd rfl (Or.inl rfl) (cC (aj aA (aj (bQ BW (cC (aj aA aq)) aA) (aj (cC aq) (aj bD (aj aA aq)))))))
   (aB (cH (bF Di (hr.mono (by decide)) (by rfl) (aj (pv 4) (aj (pv 3) aq))))
   (aG (cH (dz (K:=K) rfl (pv 2) (aj (pv 4) aq)))))))
   (aG (aV (cC (aj (bT (bG (K:=K) rfl) (by rfl) Bt.dg cN (aj (pv 1) aq)) (aj (pv 2) aq))))))), ?_⟩
  refine ⟨(by show 0<=sizeLine;decide),fun a ha=> ?_⟩;have sa:=aF (o:=HO.lst []) ha;have Vf:=un.claim (t:=[j,2]) sa (p:=a) ⟨_,ao⟩;have g1:=g.same sa;refine ⟨_,rfl,_,_,_,_,rfl,rfl,cu.of g1.ep,rfl,PL,rfl,⟨_,aY.of g1.eL⟩, ?_⟩
  refine m7 (K:=K) (a:=PL) (xs:=rs.map V.ref) (fun i σ Hc=>∃(x1 x2:Option V) (τc:Tg) (hd:List vf),σ=[some (.ref p),some (.ref nb),some (.ref a),x1,x2]/\Same H Hc/\j8 τc Hc/\(∀x u,H x=some u->τc x=τ x)/\Hc a=some (.lst (hd.map fun q=> .ref q.h))/\τc a=[j,2]/\hd.length=i /\ ∀(k:Nat) (A:vf) (x:List Rw),hd[k]? = some A->rws[k]? = some x->K8 j k τc Hc A (lead (new x)) 0)
   ⟨none,none,aM τ a [j,2],[],rfl,sa,Vf,fun x u e=>aP (aC e ha),ao,bB,rfl,fun k A x e=>by simp at e⟩ ?_ ?_ ?_
  ·rintro i σ Hc _ ⟨x1,x2,τc,hd,rfl,sc,_⟩
   exact aY.of (sc _ _ g.eL)
  ·rintro i x σ Hc hi ⟨x1,x2,τc,hd,rfl,sc,KD,zc,hac,tac,li,hdc⟩
   rw [List.getElem?_map] at hi
   obtain ⟨r,er,rfl⟩:∃r,rs[i]? = some r/\x = .ref r:=by
    cases e:rs[i]? with
    | none=>rw [e] at hi;cases hi
    | some r=>rw [e] at hi;exact ⟨r,rfl,(Option.some.inj hi).symm⟩
   have il:i<rws.length:=by rw [←g.len];exact (List.getElem?_eq_some_iff.mp er).1
   have ex:rws[i]? = some rws[i]:=by simp [il]
   obtain ⟨tr,R⟩:=g.row i r _ er ex;refine ⟨(by show 1<=sizeLine;decide),fun z hz=> ?_⟩;have sz:=aF (o:=HO.lst [V.int 0]) hz;refine ⟨z,8,_,rfl,rfl,ao,by decide,by decide,by show 1*8<=sizeLine;decide,fun b hb=> ?_⟩;have sb:=aF (o:=HO.lst (List.replicate (8:Int).toNat [V.int 0]).flatten) hb;refine ⟨(by show 0<=sizeLine;decide),fun y hy=> ?_⟩;have sy:=aF (o:=HO.lst []) hy;refine ⟨(by show 5<=sizeLine;decide),fun h hh=> ?_⟩;have sh:=aF (o:=HO.lst [V.int 0,V.ref b,V.ref y,V.str (Str.ofString ""),V.int 0]) hh;have s4:=((sz.trans sb).trans sy).trans sh;have fb:Hc b=none:=sz.free hb;have fy:Hc y=none:=(sz.trans sb).free hy;have fh:Hc h=none:=((sz.trans sb).trans sy).free hh;have pL:b≠y:=aC ao hy;have M_:b≠h:=aC (sy _ _ ao) hh;have V9:y≠h:=aC ao hh
   have q4:oG (upd (upd (upd (upd Hc z (.lst [V.int 0])) b (.lst (List.replicate (8:Int).toNat [V.int 0]).flatten)) y (.lst [])) h (.lst [V.int 0,V.ref b,V.ref y,V.str (Str.ofString ""),V.int 0])) ⟨h,b,y⟩ ⟨rws[i],0,List.replicate 8 0,[],""⟩ 0:=
    ⟨ao,sh _ _ (sy _ _ ao),sh _ _ ao,M_.symm,V9.symm,pL,rfl⟩
   have s04:=sc.trans s4;have R4:=R.same s04;have rr:=R;obtain ⟨ts,hts,_⟩:=rr;have htc:=sc _ _ hts;generalize (upd (upd (upd (upd Hc z (.lst [V.int 0])) b (.lst (List.replicate (8:Int).toNat [V.int 0]).flatten)) y (.lst [])) h (.lst [V.int 0,V.ref b,V.ref y,V.str (Str.ofString ""),V.int 0]))=H4 at s4 q4 s04 R4 ⊢;refine ⟨_,rfl,_,rfl,⟨h,b,y⟩,_,0,m,r,rfl,q4,R4,aC htc fh,aC htc fb,aC htc fy,(by show 0<900000;decide),fun H5 q5 k5=> ?_⟩;have s5:Same Hc H5:=fun x u e=>k5 _ _ (s4 _ _ e) (aC e fh) (aC e fb) (aC e fy);have Yz:=s5 _ _ hac;refine ⟨_,rfl,.inl ⟨rfl,_,aY.of Yz⟩,_,rfl,_,_,_,rfl,rfl,Yz,(by rw [List.length_map,sizeLine_eq];omega), ?_⟩;have nah:a≠h:=aC hac fh;have nab:a≠b:=aC hac fb;have nay:a≠y:=aC hac fy;have T:∀x u,Hc x=some u->aM (aM (aM τc h [j,4,i]) b [j,5,i]) y [j,6,i] x=τc x:=fun x u e=>by rw [aP (aC e fy),aP (aC e fb),aP (aC e fh)]
   have Th:aM (aM (aM τc h [j,4,i]) b [j,5,i]) y [j,6,i] h=[j,4,i]:=by rw [aP V9.symm,aP M_.symm,bB]
   have Tb:aM (aM (aM τc h [j,4,i]) b [j,5,i]) y [j,6,i] b=[j,5,i]:=by rw [aP pL,bB]
   have Ty:aM (aM (aM τc h [j,4,i]) b [j,5,i]) y [j,6,i] y=[j,6,i]:=bB
   have KJ:j8 (aM (aM (aM τc h [j,4,i]) b [j,5,i]) y [j,6,i]) (upd H5 a (.lst ((hd.map fun q=>V.ref q.h)++[V.ref h]))):=fun x e=>by
    have e5:H5 x=none:=by
     by_cases z:x=a
     ·rw [z,ao] at e;cases e
     ·rw [aD z] at e;exact e
    have n1:x≠h:=fun z=>by rw [z,q5.h] at e5;cases e5
    have n2:x≠b:=fun z=>by rw [z,q5.b] at e5;cases e5
    have n3:x≠y:=fun z=>by rw [z,q5.y] at e5;cases e5
    rw [aP n3,aP n2,aP n1];exact KD x (s5.free e5)
   have q6:lX [[j,2]] τc Hc (aM (aM (aM τc h [j,4,i]) b [j,5,i]) y [j,6,i]) (upd H5 a (.lst ((hd.map fun q=>V.ref q.h)++[V.ref h]))):=by
    refine ⟨fun x u e n=>⟨?_,T x u e⟩,fun x xs e=> ?_⟩
    ·rw [aD (fun z:x=a=>n (by rw [z,tac];simp))]
     exact s5 _ _ e
    ·rw [aD (cG e hac (by intro z;cases z))]
     exact s5 _ _ e
   generalize aM (aM (aM τc h [j,4,i]) b [j,5,i]) y [j,6,i]=τ6 at T Th Tb Ty KJ q6;have haH:H a=none:=ha;refine ⟨_,_,τ6,hd++[⟨h,b,y⟩],rfl,(sc.trans s5).newly haH,KJ,fun x u e=>by rw [T x u (sc _ _ e)];exact zc x u e,by rw [ao,List.map_append];rfl,by rw [T _ _ hac];exact tac,by simp [li],fun kk A x h1 h2=> ?_⟩;rcases fW h1 with h1|⟨e1,rfl⟩
   ·exact (hdc kk A x h1 h2).Jt q6 (by simp) (by simp) (by simp)
   ·rw [e1,li,ex] at h2
    cases h2;rw [e1,li];have el:lead ⟨rws[i],0,List.replicate 8 0,[],""⟩=lead (new rws[i]):=Jy 60 (new rws[i]) "";rw [el] at q5;exact ⟨⟨by rw [aD nah.symm];exact q5.h,by rw [aD nab.symm];exact q5.b,by rw [aD nay.symm];exact q5.y,q5.vW,q5.yj,q5.pL,q5.bl⟩,Th,Tb,Ty⟩
  ·rintro σ Hc ⟨x1,x2,τc,hd,rfl,sc,KD,zc,hac,tac,li,hdc⟩
   rw [List.length_map,g.len] at li;refine ⟨_,rfl,nb,_,rfl,.inl (aY.of (sc _ _ hnb)),fun n hn=> ?_⟩;have sn:=aF (o:=HO.lst (ns.map V.int)) hn;refine ⟨_,rfl,(by show 2<=sizeLine;decide),fun t ht=> ?_⟩;have st:=aF (o:=HO.lst [V.ref n,V.ref a]) ht;have fn:Hc n=none:=hn;have ft:Hc t=none:=sn.free ht;have nnt:n≠t:=aC ao ht;have nan:a≠n:=aC hac fn;have ad9:a≠t:=aC hac ft;have s2:=sn.trans st;have T:∀x u,Hc x=some u->aM (aM τc n [j,1]) t [j,0] x=τc x:=fun x u e=>by rw [aP (aC e ft),aP (aC e fn)]
   have q7:lX [] τc Hc (aM (aM τc n [j,1]) t [j,0]) (upd (upd Hc n (.lst (ns.map V.int))) t (.lst [V.ref n,V.ref a])):=⟨fun x u e _=>⟨s2 _ _ e,T x u e⟩,s2.tups⟩;refine k ⟨t,n,a,hd⟩ (aM (aM τc n [j,1]) t [j,0]) _ ⟨ao,st _ _ ao,s2 _ _ hac,bB,by show aM (aM τc n [j,1]) t [j,0] n=_;rw [aP nnt,bB],by show aM (aM τc n [j,1]) t [j,0] a=_;rw [T _ _ hac];exact tac,by show hd.length=(rws.map _).length;rw [List.length_map,li],by simp,fun kk A s' c h1 h2 h3=> ?_⟩ (fun x e=> ?_) (fun x u e=>by rw [T x u (sc _ _ e)];exact zc x u e) (sc.trans s2)
   ·rw [List.getElem?_map] at h2
    cases ex:rws[kk]? with
    | none=>rw [ex] at h2;cases h2
    | some x=>
      rw [ex] at h2;cases h2;rw [List.getElem?_replicate] at h3;split at h3
      ·cases h3
       exact (hdc kk A x h1 ex).Jt q7 (by simp) (by simp) (by simp)
      ·cases h3
   ·have n1:x≠t:=fun z=>by rw [z,ao] at e;cases e
    rw [aD n1] at e;have n2:x≠n:=fun z=>by rw [z,ao] at e;cases e
    rw [aD n2] at e;rw [aP n1,aP n2];exact KD x e
theorem rR.gone {j:Nat} {τ:Tg} {H H':Hp} {L:vG} {ns:List Int} {hs:List aO} {cs:List Nat} {k c:Nat} {A:vf} {s:aO} {r:Rw} (w:rR j τ H L ns hs cs) (eA:L.hd[k]? = some A) (es:hs[k]? = some s) (ec:cs[k]? = some c)
 (kp:∀x u,H x=some u->x≠L.nb->x≠A.h->x≠A.b->x≠A.sy->H' x=some u) (q:oG H' A (jx ns s r) (c+1)) (hnb:H' L.nb=some (.lst ((iU ns s.bs r).map V.int))):
 rR j τ H' L (iU ns s.bs r) (hs.set k (jx ns s r)) (cs.set k (c+1))/\lW j τ H H':=by
 have a:=w.hd k A s c eA es ec;have tup:∀x xs,H x=some (.tup xs)->H' x=some (.tup xs):=fun x xs e=>kp _ _ e (cG e w.nb (by intro z;cases z)) (cG e a.q.h (by intro z;cases z)) (cG e a.q.b (by intro z;cases z)) (cG e a.q.y (by intro z;cases z))
 have st:lW j τ H H':=by
  refine ⟨fun x u e n=> ?_,tup,fun x e=> ?_⟩
  ·have ne:∀(y:Addr) (t:List Nat),τ y=j::t->x≠y:=fun y t ty z=>n (by rw [z,ty];rfl)
   exact kp _ _ e (ne _ _ w.tb) (ne _ _ a.th) (ne _ _ a.tb) (ne _ _ a.ty)
  ·cases q':H x with
   | none=>rfl
   | some u=>
     have no:∀y o,H' y=some o->x≠y:=fun y o h z=>by rw [z,h] at e;cases e
     rw [kp _ _ q' (no _ _ hnb) (no _ _ q.h) (no _ _ q.b) (no _ _ q.y)] at e;cases e
 refine ⟨?_,st⟩
 have mv:lX [[j,1],[j,4,k],[j,5,k],[j,6,k]] τ H τ H':=by
  refine ⟨fun x u e n=>⟨?_,rfl⟩,tup⟩;have ne:∀(y:Addr) (t:List Nat),τ y=t->t∈[[j,1],[j,4,k],[j,5,k],[j,6,k]]->x≠y:=fun y t ty ht z=>n (by rw [z,ty];exact ht);exact kp _ _ e (ne _ _ w.tb (by simp)) (ne _ _ a.th (by simp)) (ne _ _ a.tb (by simp)) (ne _ _ a.ty (by simp))
 have hk:k<hs.length:=(List.getElem?_eq_some_iff.mp es).1;have hk':k<cs.length:=(List.getElem?_eq_some_iff.mp ec).1;refine ⟨(mv.keep _ _ w.st (by rw [w.ts];simp)).1,hnb,(mv.keep _ _ w.hl (by rw [w.tl];simp)).1,w.ts,w.tb,w.tl,by simp [w.len],by simp [w.lc],fun i A' s' c' h1 h2 h3=> ?_⟩;rw [List.getElem?_set] at h2 h3
 by_cases z:k=i
 ·subst z
  rw [if_pos rfl,if_pos hk] at h2;rw [if_pos rfl,if_pos hk'] at h3;rw [eA] at h1;cases h1;cases h2;cases h3;exact ⟨q,a.th,a.tb,a.ty⟩
 ·rw [if_neg z] at h2 h3
  exact (w.hd i A' s' c' h1 h2 h3).Jt mv (by simp [Ne.symm z]) (by simp [Ne.symm z]) (by simp [Ne.symm z])
def Ih (K:PySem.W.Frag):Sp:=fun vs H Q _=>∃(j:Nat) (τ:Tg) (L:vG) (ns:List Int) (hs:List aO) (cs:List Nat) (p PL:Addr) (rs:List Addr) (rws:List (List Rw)) (m k:Nat) (s:aO) (r:Rw),vs=[.ref L.st,.ref p,.int k]/\rR j τ H L ns hs cs/\Pg τ H p PL rs rws m/\j≠0/\ns.length=m/\hs[k]? = some s/\rws[k]? = some s.rws/\s.rws[s.pos]? = some r/\touch r=true/\s.sy.length<900000 /\
 ∀(t:Addr) (H':Hp),H' t=some (.tup (sY ns s.bs r))->(∃c,cs[k]? = some c/\rR j τ H' L (iU ns s.bs r) (hs.set k (jx ns s r)) (cs.set k (c+1)))->lW j τ H H'->Q (.ref t) H'
theorem MK {f:Addr} {fd:FuncData} (F:fj K "_law_gone" "_law_gone" xM f fd) (jA:FnAt P w K mg base 3 "_law_now" ["boxes","told"] (vO 2 K)) (Di:FnAt P w K mg base 5 "_law_led" ["hand","rows"] (Dr K)) (Bt:mC mg):bU P w K mg base gF 6 f fd ["state","program","k"] (Ih K):=by
 refine F.ok iw (fun vs H Q E h=> ?_) (fun cdv A outer s H vs Q E hr h=> ?_)
 ·obtain ⟨j,τ,L,ns,hs,cs,p,PL,rs,rws,m,k,s,r,rfl,_⟩:=h
  rfl
 ·obtain ⟨j,τ,L,ns,hs,cs,p,PL,rs,rws,m,k,s,r,rfl,w,g,j0,nl,es,ew,er,tr,sl,kk⟩:=h
  refine ⟨_,(aB (aW (i:=3) iw.nd rfl (Or.inl rfl) (aJ (aH (K:=K) rfl) (aJ (aH (K:=K) rfl) (pv 0) aA (fun _ _=>rfl)) (pv 2) (fun _ _=>rfl)))
   (aB (aW (i:=4) iw.nd rfl (Or.inl rfl) (aJ (aH (K:=K) rfl) (aJ (aH (K:=K) rfl) (aJ (aU (K:=K) rfl) (pv 1) aA (fun _ _=>rfl)) (pv 2) (fun _ _=>rfl)) (aJ (aH (K:=K) rfl) (pv 3) aA (fun _ _=>rfl)) (fun _ _=>rfl)))
   (aB (fQ (bQ eG (aJ (aH (K:=K) rfl) (pv 3) aA (fun _ _=>rfl)) aA) (gB (pv 3) aA set_list))
   (aB (fQ (bQ eG (aJ (aH (K:=K) rfl) (pv 3) aA (fun _ _=>rfl)) aA) (gB (pv 3) aA set_list))
   (aB (aW (i:=5) iw.nd rfl (Or.inl rfl) eF)
   (aB (aW (i:=6) iw.nd rfl (Or.inl rfl) eF)
   (aB (aW (i:=7) iw.nd rfl (Or.inl rfl) (aJ (aU (K:=K) rfl) (pv 4) (aJ (aH (K:=K) rfl) (cC (aj aA (aj aA aq))) (bT j6 (by rfl) Bt.uZ pI (aj (cT cA (aJ (aU (K:=K) rfl) (pv 4) aA (fun _ _=>rfl)) bD (aR _)) aq)) (fun _ _=>rfl)) (fun _ _=>rfl)))
   (aB (bL (aQ lQ (aJ (aU (K:=K) rfl) (pv 4) aA (fun _ _=>rfl)) bD (aR _)) (aG (aW (i:=6) iw.nd rfl (Or.inl rfl) (bF jA (hr.mono (by decide)) (by rfl) (aj (aJ (aH (K:=K) rfl) (pv 3) aA (fun _ _=>rfl)) (aj (aJ (aU (K:=K) rfl) (pv 4) (DR wL aA) (fun _ _=>rfl)) aq))))) bw)
   (aB (bL (aQ lQ (aJ (aU (K:=K) rfl) (pv 4) aA (fun _ _=>rfl)) bD (aR _)) (aB (aW (i:=5) iw.nd rfl (Or.inl rfl) (aJ (aH (K:=K) rfl) (aJ (aH (K:=K) rfl) (pv 0) aA (fun _ _=>rfl)) (pv 7) (fun _ _=>rfl)))
   (aG (fQ (pv 5) (gB (aJ (aH (K:=K) rfl) (pv 3) aA (fun _ _=>rfl)) (o8 (K:=K) rfl PySem.F.plainAttrs_str PySem.F.slot_str_index PySem.F.type_str_index jZ bD (aj (aJ (aU (K:=K) rfl) (pv 4) aA (fun _ _=>rfl)) aq)) set_list)))) bw)
   (aB (bL (aQ xY (pv 6) eF (aR _)) (aG (fQ (pv 6) (gB (aJ (aH (K:=K) rfl) (pv 0) aA (fun _ _=>rfl)) (pv 7) set_list))) bw)
   (aB (cH (bF Di (hr.mono (by decide)) (by rfl) (aj (pv 3) (aj (aJ (aH (K:=K) rfl) (aJ (aU (K:=K) rfl) (pv 1) aA (fun _ _=>rfl)) (pv 2) (fun _ _=>rfl)) aq))))
   (aG (aV (cZ (aj (aJ (aU (K:=K) rfl) (pv 4) aA (fun _ _=>rfl)) (aj (pv 7) (aj (pv 5) (aj (pv 6) aq)))))))))))))))))), ?_⟩
  obtain ⟨A,c,eA,ec,a⟩:=w.hand es;have kl:=(List.getElem?_eq_some_iff.mp ew).1;have erw:rs[k]? = some (rs[k]'(by rw [g.len];exact kl)):=List.getElem?_eq_getElem _;generalize rs[k]'(by rw [g.len];exact kl)=rk at erw;obtain ⟨Bj,RK⟩:=g.row k rk _ erw ew;have RK':=RK;obtain ⟨ts,hts,vC,ro,rl⟩:=RK';obtain ⟨v,ev,dv⟩:=vC.getD (i:=s.pos) (d:=jg r) (by rw [List.getElem?_map,er];rfl);have pW:=ro r (List.mem_of_getElem? er);have nkh:rk≠A.h:=bZ Bj a.th (by intro z;cases z);have nkb:rk≠A.b:=bZ Bj a.tb (by intro z;cases z);have nky:rk≠A.sy:=bZ Bj a.ty (by intro z;cases z);have nkn:rk≠L.nb:=bZ Bj w.tb (by intro z;exact j0 (List.cons.inj z).1.symm);have Wb:L.nb≠A.h:=bZ w.tb a.th (by simp);have Ce:L.nb≠A.b:=bZ w.tb a.tb (by simp);have Jr:L.nb≠A.sy:=bZ w.tb a.ty (by simp);have nsh:L.st≠A.h:=bZ w.ts a.th (by simp);have nsb:L.st≠A.b:=bZ w.ts a.tb (by simp);have nsn:L.st≠L.nb:=bZ w.ts w.tb (by simp);have nPh:PL≠A.h:=bZ g.tL a.th (by intro z;cases z);have nPb:PL≠A.b:=bZ g.tL a.tb (by intro z;cases z);have nPn:PL≠L.nb:=bZ g.tL w.tb (by intro z;exact j0 (List.cons.inj z).1.symm);have cellOf:∀cc,cc<m->ns[cc]? = some ((ns[cc]?).getD 0):=fun cc h=>by rw [List.getElem?_eq_getElem (by omega)];rfl
  have cellAt:∀cc,cc<m->(ns.map V.int)[cc]? = some (.int ((ns[cc]?).getD 0)):=fun cc h=>by rw [List.getElem?_map,cellOf cc h];rfl
  have JG:∀cc,cc<m->Cr (ns.map V.int).length ((cc:Nat):Int)=some cc:=fun cc h=>by rw [List.length_map];unfold Cr;rw [if_pos (by omega),if_pos (by omega)];simp
  refine ⟨_,rfl,_,_,_,_,rfl,rfl,aY.of w.st,rfl,_,rfl,_,_,_,_,rfl,rfl,aY.of w.hl,bW (by rw [List.getElem?_map,eA];rfl), ?_⟩;refine ⟨_,rfl,_,_,_,_,rfl,rfl,cu.of g.ep,rfl,_,rfl,_,_,_,_,rfl,rfl,aY.of g.eL,bW (by rw [List.getElem?_map,erw];rfl),_,rfl,_,_,_,_,rfl,rfl,aY.of a.q.h,rfl,_,_,_,_,rfl,rfl,aY.of hts,bW ev, ?_⟩;refine ⟨_,rfl,_,_,_,_,rfl,rfl,aY.of a.q.h,rfl,_,_,rfl,rfl,_,rfl,A.h,_,_,0,rfl,rfl,a.q.h,rfl, ?_⟩;have q1:=a.q.gA (s.pos+1) c s.st;rw [show ([V.int s.pos,V.ref A.b,V.ref A.sy,V.str s.st,V.int c].set 0 (V.int ((s.pos:Int)+1)))=[.int ((s.pos+1:Nat):Int),.ref A.b,.ref A.sy,.str s.st,.int c] from rfl];have k1:KL A H (upd H A.h (.lst [.int ((s.pos+1:Nat):Int),.ref A.b,.ref A.sy,.str s.st,.int c])):=KL.gA;generalize (upd H A.h (.lst [.int ((s.pos+1:Nat):Int),.ref A.b,.ref A.sy,.str s.st,.int c]))=H1 at q1 k1 ⊢;refine ⟨_,rfl,_,_,_,_,rfl,rfl,aY.of q1.h,rfl,_,_,rfl,rfl,_,rfl,A.h,_,_,4,rfl,rfl,q1.h,rfl, ?_⟩;have q2:=q1.gA (s.pos+1) (c+1) s.st;have k2:=k1.trans (KL.gA (A:=A) (H:=H1) (o:= .lst [.int ((s.pos+1:Nat):Int),.ref A.b,.ref A.sy,.str s.st,.int ((c+1:Nat):Int)]));rw [show ([V.int ((s.pos+1:Nat):Int),V.ref A.b,V.ref A.sy,V.str s.st,V.int c].set 4 (V.int ((c:Int)+1)))=[.int ((s.pos+1:Nat):Int),.ref A.b,.ref A.sy,.str s.st,.int ((c+1:Nat):Int)] from rfl];generalize (upd H1 A.h (.lst [.int ((s.pos+1:Nat):Int),.ref A.b,.ref A.sy,.str s.st,.int ((c+1:Nat):Int)]))=H2 at q2 k2 ⊢;obtain ⟨t,ws,rfl,ht0,ps0⟩:=rH dv
  have ps:Parts H2 ws r:=by
   obtain ⟨t',ws',et,e2',ps'⟩:=rH (dv.keep (a.q.tup k2) _ (pD r));cases et;have:=(a.q.tup k2 _ _ ht0);rw [this] at e2';cases e2';exact ps'
  have ht:=a.q.tup k2 _ _ ht0;have st2:=k2 _ _ w.st nsh nsb (bZ w.ts a.ty (by simp));have Uw:=k2 _ _ w.nb Wb Ce Jr;have g2p:=a.q.tup k2 _ _ g.ep;have gL2:=k2 _ _ g.eL nPh nPb (bZ g.tL a.ty (by intro z;cases z));have R2:=RK.keep (fun o e=>k2 _ _ e nkh nkb nky) (a.q.tup k2)
  have fin:∀(D:Ends) (σr:V) (rd wr:Option Int) (H3:Hp),D.rt=Q->oG H3 A {s with pos:=s.pos+1,bs:=uT ns s.bs r} (c+1)->H3 L.nb=some (.lst ((iU ns s.bs r).map V.int))->(∀x u,H2 x=some u->x≠L.nb->x≠A.b->H3 x=some u)->(∀x xs,H2 x=some (.tup xs)->H3 x=some (.tup xs))->rd=Im ns r->wr=HD s.bs r ->
   Fv (Pq (Dm (Dr K) [] E0 (gP (kh 3) (gP (Bl (BP K) (Bl (Ir K) (kh 1) (tC (V.int 1))) (kh 2)) sZ)))) (Vl (QD (gP (Bl (Ir K) (kh 4) (tC (V.int 0))) (gP (kh 7) (gP (kh 5) (gP (kh 6) sZ)))))) D [some (.ref L.st),some (.ref p),some (.int k),some (.ref A.h),some (.ref t),some (oV rd),some (oV wr),some (.int (qd r))] H3:=fun D σr rd wr H3 hD q3 aaZ Uz t3 erd ewr=>by
   have R3:=R2.keep (fun o e=>Uz _ _ e nkn nkb) t3;refine ⟨_,rfl,_,rfl,_,_,_,_,rfl,rfl,cu.of (t3 _ _ g2p),rfl,_,rfl,_,_,_,_,rfl,rfl,aY.of (Uz _ _ gL2 nPn nPb),bW (by rw [List.getElem?_map,erw];rfl),A,_,c+1,m,rk,rfl,q3,R3,nkh,nkb,nky,sl,fun H4 q4 k4=> ?_⟩;have t4:=q3.tup k4;obtain ⟨t',ys,et,ht'⟩:=yQ (dv.keep (fun x xs e=>t4 _ _ (t3 _ _ (a.q.tup k2 _ _ e))) _ (pD r));cases et;refine ⟨_,rfl,_,_,_,_,rfl,rfl,cu.of ht',Aw,_,rfl,_,rfl,_,rfl,(by show 4<=sizeLine;decide),fun u hu=> ?_⟩;have su:=aF (o:=HO.tup [V.str (n_ r),V.int (qd r),oV rd,oV wr]) hu;have Ec:∀x u,H x=some u->x≠L.nb->x≠A.h->x≠A.b->x≠A.sy->H4 x=some u:=fun x u e n1 n2 n3 n4=>k4 _ _ (Uz _ _ (k2 _ _ e n2 n3 n4) n1 n3) n2 n3 n4;have aaY:=k4 _ _ aaZ Wb Ce Jr;obtain ⟨w5,vm⟩:=w.gone (H':=upd H4 u (.tup [V.str (n_ r),V.int (qd r),oV rd,oV wr])) (r:=r) eA es ec (fun x o e n1 n2 n3 n4=>su _ _ (Ec x o e n1 n2 n3 n4)) (q4.same su) (su _ _ aaY);rw [hD];refine kk u _ ?_ ⟨c,ec,w5⟩ vm;rw [ao,erd,ewr];rfl
  cases r with
  | load bb cc=>
    obtain rfl:=ps;refine ⟨_,rfl,(by show 2<=sizeLine;decide),fun l hl=> ?_⟩;have sl':=aF (o:=HO.lst [V.int 2,V.int 1]) hl;have ht1:=sl' _ _ ht;refine ⟨_,rfl,_,_,_,_,rfl,rfl,cu.of ht1,rfl,rfl,.inr ⟨_,rfl,_,_,_,_,rfl,rfl,aY.of ao,rfl,_,_,_,_,rfl,rfl,cu.of ht1,rfl, ?_⟩⟩;refine ⟨_,rfl,_,_,_,_,rfl,rfl,cu.of ht1,rfl,rfl,_,rfl,m5 rfl ?_⟩;refine ⟨_,rfl,_,_,_,_,rfl,rfl,cu.of ht1,rfl,rfl,_,rfl, ?_⟩;refine bK (fun _=> ?_) (fun z=>absurd (by decide) z);have q3:=q2.same sl';refine ⟨_,rfl,_,_,_,_,rfl,rfl,aY.of (sl' _ _ st2),rfl,_,rfl,_,_,_,_,rfl,rfl,aY.of (sl' _ _ Uw),bW (cellAt cc pW.2), ?_⟩;refine ⟨_,rfl,_,rfl,_,_,_,_,rfl,rfl,aY.of q3.h,rfl,rfl,_,rfl,_,_,_,_,rfl,rfl,cu.of ht1,rfl,_,_,bb,[],rfl,rfl,qZ pW.1,A.b,_,_,bb,rfl,rfl,q3.b,q3.ixb pW.1, ?_⟩;rw [←List.map_set];refine ⟨_,rfl,rfl,_,rfl,cD ?_⟩;refine fin _ .non (some ((ns[cc]?).getD 0)) none _ rfl (q3.tV _ (by rw [List.length_set];exact q3.bl)) (by rw [aD Ce];exact sl' _ _ Uw) (fun x u e n1 n2=>by rw [aD n2];exact sl' _ _ e) (fun x xs e=>by rw [aD (cG (sl' _ _ e) q3.b (by intro z;cases z))];exact sl' _ _ e) ?_ rfl;exact (cellOf cc pW.2).symm
  | store cc e=>
    obtain ⟨x,rfl,dx⟩:=ps;refine ⟨_,rfl,(by show 2<=sizeLine;decide),fun l hl=> ?_⟩;have sl':=aF (o:=HO.lst [V.int 2,V.int 1]) hl;have ht1:=sl' _ _ ht;have q3:=q2.same sl';refine ⟨_,rfl,_,_,_,_,rfl,rfl,cu.of ht1,rfl,rfl,.inr ⟨_,rfl,_,_,_,_,rfl,rfl,aY.of ao,rfl,_,_,_,_,rfl,rfl,cu.of ht1,rfl, ?_⟩⟩;refine ⟨_,rfl,_,_,_,_,rfl,rfl,cu.of ht1,rfl,rfl,_,rfl, ?_⟩;refine bK (fun _=> ?_) (fun z=>absurd (by decide) z);refine ⟨_,rfl,_,_,_,_,rfl,rfl,aY.of q3.h,rfl,_,rfl,_,rfl,_,_,_,_,rfl,rfl,cu.of ht1,rfl,A.b,x,e,s.bs,rfl,q3.b,q3.bl,dx.same sl' _,pW.2,rP e, ?_⟩;refine ⟨_,rfl,_,_,_,_,rfl,rfl,cu.of ht1,rfl,rfl,_,rfl,m5 rfl ?_⟩;refine ⟨_,rfl,rfl,_,rfl,dM ?_⟩;refine ⟨_,rfl,_,rfl,_,_,_,_,rfl,rfl,aY.of (sl' _ _ st2),rfl,_,rfl,L.nb,_,_,cc,rfl,rfl,sl' _ _ Uw,JG cc pW.1, ?_⟩;rw [←List.map_set];have nhn:A.h≠L.nb:=Wb.symm;refine fin _ .non none (some (vx s.bs e)) _ rfl ⟨by rw [aD Wb.symm];exact q3.h,by rw [aD Ce.symm];exact q3.b,by rw [aD Jr.symm];exact q3.y,q3.vW,q3.yj,q3.pL,q3.bl⟩ ao (fun x u e n1 n2=>by rw [aD n1];exact sl' _ _ e) (fun x xs e=>by rw [aD (cG (sl' _ _ e) (sl' _ _ Uw) (by intro z;cases z))];exact sl' _ _ e) rfl rfl
  | swap bb cc e=>
    obtain ⟨x,rfl,dx⟩:=ps;refine ⟨_,rfl,(by show 2<=sizeLine;decide),fun l hl=> ?_⟩;have sl':=aF (o:=HO.lst [V.int 2,V.int 1]) hl;have ht1:=sl' _ _ ht;have q3:=q2.same sl';refine ⟨_,rfl,_,_,_,_,rfl,rfl,cu.of ht1,rfl,rfl,.inr ⟨_,rfl,_,_,_,_,rfl,rfl,aY.of ao,rfl,_,_,_,_,rfl,rfl,cu.of ht1,rfl, ?_⟩⟩;refine ⟨_,rfl,_,_,_,_,rfl,rfl,cu.of ht1,rfl,rfl,_,rfl, ?_⟩;refine bK (fun _=> ?_) (fun z=>absurd (by decide) z);refine ⟨_,rfl,_,_,_,_,rfl,rfl,aY.of q3.h,rfl,_,rfl,_,rfl,_,_,_,_,rfl,rfl,cu.of ht1,rfl,A.b,x,e,s.bs,rfl,q3.b,q3.bl,dx.same sl' _,pW.2.2,rP e, ?_⟩;refine ⟨_,rfl,_,_,_,_,rfl,rfl,cu.of ht1,rfl,rfl,_,rfl, ?_⟩;refine bK (fun _=> ?_) (fun z=>absurd (by decide) z);refine ⟨_,rfl,_,_,_,_,rfl,rfl,aY.of (sl' _ _ st2),rfl,_,rfl,_,_,_,_,rfl,rfl,aY.of (sl' _ _ Uw),bW (cellAt cc pW.2.1), ?_⟩;refine ⟨_,rfl,_,rfl,_,_,_,_,rfl,rfl,aY.of q3.h,rfl,rfl,_,rfl,_,_,_,_,rfl,rfl,cu.of ht1,rfl,_,_,bb,[],rfl,rfl,qZ pW.1,A.b,_,_,bb,rfl,rfl,q3.b,q3.ixb pW.1, ?_⟩;rw [←List.map_set];have q4:=q3.tV (s.bs.set bb ((ns[cc]?).getD 0)) (by rw [List.length_set];exact q3.bl);have t4:∀x xs,H2 x=some (.tup xs)->(upd (upd H2 l (.lst [V.int 2,V.int 1])) A.b (.lst ((s.bs.set bb ((ns[cc]?).getD 0)).map V.int))) x=some (.tup xs):=fun x xs e=>by rw [aD (cG (sl' _ _ e) q3.b (by intro z;cases z))];exact sl' _ _ e
    have Ec:∀x u,H2 x=some u->x≠A.b->(upd (upd H2 l (.lst [V.int 2,V.int 1])) A.b (.lst ((s.bs.set bb ((ns[cc]?).getD 0)).map V.int))) x=some u:=fun x u e n=>by rw [aD n];exact sl' _ _ e
    generalize (upd (upd H2 l (.lst [V.int 2,V.int 1])) A.b (.lst ((s.bs.set bb ((ns[cc]?).getD 0)).map V.int)))=H4 at q4 t4 Ec ⊢;refine ⟨_,rfl,rfl,_,rfl,dM ?_⟩;have nb4:=Ec _ _ Uw Ce;refine ⟨_,rfl,_,rfl,_,_,_,_,rfl,rfl,aY.of (Ec _ _ st2 nsb),rfl,_,rfl,L.nb,_,_,cc,rfl,rfl,nb4,JG cc pW.2.1, ?_⟩;rw [←List.map_set];refine fin _ .non (some ((ns[cc]?).getD 0)) (some (vx s.bs e)) _ rfl ⟨by rw [aD Wb.symm];exact q4.h,by rw [aD Ce.symm];exact q4.b,by rw [aD Jr.symm];exact q4.y,q4.vW,q4.yj,q4.pL,q4.bl⟩ ao (fun x u e n1 n2=>by rw [aD n1];exact Ec _ _ e n2) (fun x xs e=>by rw [aD (cG (t4 _ _ e) nb4 (by intro z;cases z))];exact t4 _ _ e) ?_ rfl;exact (cellOf cc pW.2.1).symm
  | pC b e=>cases tr
  | say e=>cases tr
  | go n=>cases tr
  | oh q e f n=>cases tr
def vJ (hs:List aO) (k:Nat):Bool:=match hs[k]? with
 | some s=>decide (s.st = "waits")
 | none=>false
def lJ (hs:List aO):List Nat:=(List.range hs.length).filter (vJ hs)
theorem JV {α:Type} (p:Nat->Bool) (f:Nat->α) (n:Nat):(List.range n).filterMap (fun i=>if p i then some (f i) else none)=((List.range n).filter p).map f:=by
 induction n with
 | zero=>rfl
 | succ n ih=>
   rw [eV,ih,List.range_succ,List.filter_append,List.map_append];congr 1;cases h:p n<;>simp [h]
def vM (K:PySem.W.Frag):Sp:=fun vs H Q _=>∃(j:Nat) (τ:Tg) (L:vG) (ns:List Int) (hs:List aO) (cs:List Nat),vs=[.ref L.st]/\rR j τ H L ns hs cs/\hs.length<=100 /\ ∀(l:Addr) (H':Hp),H l=none->H' l=some (.lst ((lJ hs).map fun k:Nat=>V.int k))->Same H H'->Q (.ref l) H'
theorem BZ {f:Addr} {fd:FuncData} (F:fj K "_law_waiting" "_law_waiting" oU f fd) (Bt:mC mg):bU P w K mg base gF 1 f fd ["state"] (vM K):=by
 refine F.ok zL (fun vs H Q E h=> ?_) (fun cdv A outer s H vs Q E hr h=> ?_)
 ·obtain ⟨j,τ,L,ns,hs,cs,rfl,_⟩:=h
  rfl
 ·obtain ⟨j,τ,L,ns,hs,cs,rfl,w,hl,k⟩:=h
  refine ⟨_,(aG (aV (cI rfl (N:=["k","state"]) (own:=["k"]) (caps:=[0]) (bh.of (by kernel_rfl)) (dj (by rfl) Bt.fL (aj (bf (bC (K:=K) rfl) (by rfl) Bt.dU cU (aj (aJ (aH (K:=K) rfl) (pv 0) aA (fun _ _=>rfl)) aq)) aq)) (fun _ _ _ _=>(bI (i:=0) (show List.Nodup (["k","state"]:List Str) by decide +kernel) rfl (Or.inl rfl))) (fun _ _ _ _=>(xU (aQ cA (aJ (aH (K:=K) rfl) (aJ (aH (K:=K) rfl) (aJ (aH (K:=K) rfl) (pv 1) aA (fun _ _=>rfl)) (pv 0) (fun _ _=>rfl)) aA (fun _ _=>rfl)) bD (aR _)))) (fun _ _ _ _=>(pv 0))))), ?_⟩;have ll:(L.hd.map fun a=>V.ref a.h).length=hs.length:=by rw [List.length_map,w.len]
  refine ⟨_,rfl,_,_,_,_,rfl,rfl,aY.of w.st,rfl,L.hl,_,rfl,.inl (aY.of w.hl),_,rfl,by rw [ll];omega,by rw [ll];omega,fun D hD=> ?_⟩;rw [ll,Int.toNat_natCast];refine j5 (fun i=>if vJ hs i then some (.int (i:Nat)) else none) hD (by omega) (fun i H1 G F hi s1 kG kF=> ?_) (fun H1 s1 e1=> ?_)
  ·obtain ⟨A,c,eA,ec,a⟩:=(w.same s1).hand (k:=i) (s:=hs[i]) (by simp [hi])
   have w1:=w.same s1;refine ⟨_,rfl,_,_,_,_,rfl,rfl,aY.of w1.st,rfl,_,rfl,_,_,_,_,rfl,rfl,aY.of w1.hl,by rw [Int.zero_add];exact bW (by rw [List.getElem?_map,eA];rfl),_,_,_,_,rfl,rfl,aY.of a.q.h,rfl,rfl,_,rfl, ?_⟩;have eb:vJ hs i=decide (hs[i].st = "waits"):=by unfold vJ;rw [List.getElem?_eq_getElem hi]
   rw [eb] at kG kF;refine bK (fun q=> ?_) (fun q=> ?_)
   ·have hq:hs[i].st=Str.ofString "waits" :=V.str.inj (of_decide_eq_true q)
    refine ⟨_,rfl,kF _ H1 (Same.refl _) ?_⟩;rw [decide_eq_true hq,Int.zero_add];rfl
   ·refine kG H1 (Same.refl _) ?_
    have hq:¬hs[i].st=Str.ofString "waits" :=fun z=>q (decide_eq_true (by rw [z]));rw [decide_eq_false hq];rfl
  ·rw [JV] at e1
   exact k D H1 hD e1 s1
def NumV (τ:Tg) (H:Hp) (v:V) (ns:List Int) (m:Nat):Prop:=pB m ns/\((v = .non/\ns=List.replicate m 0) \/ ∃l,v = .ref l/\τ l=[0]/\H l=some (.lst (ns.map V.int)))
theorem NumV.mv {i:Nat} {τ τ':Tg} {H H':Hp} {v:V} {ns:List Int} {m:Nat} (h:NumV τ H v ns m) (q:Mv i τ H τ' H'):NumV τ' H' v ns m:=by
 obtain ⟨g,h⟩:=h;refine ⟨g, ?_⟩;rcases h with h|⟨l,e,t,hl⟩
 ·exact .inl h
 ·have:=q.keep _ _ hl (.inl t)
  exact .inr ⟨l,e,this.2.trans t,this.1⟩
theorem Rx (m:Nat):pB m (List.replicate m 0):=⟨by rw [List.length_replicate],fun x hx=>by rw [(List.mem_replicate.mp hx).2];exact ⟨by decide,by decide⟩⟩
theorem rep0 (m:Nat):(List.replicate m [V.int 0]).flatten=(List.replicate m (0:Int)).map V.int:=by
 rw [List.map_replicate]
 induction m with
 | zero=>rfl
 | succ n ih=>rw [List.replicate_succ,List.flatten_cons,ih,List.replicate_succ];rfl
def Ig (K:PySem.W.Frag):Sp:=fun vs H Q _=>∃(r:Addr) (τ:Tg) (m:Nat),vs=[.ref r,.int m]/\RT τ H r/\m<=20 /\ ∀(v:V) (ns:List Int) (τ':Tg) (H':Hp),NumV τ' H' v ns m->RT τ' H' r->(∀x u,H x=some u->τ' x=τ x)->Kp r H H'->Q v H'
theorem Mw {f:Addr} {fd:FuncData} (F:fj K "_law_numbers" "_law_numbers" oZ f fd) (bO:FnAt P w K mg base 1 "_law_draw" ["reel","many"] (gZ K)) (Bt:mC mg):bU P w K mg base gF 2 f fd ["reel","many"] (Ig K):=by
 refine F.ok zM (fun vs H Q E h=> ?_) (fun cdv A outer s H vs Q E hr h=> ?_)
 ·obtain ⟨r,τ,m,rfl,_⟩:=h
  rfl
 ·obtain ⟨r,τ,m,rfl,T,Wj,k⟩:=h
  refine ⟨_,(aB (bL (aQ cA (bF bO (hr.mono (by decide)) (by rfl) (aj (pv 0) (aj aA aq))) aA (aR _)) (aG (aV eF)) bw)
   (aG (aV (cI rfl (N:=["k","reel"]) (own:=["k"]) (caps:=[0]) (bh.of (by kernel_rfl)) (dj (by rfl) Bt.fL (aj (pv 1) aq)) (fun _ _ _ _=>(bI (i:=0) (show List.Nodup (["k","reel"]:List Str) by decide +kernel) rfl (Or.inl rfl))) (fun _ _ _ _=>cB) (fun _ _ _ _=>(bF bO (hr.mono (by decide)) (by rfl) (aj (pv 1) (aj (aJ (aH (K:=K) rfl) (cC (aj aA (aj aA aq))) (bF bO (hr.mono (by decide)) (by rfl) (aj (pv 1) (aj aA aq))) (fun _ _=>rfl)) aq)))))))), ?_⟩
  refine ⟨_,rfl,r,2,rfl,T.R,by decide,by decide,fun z H1 z0 z1 R1 k1=>⟨rfl,_,rfl, ?_⟩⟩;have T1:=T.draw k1 R1;refine bK (fun _=> ?_) (fun _=> ?_)
  ·exact k .non _ τ H1 ⟨Rx m,.inl ⟨rfl,rfl⟩⟩ T1 (fun x u e=>rfl) k1.1
  refine ⟨_,rfl,_,rfl,by omega,by omega,fun D hD=> ?_⟩;rw [Int.toNat_natCast];have sD:=aF (o:=HO.lst []) hD;have Qc:D≠r:=R1.ne hD;have SN:H D=none:=p7 k1.1 Qc hD;have TD:=T1.claim (t:=[0]) sD hD ⟨_,ao⟩;have KN:aM τ D [0] D=[0]:=bB;have Ph:∀x u,H x=some u->aM τ D [0] x=τ x:=fun x u e=>aP (aC e SN);generalize aM τ D [0]=τd at TD KN Ph;refine lD (lo:=0) (n:=m) (fun i σ Hd=>∃(v:Option V) (ns:List Int),σ=[v,some (.ref r)]/\RT τd Hd r/\Hd D=some (.lst (ns.map V.int))/\(∀x∈ns,0<=x/\x<1000)/\ns.length=i/\Kp r H Hd) ?_ ?_ ?_
  ·exact ⟨none,[],rfl,TD,ao,by simp,rfl,k1.1.trans (Kp.of_same sD)⟩
  ·rintro i σ Hd hi ⟨v,ns,rfl,Td,K6,od,ld,RP⟩
   dsimp only [bV,oJ];rw [if_pos rfl];refine ⟨_,rfl,(by show 2<=sizeLine;decide),fun l hl=> ?_⟩;have sl:=aF (o:=HO.lst [V.int 4,V.int 1000]) hl;have nlr:l≠r:=Td.R.ne hl;refine ⟨_,rfl,r,2,rfl,(Td.same sl).R,by decide,by decide,fun q H2 q0 q1 R2 k2=> ?_⟩;have T2:=(Td.same sl).draw k2 R2
   obtain ⟨bb,eb,b0,b1⟩:∃bb:Int,qm [V.int 4,V.int 1000] q=some (.int bb)/\0<bb/\bb<=1000:=by
    have:q=0\/q=1:=by omega
    rcases this with rfl|rfl
    ·exact ⟨4,rfl,by decide,by decide⟩
    ·exact ⟨1000,rfl,by decide,by decide⟩
   refine ⟨_,_,_,_,rfl,rfl,aY.of (k2.1 _ _ ao nlr),eb,r,bb,rfl,R2,b0,by omega,fun y H3 y0 y1 R3 k3=> ?_⟩;have T3:=T2.draw k3 R3;have WX:=T2.keep k3 ((Td.same sl).keep k2 (sl _ _ K6) (by rw [KN];simp)) (by rw [KN];simp);refine ⟨_,WX,(by rw [List.length_map,sizeLine_eq];omega),_,ns++[y],rfl,T3.set WX (by rw [KN];simp),by rw [ao,List.map_append];rfl, ?_,by simp [ld],fun x o e n'=>by rw [aD (aC e SN)];exact k3.1 _ _ (k2.1 _ _ (sl _ _ (RP _ _ e n')) n') n'⟩;intro x hx;rcases List.mem_append.mp hx with hx|hx
   ·exact od x hx
   ·rw [List.mem_singleton.mp hx];exact ⟨y0,by omega⟩
  ·rintro σ Hd ⟨v,ns,rfl,Td,K6,od,ld,RP⟩
   exact k _ ns τd Hd ⟨⟨by rw [ld],od⟩,.inr ⟨D,rfl,KN,K6⟩⟩ Td Ph RP
def wN (CW CH:Addr) (K:PySem.W.Frag):Sp:=fun vs H Q _=>∃(i:Nat) (τ:Tg) (p L:Addr) (rs:List Addr) (rws:List (List Rw)) (m:Nat) (v:V) (ns:List Int),vs=[.ref p,v]/\Pg τ H p L rs rws m/\rws.length<=100/\m<=100/\NumV τ H v ns m/\j8 τ H/\i≠0 /\ ∀(W:oE) (τ':Tg) (H':Hp),jD CW CH i τ' H' W (lE m ns rws)->(∀x u,H x=some u->τ' x=τ x)->Same H H'->Q (.ref W.o) H'
theorem Pg.copied {τ:Tg} {H:Hp} {p L D:Addr} {rs:List Addr} {rws:List (List Rw)} {m:Nat} {te:TE} {Q:VK} {rest:St} (g:Pg τ H p L rs rws m) (hD:H D=none) (rl:rws.length<=100) (Wu:∀(r:Addr) (ts:List V) (H1:Hp) (F:VK),H1 r=some (.lst ts)->(∀q,H1 q=none->F (.ref q) (upd H1 q (.lst ts)))->te (some (.ref r)::rest) H1 F)
 (k:∀(qs:List Addr) (H':Hp),Same H H'->H' D=some (.lst (qs.map V.ref))->qs.length=rws.length->(∀(kk:Nat) (q:Addr) (x:List Rw),qs[kk]? = some q->rws[kk]? = some x->cW H' q m x)->Q (.ref D) H'):jF (K9 K L) (bV 0) oJ te Q D (none::rest) H:=by
 refine eE (K:=K) (xs:=rs.map V.ref) (fun j σ Hc=>∃(v:Option V) (qs:List Addr),σ=v::rest/\qs.length=j/\Same H Hc/\Hc D=some (.lst (qs.map V.ref)) /\ ∀(kk:Nat) (q:Addr) (x:List Rw),qs[kk]? = some q->rws[kk]? = some x->q≠D/\cW Hc q m x) ?_ ?_ ?_ ?_
 ·exact ⟨none,[],rfl,rfl,aF hD,ao,fun kk q x e=>by simp at e⟩
 ·rintro j σ Hc _ ⟨v,qs,rfl,_,sc,_⟩
  exact aY.of (sc _ _ g.eL)
 ·rintro j x σ Hc hj ⟨v,qs,rfl,lj,sc,zf,hc⟩
  rw [List.getElem?_map] at hj
  obtain ⟨r0,Qk,rfl⟩:∃r0,rs[j]? = some r0/\x = .ref r0:=by
   cases e:rs[j]? with
   | none=>rw [e] at hj;cases hj
   | some r0=>rw [e] at hj;exact ⟨r0,rfl,(Option.some.inj hj).symm⟩
  have jl:j<rws.length:=by rw [←g.len];exact (List.getElem?_eq_some_iff.mp Qk).1
  have ex:rws[j]? = some rws[j]:=by simp [jl]
  obtain ⟨ts,hts,vC,rq,rl'⟩:=(g.row j r0 _ Qk ex).2;dsimp only [bV,oJ];rw [if_pos rfl];refine Wu r0 ts Hc _ (sc _ _ hts) (fun q hq=> ?_);have sr:=aF (o:=HO.lst ts) hq;have P_:q≠D:=(aC zf hq).symm;refine ⟨qs.map V.ref,sr _ _ zf,(by rw [List.length_map,sizeLine_eq];omega),_,qs++[q],rfl,by simp [lj],(sc.trans sr).newly hD,by rw [ao];simp,fun kk q' x' h1 h2=> ?_⟩
  have tups:∀y ys,Hc y=some (.tup ys)->(upd (upd Hc q (.lst ts)) D (.lst (qs.map V.ref++[V.ref q]))) y=some (.tup ys):=fun y ys e=>by
   rw [aD (cG e zf (by intro z;cases z))];exact sr _ _ e
  rcases fW h1 with h1|⟨e1,rfl⟩
  ·obtain ⟨n1,R1⟩:=hc kk q' x' h1 h2
   exact ⟨n1,R1.keep (fun u e=>by rw [aD n1];exact sr _ _ e) tups⟩
  ·rw [e1,lj,ex] at h2
   cases h2;exact ⟨P_,ts,by rw [aD P_,ao],vC.keep (fun y ys e=>tups _ _ (sc _ _ e)) _ (p8 _),rq,rl'⟩
 ·rintro σ Hc ⟨v,qs,rfl,lj,sc,zf,hc⟩
  rw [List.length_map,g.len] at lj;exact k qs Hc sc zf lj fun kk q x h1 h2=>(hc kk q x h1 h2).2
theorem Jb {ak au bN:Addr} {f:Addr} {fd:FuncData} (F:fj K "_law_works" "_law_works" ud f fd) (u9:lF P w K mg base 7 ak "Works" ["self","program","cells"] [.non] (fun vs H Q _=>gG ak au bN K vs H Q fun _ _ _=>False)) (Kw:yX P w K mg base 7 ak "Works" ["self","program","cells"] "cells" (gG ak au bN K)) (Bt:mC mg):bU P w K mg base gF 9 f fd ["program","numbers"] (wN ak au K):=by
 refine F.ok FJ (fun vs H Q E h=> ?_) (fun cdv A outer s H vs Q E hr h=> ?_)
 ·obtain ⟨i,τ,p,L,rs,rws,m,v,ns,rfl,_⟩:=h
  rfl
 ·obtain ⟨i,τ,p,L,rs,rws,m,v,ns,rfl,g,rl,ml,⟨good,hv⟩,un,i0,k⟩:=h
  refine ⟨_,(aB (bL (aQ o_ (pv 1) eF (aR _)) (aG (aV (jY u9 (hr.mono (by decide)) (by rfl) (aj (cZ (aj (aJ (aU (K:=K) rfl) (pv 0) aA (fun _ _=>rfl)) (aj (cI rfl (N:=["rows"]) (own:=["rows"]) (caps:=[]) (bh.of (by kernel_rfl)) (cj (K:=K) rfl (aJ (aU (K:=K) rfl) (pv 0) aA (fun _ _=>rfl))) (fun _ _ _ _=>(bI (i:=0) (show List.Nodup (["rows"]:List Str) by decide +kernel) rfl (Or.inl rfl))) (fun _ _ _ _=>cB) (fun _ _ _ _=>(bT (bG (K:=K) rfl) (by rfl) Bt.dg cN (aj (pv 0) aq)))) aq))) aq)))) bw)
   (aG (aV (IK Kw rfl rzF (hr.mono (by decide)) (by rfl) (aj (cZ (aj (aJ (aU (K:=K) rfl) (pv 0) aA (fun _ _=>rfl)) (aj (cI rfl (N:=["rows"]) (own:=["rows"]) (caps:=[]) (bh.of (by kernel_rfl)) (cj (K:=K) rfl (aJ (aU (K:=K) rfl) (pv 0) aA (fun _ _=>rfl))) (fun _ _ _ _=>(bI (i:=0) (show List.Nodup (["rows"]:List Str) by decide +kernel) rfl (Or.inl rfl))) (fun _ _ _ _=>cB) (fun _ _ _ _=>(bT (bG (K:=K) rfl) (by rfl) Bt.dg cN (aj (pv 0) aq)))) aq))) aq) (bT (bG (K:=K) rfl) (by rfl) Bt.dg cN (aj (pv 1) aq)))))), ?_⟩
  have nl:ns.length=m:=by have:=good.1;omega
  have mk:∀(H1:Hp) (D q o dx:Addr) (qs:List Addr) (cv:V),Same H H1->H1 D=some (.lst (qs.map V.ref))->qs.length=rws.length->(∀(kk:Nat) (q:Addr) (x:List Rw),qs[kk]? = some q->rws[kk]? = some x->cW H1 q m x)->H1 q=some (.tup [.int m,.ref D])->H1 o=none->H1 dx=none->dx≠o->((cv = .non/\ns=List.replicate m 0) \/ ∃cl,cv = .ref cl/\H1 cl=some (.lst (ns.map V.int))) ->
   gG ak au bN K [.ref o,.ref q,cv] (upd (upd H1 dx (.own o)) o (.ins ak dx [])) (fun v H'=>v = .non/\Q (.ref o) H') (fun _ _ _=>False):=fun H1 D q o dx qs cv s1 hD lq hq hq1 ho hdx ndx hcv=>by
   have ho':(upd H1 dx (.own o)) o=none:=by rw [aD ndx.symm];exact ho
   have sm:Same H1 (upd (upd H1 dx (.own o)) o (.ins ak dx [])):=(aF hdx).trans (aF ho');refine ⟨i,τ,o,dx,q,D,qs,m,cv,ns,rws,rfl,ao,sm _ _ hq1,sm _ _ hD,lq,fun kk q' x h1 h2=>(hq kk q' x h1 h2).same sm,rl,ml,(un.same s1).same sm,i0,by omega, ?_,fun _ τ' W H' eo w tg kp=>⟨rfl, ?_⟩,fun bad=>absurd good bad⟩
   ·rcases hcv with h|⟨cl,e,h⟩
    ·exact .inl h
    ·exact .inr ⟨cl,e,sm _ _ h⟩
   ·rw [←eo]
    have s1':Same H1 H':=fun x u e=>kp _ _ (sm _ _ e) (aC e ho);exact k W τ' H' w (fun x u e=>tg x u (sm _ _ (s1 _ _ e)) (aC (s1 _ _ e) ho)) (s1.trans s1')
  refine ⟨_,rfl,rfl,_,rfl, ?_⟩;rcases hv with ⟨rfl,rfl⟩|⟨l,rfl,tl,hl⟩
  ·refine dM ?_
   refine ⟨_,rfl,_,_,_,_,rfl,rfl,cu.of g.ep,rfl,_,rfl,_,_,_,_,rfl,rfl,cu.of g.ep,rfl,L,rfl,⟨_,aY.of g.eL⟩,fun D hD=> ?_⟩;refine g.copied hD rl (fun r ts H1 F hr kF=>⟨_,rfl,r,_,rfl,.inl (aY.of hr),fun q hq=>kF q hq⟩) (fun qs H1 s1 hD1 lq hq=> ?_);refine ⟨(by show 2<=sizeLine;decide),fun q hq'=> ?_⟩;have sq:=aF (o:=HO.tup [V.int m,V.ref D]) hq';refine fun o dx ho hdx ndx=> ?_;exact mk _ D q o dx qs .non (s1.trans sq) (sq _ _ hD1) lq (fun kk q' x h1 h2=>(hq kk q' x h1 h2).same sq) ao ho hdx ndx (.inl ⟨rfl,rfl⟩)
  ·refine cD ?_
   refine ⟨_,rfl,_,_,_,_,rfl,rfl,cu.of g.ep,rfl,_,rfl,_,_,_,_,rfl,rfl,cu.of g.ep,rfl,L,rfl,⟨_,aY.of g.eL⟩,fun D hD=> ?_⟩;refine g.copied hD rl (fun r ts H1 F hr kF=>⟨_,rfl,r,_,rfl,.inl (aY.of hr),fun q hq=>kF q hq⟩) (fun qs H1 s1 hD1 lq hq=> ?_);refine ⟨(by show 2<=sizeLine;decide),fun q hq'=> ?_⟩;have sq:=aF (o:=HO.tup [V.int m,V.ref D]) hq';refine ⟨_,rfl,l,_,rfl,.inl (aY.of (sq _ _ (s1 _ _ hl))),fun cl hcl=> ?_⟩;have Ln:=aF (o:=HO.lst (ns.map V.int)) hcl;refine ⟨_,rfl,fun o dx ho hdx ndx=> ?_⟩;exact mk _ D q o dx qs (.ref cl) ((s1.trans sq).trans Ln) (Ln _ _ (sq _ _ hD1)) lq (fun kk q' x h1 h2=>((hq kk q' x h1 h2).same sq).same Ln) (Ln _ _ ao) ho hdx ndx (.inr ⟨cl,rfl,ao⟩)
def Dt (K:PySem.W.Frag):Sp:=fun vs H Q _=>∃(j:Nat) (τ:Tg) (p PL:Addr) (rs:List Addr) (rws:List (List Rw)) (m:Nat) (v:V) (ns:List Int),vs=[.ref p,v]/\Pg τ H p PL rs rws m/\rws.length<=100/\m<=100/\NumV τ H v ns m/\j8 τ H /\
 ∀(L:vG) (τ':Tg) (H':Hp),rR j τ' H' L ns (rws.map fun r=>lead (new r)) (List.replicate rws.length 0)->j8 τ' H'->(∀x u,H x=some u->τ' x=τ x)->Same H H'->Q (.ref L.st) H'
theorem Jh {f:Addr} {fd:FuncData} (F:fj K "_law_first" "_law_first" ug f fd) (A_:FnAt P w K mg base 6 "_law_begun" ["program","numbers"] (Du K)):bU P w K mg base gF 7 f fd ["program","numbers"] (Dt K):=by
 refine F.ok FN (fun vs H Q E h=> ?_) (fun cdv A outer s H vs Q E hr h=> ?_)
 ·obtain ⟨j,τ,p,PL,rs,rws,m,v,ns,rfl,_⟩:=h
  rfl
 ·obtain ⟨j,τ,p,PL,rs,rws,m,v,ns,rfl,g,rl,ml,⟨good,hv⟩,un,k⟩:=h
  refine ⟨_,(aB (bL (aQ o_ (pv 1) eF (aR _)) (aG (aV (bF A_ (hr.mono (by decide)) (by rfl) (aj (pv 0) (aj (bQ BW (cC (aj aA aq)) (aJ (aU (K:=K) rfl) (pv 0) aA (fun _ _=>rfl))) aq))))) bw)
   (aG (aV (bF A_ (hr.mono (by decide)) (by rfl) (aj (pv 0) (aj (pv 1) aq)))))), ?_⟩
  refine ⟨_,rfl,rfl,_,rfl, ?_⟩;rcases hv with ⟨rfl,rfl⟩|⟨l,rfl,tl,hl⟩
  ·refine dM ?_
   refine ⟨_,rfl,(by show 1<=sizeLine;decide),fun z hz=> ?_⟩;have sz:=aF (o:=HO.lst [V.int 0]) hz;refine ⟨_,rfl,_,_,_,_,rfl,rfl,cu.of (sz _ _ g.ep),rfl,z,_,_,rfl,rfl,ao,by omega,by omega,by rw [Int.toNat_natCast,sizeLine_eq];simp only [List.length_singleton];omega,fun b hb=> ?_⟩;have sb:=aF (o:=HO.lst (List.replicate ((m:Nat):Int).toNat [V.int 0]).flatten) hb;have eb:(upd (upd H z (.lst [V.int 0])) b (.lst (List.replicate ((m:Nat):Int).toNat [V.int 0]).flatten)) b=some (.lst ((List.replicate m (0:Int)).map V.int)):=by rw [ao,Int.toNat_natCast,rep0]
   have s2:=sz.trans sb;exact ⟨j,τ,p,PL,b,rs,rws,m,_,rfl,g.same s2,rl,eb,un.same s2,fun L τ' H' w u' tg s'=>k L τ' H' w u' (fun x u e=>tg x u (s2 _ _ e)) (s2.trans s')⟩
  ·refine cD ?_
   exact ⟨_,rfl,_,rfl,j,τ,p,PL,l,rs,rws,m,ns,rfl,g,rl,hl,un,k⟩
structure Cn (ts:List Int) (n:Nat) (cs:List Nat):Prop where
 lc:cs.length=n
 ct:∀k<n,ts.count (k:Int)=(cs[k]?).getD 0
 tl:ts.length=cs.sum
theorem QL:∀gs:List Nat,(gs.map fun g:Nat=>(g:Int)).sum=((gs.sum:Nat):Int)
 | []=>rfl
 | a::l=>by simp only [List.map_cons,List.sum_cons,QL l];omega
theorem sum_set:∀(gs:List Nat) (k g:Nat),gs[k]? = some g->(gs.set k (g+1)).sum=gs.sum+1
 | [],k,g,h=>by simp at h
 | a::l,0,g,h=>by simp at h;subst h;simp;omega
 | a::l,k+1,g,h=>by
   have:=sum_set l k g (by simpa using h);simp only [List.set_cons_succ,List.sum_cons,this];omega
theorem Cn.turned {ts:List Int} {n k c:Nat} {cs:List Nat} (C:Cn ts n cs) (e:cs[k]? = some c):Cn (ts++[(k:Int)]) n (cs.set k (c+1)):=by
 have kl:=(List.getElem?_eq_some_iff.mp e).1;refine ⟨by simp [C.lc],fun j hj=> ?_,by rw [List.length_append,sum_set cs k c e,C.tl];rfl⟩;rw [List.count_append,C.ct j hj,List.getElem?_set]
 by_cases z:k=j
 ·subst z
  rw [if_pos rfl,if_pos kl,e];simp
 ·rw [if_neg z,List.count_singleton]
  have:¬(k:Int)=(j:Int):=by omega
  simp [this]
theorem Cn.cnt {S:ji} {cs:List Nat} (C:Cn S.ts S.hs.length cs):Al S=cs.map fun g:Nat=>(g:Int):=by
 unfold Al;apply List.ext_getElem?;intro k;rw [List.getElem?_map,List.getElem?_map]
 by_cases kl:k<S.hs.length
 ·have e:cs[k]? = some (cs[k]'(by rw [C.lc];exact kl)):=List.getElem?_eq_getElem _
  rw [List.getElem?_range kl,e];simp only [Option.map_some];rw [C.ct k kl,e];rfl
 ·rw [List.getElem?_eq_none_iff.mpr (by simp;omega),List.getElem?_eq_none_iff.mpr (by rw [C.lc];omega)]
  rfl
section
variable {j:Nat} {τ:Tg} {H:Hp} {L:vG} {ns:List Int} {hs:List aO} {cs:List Nat}
theorem rR.cnt (w:rR j τ H L ns hs cs):∀(i:Nat) (v:V),(L.hd.map fun a=>V.ref a.h)[i]? = some v -> ∃(A:vf) (s:aO) (c:Nat),v = .ref A.h/\cs[i]? = some c/\oG H A s c:=fun i v e=>by
 rw [List.getElem?_map] at e;cases q:L.hd[i]? with
 | none=>rw [q] at e;cases e
 | some A=>
   rw [q] at e;cases e;have il:i<hs.length:=by rw [←w.len];exact (List.getElem?_eq_some_iff.mp q).1
   obtain ⟨A',c,eA,ec,a⟩:=w.hand (k:=i) (s:=hs[i]) (by simp [il]);rw [q] at eA;cases eA;exact ⟨A,_,c,rfl,ec,a.q⟩
end
def zF (CW CH:Addr) (K:PySem.W.Frag):Sp:=fun vs H Q _=>∃(i j:Nat) (τ:Tg) (W:oE) (S:ji) (L:vG) (cs:List Nat),vs=[.ref W.o,.ref L.st]/\jD CW CH i τ H W S/\rR j τ H L S.ns S.hs cs/\Cn S.ts S.hs.length cs/\S.ts.length<=400/\S.m<=100/\(∀s∈S.hs,s.sy.length<=20000) /\ ∀H',Same H H'->Q (.bl true) H'
theorem Ru {ak au aX:Addr} {f:Addr} {fd:FuncData} (F:fj K "_law_all" "_law_all" BL f fd) (d_:FnAt P w K mg base 5 "_law_alike" ["found","due"] (kj 4 K)) (gj:MethAt P w K mg base 1 ak "cells" ["self"] (pP ak au K)) (gn:MethAt P w K mg base 4 ak "boxes" ["self","hand"] (fun vs H Q _=>jG aO.bs ak au aX K vs H Q fun _ _ _=>False)) (gM:MethAt P w K mg base 4 ak "said" ["self","hand"] (fun vs H Q _=>jG aO.sy ak au aX K vs H Q fun _ _ _=>False)) (iD:MethAt P w K mg base 4 ak "how" ["self","hand"] (fun vs H Q _=>zB ak au aX K vs H Q fun _ _ _=>False)) (fH:MethAt P w K mg base 1 ak "counts" ["self"] (mK ak au K)) (iW:MethAt P w K mg base 1 ak "__len__" ["self"] (wO ak au K)) (aK:cM K ak) (Bt:mC mg):bU P w K mg base gF 6 f fd ["works","state"] (zF ak au K):=by
 refine F.ok sE (fun vs H Q E h=> ?_) (fun cdv A outer s H vs Q E hr h=> ?_)
 ·obtain ⟨i,j,τ,W,S,L,cs,rfl,_⟩:=h
  rfl
 ·obtain ⟨i,j,τ,W,S,L,cs,rfl,w,l,C,tl,ml,yl,k⟩:=h
  refine ⟨_,(aB (fQ (pv 1) (Iv (K:=K) rfl rfl (iy (bI (i:=2) sE.nd rfl (Or.inl rfl)) (iy (bI (i:=3) sE.nd rfl (Or.inl rfl)) sG))))
   (aB (bL (PW.pt (lN (fD (dR (bF d_ (hr.mono (by decide)) (by rfl) (aj (cY gj aK.cls (hr.mono (by decide)) (pv 0)) (aj (pv 2) aq))))) (iM (fD (dR (bF d_ (hr.mono (by decide)) (by rfl) (aj (cY fH aK.cls (hr.mono (by decide)) (pv 0)) (aj (cI rfl (N:=["hand"]) (own:=["hand"]) (caps:=[]) (bh.of (by kernel_rfl)) (cj (K:=K) rfl (pv 3)) (fun _ _ _ _=>(bI (i:=0) (show List.Nodup (["hand"]:List Str) by decide +kernel) rfl (Or.inl rfl))) (fun _ _ _ _=>cB) (fun _ _ _ _=>(aJ (aH (K:=K) rfl) (pv 0) aA (fun _ _=>rfl)))) aq)))))))) (aG (aV gH)) bw)
   (aB (jO PassesOwn.never rfl (dj (by rfl) Bt.fL (aj (bf (bC (K:=K) rfl) (by rfl) Bt.dU cU (aj (pv 3) aq)) aq)) (bI (i:=4) sE.nd rfl (Or.inl rfl))
   (aB (bL (PW.pt (lN (fD (dR (bF d_ (hr.mono (by decide)) (by rfl) (aj (cO gn aK.cls (hr.mono (by decide)) (pv 0) (aj (pv 4) aq)) (aj (aJ (aH (K:=K) rfl) (aJ (aH (K:=K) rfl) (pv 3) (pv 4) (fun _ _=>rfl)) aA (fun _ _=>rfl)) aq))))) (iM (fD (dR (bF d_ (hr.mono (by decide)) (by rfl) (aj (cO gM aK.cls (hr.mono (by decide)) (pv 0) (aj (pv 4) aq)) (aj (aJ (aH (K:=K) rfl) (aJ (aH (K:=K) rfl) (pv 3) (pv 4) (fun _ _=>rfl)) aA (fun _ _=>rfl)) aq)))))))) (aG (aV gH)) bw)
   (aG (bL (fD (dR (bF d_ (hr.mono (by decide)) (by rfl) (aj (cO iD aK.cls (hr.mono (by decide)) (pv 0) (aj (pv 4) aq)) (aj (aJ (aH (K:=K) rfl) (aJ (aH (K:=K) rfl) (pv 3) (pv 4) (fun _ _=>rfl)) aA (fun _ _=>rfl)) aq))))) (aG (aV gH)) bw))))
   (aG (aV (cT cA (bf (wB iW (hr.mono (by decide))) (by rfl) Bt.dU cU (aj (pv 0) aq)) (bf (wu (K:=K) rfl rfl) (by rfl) Bt.Qo Ko (aj (cI rfl (N:=["hand"]) (own:=["hand"]) (caps:=[]) (bh.of (by kernel_rfl)) (cj (K:=K) rfl (pv 3)) (fun _ _ _ _=>(bI (i:=0) (show List.Nodup (["hand"]:List Str) by decide +kernel) rfl (Or.inl rfl))) (fun _ _ _ _=>cB) (fun _ _ _ _=>(aJ (aH (K:=K) rfl) (pv 0) aA (fun _ _=>rfl)))) aq)) (aR _))))))), ?_⟩
  have nl:=w.nl;have hn:=w.hn;have lcs:cs.length<=100:=by rw [C.lc];exact hn
  have llen:(L.hd.map fun a=>V.ref a.h).length=S.hs.length:=by rw [List.length_map,l.len]
  refine ⟨_,rfl,L.st,_,_,rfl,aY.of l.st,_,_,rfl,_,_,rfl,rfl, ?_⟩;refine ⟨_,rfl,W.o,W.dx,_,rfl,w.o,rfl,i,τ,W,S,rfl,w,fun l1 H1 f1 e1 s1=> ?_⟩;refine ⟨_,rfl,_,_,_,rfl,cL e1,cL (s1 _ _ l.nb),G3.ints (by omega),fun H2 s2=> ?_⟩;refine ⟨_,rfl,cD ?_⟩;have Bd:=s1.trans s2;have w2:=w.same Bd;refine ⟨_,rfl,W.o,W.dx,_,rfl,w2.o,rfl,i,τ,W,S,rfl,w2,fun l3 H3 f3 e3 s3=> ?_⟩;rw [C.cnt] at e3;have l3':=l.same (Bd.trans s3);refine ⟨_,rfl,L.hl,rfl,⟨_,aY.of l3'.hl⟩,fun D hD=> ?_⟩;refine fX (K:=K) (fun i=>(cs[i]?).map fun c:Nat=>V.int c) hD (aY.of l3'.hl) (by rw [llen];omega) (fun i' v H4 G F hi s4 kG kF=> ?_) (fun H4 s4 e4=> ?_)
  ·obtain ⟨A',s',c',rfl,Oc,q'⟩:=l3'.cnt i' v hi
   exact ⟨_,rfl,_,_,_,_,rfl,rfl,aY.of (s4 _ _ q'.h),rfl,kF _ H4 (Same.refl _) (by rw [Oc];rfl)⟩
  rw [llen,←C.lc,jd] at e4;have e4':H4 D=some (.lst ((cs.map fun g:Nat=>(g:Int)).map V.int)):=by rw [e4,List.map_map];rfl
  refine ⟨_,_,_,rfl,cL (s4 _ _ e3),cL e4',G3.ints (by rw [List.length_map];omega),fun H5 s5=> ?_⟩;refine ⟨_,rfl,cD ?_⟩;have KQ:=((Bd.trans s3).trans s4).trans s5;refine ⟨_,rfl,L.hl,_,rfl,.inl (aY.of (KQ _ _ l.hl)),_,rfl,by rw [llen];omega,by rw [llen];omega, ?_⟩;rw [llen,Int.toNat_natCast];refine nQ (lo:=0) (n:=S.hs.length) (fun _ σ Hc=>(∃x1:Option V,σ=[some (.ref W.o),some (.ref L.st),some (.ref L.nb),some (.ref L.hl),x1])/\Same H Hc) ⟨⟨_,rfl⟩,KQ⟩ ?_ ?_
  ·rintro n σ Hc hn' ⟨⟨x1,rfl⟩,sc⟩
   have ez:(0:Int)+(n:Int)=(n:Int):=by omega
   have es:S.hs[n]? = some S.hs[n]:=by simp [hn']
   have YW:=yl _ (List.getElem_mem hn');obtain ⟨A',c',eA,Oc,a'⟩:=(l.same sc).hand es;generalize S.hs[n]=s' at es YW a';have inn:vh ((0:Int)+(n:Int)) S.hs.length:=⟨by omega,by omega⟩
   have one:∀(k':Nat) (t:aO),(0:Int)+(n:Int)=k'->S.hs[k']? = some t->t=s':=fun k' t e1 e2=>by
    have:k'=n:=by omega
    subst this;rw [es] at e2;exact (Option.some.inj e2).symm
   have wc:=w.same sc;have atH:∀H6,Same Hc H6 -> ∃xs,aY K H6 L.hl xs/\qm xs ((0:Int)+(n:Int))=some (.ref A'.h):=fun H6 s6=>⟨_,aY.of (s6 _ _ (sc _ _ l.hl)),by rw [ez];exact bW (by rw [List.getElem?_map,eA];rfl)⟩;have Tw:qm (L.hd.map fun a=>V.ref a.h) ((0:Int)+(n:Int))=some (.ref A'.h):=by rw [ez];exact bW (by rw [List.getElem?_map,eA];rfl)
   refine ⟨_,rfl,W.o,W.dx,_,rfl,wc.o,rfl,_,rfl,i,τ,W,S,_,rfl,wc,fun k' t l6 H6 e1 e2 f6 e6 s6=> ?_,fun z=>absurd inn z⟩;obtain rfl:=one k' t e1 e2;have q6:=a'.q.same s6;refine ⟨_,rfl,_,rfl,_,_,_,_,rfl,rfl,aY.of (s6 _ _ (sc _ _ l.hl)),Tw,_,_,_,_,rfl,rfl,aY.of q6.h,rfl,_,_,_,rfl,cL e6,cL q6.b,G3.ints (by rw [q6.bl];decide),fun H7 s7=> ?_⟩;refine ⟨_,rfl,cD ?_⟩;have s67:=s6.trans s7;have w7:=wc.same s67;refine ⟨_,rfl,W.o,W.dx,_,rfl,w7.o,rfl,_,rfl,i,τ,W,S,_,rfl,w7,fun k2 t2 l8 H8 e1 e2 f8 e8 s8=> ?_,fun z=>absurd inn z⟩;obtain rfl:=one k2 t2 e1 e2;have Zq:=s67.trans s8;have q8:=a'.q.same Zq;refine ⟨_,rfl,_,rfl,_,_,_,_,rfl,rfl,aY.of (Zq _ _ (sc _ _ l.hl)),Tw,_,_,_,_,rfl,rfl,aY.of q8.h,rfl,_,_,_,rfl,cL e8,cL q8.y,G3.ints YW,fun H9 s9=> ?_⟩;refine ⟨_,rfl,cD ?_⟩;have Yd:=Zq.trans s9;have w9:=wc.same Yd;refine ⟨_,rfl,W.o,W.dx,_,rfl,w9.o,rfl,_,rfl,i,τ,W,S,_,rfl,w9,fun k3 t3 e1 e2=> ?_,fun z=>absurd inn z⟩;obtain rfl:=one k3 t3 e1 e2;have q9:=a'.q.same Yd;refine ⟨_,rfl,_,rfl,_,_,_,_,rfl,rfl,aY.of (Yd _ _ (sc _ _ l.hl)),Tw,_,_,_,_,rfl,rfl,aY.of q9.h,rfl,_,_,.str t3.st,rfl,(by simp only [Dat]),(by simp only [Dat]),trivial,fun Ha sa=> ?_⟩;refine ⟨_,rfl,cD ?_⟩;exact ⟨⟨_,rfl⟩,sc.trans (Yd.trans sa)⟩
  ·rintro σ Hc ⟨⟨x1,rfl⟩,sc⟩
   have wc:=w.same sc;have lc:=l.same sc;refine ⟨_,rfl,W.o,W.dx,_,rfl,wc.o,i,τ,W,S,rfl,wc,_,rfl,by omega,by omega, ?_⟩;refine ⟨_,rfl,L.hl,rfl,⟨_,aY.of lc.hl⟩,fun D' hD'=> ?_⟩;refine fX (K:=K) (fun i=>(cs[i]?).map fun c:Nat=>V.int c) hD' (aY.of lc.hl) (by rw [llen];omega) (fun i' v H4 G F hi s4 kG kF=> ?_) (fun H6 s6 e6=> ?_)
   ·obtain ⟨A',s',c',rfl,Oc,q'⟩:=lc.cnt i' v hi
    exact ⟨_,rfl,_,_,_,_,rfl,rfl,aY.of (s4 _ _ q'.h),rfl,kF _ H4 (Same.refl _) (by rw [Oc];rfl)⟩
   rw [llen,←C.lc,jd] at e6;have e6':H6 D'=some (.lst ((cs.map fun g:Nat=>(g:Int)).map V.int)):=by rw [e6,List.map_map];rfl
   refine ⟨D',_,rfl,aY.of e6',rfl, ?_⟩;rw [QL,←C.tl,decide_eq_true rfl];exact k _ (sc.trans s6)
theorem NP {l1 l2:Addr} {xs ys:List V} {n:Nat} {g:TG} {tb:TS} {D:Ends} {σ:St} {H:Hp} (hn:n=min xs.length ys.length) (Pv:Nat->St->Hp->Prop) (h0:Pv 0 σ H) (hl:∀i σ H,i<=n->Pv i σ H->aY K H l1 xs/\aY K H l2 ys)
 (hs:∀i x y σ H p,xs[i]? = some x->ys[i]? = some y->Pv i σ H->H p=none->g (.ref p) σ (upd H p (.tup [x,y])) fun σ2 H2=>tb {D with nx:=Pv (i+1),ct:=Pv (i+1),bk:=D.nx} σ2 H2) (hd:∀σ H,Pv n σ H->D.nx σ H):
 ∃W:Nat->Nat->St->Hp->Prop,(∃m,W 0 m σ H) /\ ∀i m σ H,W i m σ H ->
  ((Qs K l1 l2).stop i H/\D.nx σ H)\/((Qs K l1 l2).go i H /\ ∃N:St->Hp->Prop,(∀σ' H',N σ' H' -> ∃m',m'<m/\W (i+1) m' σ' H') /\ ∀x H',(Qs K l1 l2).Ui i H x H'->g x σ H' fun σ2 H2=>tb {D with nx:=N,ct:=N,bk:=D.nx} σ2 H2):=by
 refine ⟨fun i m σ H=>m=n - i/\i<=n/\Pv i σ H,⟨n,by simp,Nat.zero_le _,h0⟩, ?_⟩;rintro i m σ H ⟨rfl,hi,p⟩;obtain ⟨q1,q2⟩:=hl i σ H hi p
 by_cases hlt:i<n
 ·refine .inr ⟨⟨xs,ys,xs[i]'(by omega),ys[i]'(by omega),q1,q2,by simp [show i<xs.length by omega],by simp [show i<ys.length by omega]⟩,Pv (i+1),fun σ' H' p'=>⟨n - (i+1),by omega,rfl,hlt,p'⟩,fun x H' y=> ?_⟩
  obtain ⟨t,z,u,rfl,ht,hz,hu,rfl⟩:=y;exact hs i z u σ _ t (hz xs q1) (hu ys q2) p ht
 ·have e:i=n:=by omega
  subst e;exact .inl ⟨⟨xs,ys,q1,q2,by omega⟩,hd σ H p⟩
def yD (s:aO) (c:Nat):PyData:= .list [.list (s.bs.map PyData.int),.list (s.sy.map PyData.int),.str s.st,.int c]
theorem tU (s:aO) (c:Nat) (so:PyData.strOk s.st=true):SeqAt.shaped (yD s c)=true:=by
 have e1:=shaped_ints s.bs;have e2:=shaped_ints s.sy;have d1:PyData.depthAll (s.bs.map PyData.int)<=0:=cV _ 0 s.bs (fun _ _=>by show 0<=0;decide);have d2:PyData.depthAll (s.sy.map PyData.int)<=0:=cV _ 0 s.sy (fun _ _=>by show 0<=0;decide);simp only [SeqAt.shaped,PyData.depth,PyData.depthAll,PyData.canLay0,PyData.canLayAll0,yD,Bool.and_eq_true,decide_eq_true_eq,Bool.and_true,and_true] at e1 e2 ⊢;refine ⟨?_, ?_⟩<;>first |(clear e2 e1;omega)|exact ⟨e1.1,e2.1,so⟩|skip
def hE (s s':aO) (c c':Nat):Prop:=(s.bs=s'.bs/\s.sy=s'.sy/\s.st=s'.st/\c=c')/\(s.st = "waits" -> s.pos=s'.pos)
theorem Em (s s':aO) (c c':Nat):PyData.eqv (yD s c) (yD s' c')=true↔s.bs=s'.bs/\s.sy=s'.sy/\s.st=s'.st/\c=c':=by
 have e1:=m8 PyData.int lC s.bs s'.bs;have e2:=m8 PyData.int lC s.sy s'.sy;simp only [PyData.eqv] at e1 e2;simp only [yD,PyData.eqv,PyData.eqvAll,Bool.and_true,e1,e2,Bool.and_eq_true,decide_eq_true_eq,beq_iff_eq];constructor
 ·rintro ⟨a,b,c,d⟩
  exact ⟨a,b,c,by omega⟩
 ·rintro ⟨a,b,c,d⟩
  exact ⟨a,b,c,by omega⟩
def E_ (ns ns':List Int) (hs hs':List aO) (cs cs':List Nat):Prop:=ns=ns' /\ ∀(i:Nat) s s' c c',hs[i]? = some s->hs'[i]? = some s'->cs[i]? = some c->cs'[i]? = some c'->hE s s' c c'
def Ia (K:PySem.W.Frag):Sp:=fun vs H Q _=>∃(j j':Nat) (τ τ':Tg) (L L':vG) (ns ns':List Int) (hs hs':List aO) (cs cs':List Nat),vs=[.ref L.st,.ref L'.st]/\rR j τ H L ns hs cs/\rR j' τ' H L' ns' hs' cs'/\(∀s∈hs,PyData.strOk s.st=true)/\(∀s∈hs',PyData.strOk s.st=true) /\ ∀(b:Bool) H',(b=true↔E_ ns ns' hs hs' cs cs')->Same H H'->Q (.bl b) H'
theorem Gd {f:Addr} {fd:FuncData} (F:fj K "_law_same" "_law_same" xG f fd) (Bt:mC mg):bU P w K mg base gF 1 f fd ["one","other"] (Ia K):=by
 refine F.ok tZ (fun vs H Q E h=> ?_) (fun cdv A outer s H vs Q E hr h=> ?_)
 ·obtain ⟨j,j',τ,τ',L,L',ns,ns',hs,hs',cs,cs',rfl,_⟩:=h
  rfl
 ·obtain ⟨j,j',τ,τ',L,L',ns,ns',hs,hs',cs,cs',rfl,l,l',so,so',k⟩:=h
  have qb:=hr.units
  refine ⟨_,(aB (bL (aQ (xZ (K:=K) rfl qb) (aJ (aH (K:=K) rfl) (pv 0) aA (fun _ _=>rfl)) (aJ (aH (K:=K) rfl) (pv 1) aA (fun _ _=>rfl)) (aR _)) (aG (aV gH)) bw)
   (aB (jO PassesOwn.never rfl (LR (K:=K) rfl (by rfl) Bt.Qn (aj (aJ (aH (K:=K) rfl) (pv 0) aA (fun _ _=>rfl)) (aj (aJ (aH (K:=K) rfl) (pv 1) aA (fun _ _=>rfl)) aq))) (xV (K:=K) (n:=2) rfl rfl (iy (bI (i:=2) tZ.nd rfl (Or.inl rfl)) (iy (bI (i:=3) tZ.nd rfl (Or.inl rfl)) sG)))
   (aG (bL (PW.pt (lN (aQ (xZ (K:=K) rfl qb) (jX (jT (K:=K) rfl) (pv 2) (nG aA) nH) (jX (jT (K:=K) rfl) (pv 3) (nG aA) nH) (aR _)) (iM (PW.pt (jN (aQ cA (aJ (aH (K:=K) rfl) (pv 2) aA (fun _ _=>rfl)) bD (aR _)) (i_ (aQ lQ (aJ (aH (K:=K) rfl) (pv 2) aA (fun _ _=>rfl)) (aJ (aH (K:=K) rfl) (pv 3) aA (fun _ _=>rfl)) (aR _)))))))) (aG (aV gH)) bw)))
   (aG (aV gH)))), ?_⟩
  refine ⟨_,rfl,_,_,_,_,rfl,rfl,aY.of l.st,rfl,_,rfl,_,_,_,_,rfl,rfl,aY.of l'.st,rfl,_,_,cL l.nb,cL l'.nb,shaped_ints _,shaped_ints _,_,rfl, ?_⟩;rw [if_pos rfl,m8 PyData.int lC]
  by_cases en:ns=ns'
  rotate_left
  ·rw [decide_eq_false en]
   refine dM ?_;exact k false H ⟨fun z=>(by cases z),fun z=>absurd z.1 en⟩ (Same.refl _)
  rw [decide_eq_true en];refine cD ?_;have al:(L.hd.map fun a=>V.ref a.h).length=L.hd.length:=List.length_map _;have bl:(L'.hd.map fun a=>V.ref a.h).length=L'.hd.length:=List.length_map _;refine ⟨_,rfl,_,_,_,_,rfl,rfl,aY.of l.st,rfl,_,rfl,_,_,_,_,rfl,rfl,aY.of l'.st,rfl,L.hl,L'.hl,_,_,rfl,aY.of l.hl,aY.of l'.hl, ?_⟩;refine NP (K:=K) (l1:=L.hl) (l2:=L'.hl) rfl (fun i σ Hc=>∃(x2 x3:Option V),σ=[some (.ref L.st),some (.ref L'.st),x2,x3]/\Same H Hc /\ ∀(i':Nat) s s' c c',i'<i->hs[i']? = some s->hs'[i']? = some s'->cs[i']? = some c->cs'[i']? = some c'->hE s s' c c') ⟨none,none,rfl,Same.refl _,fun i' s s' c c' z=>absurd z (Nat.not_lt_zero _)⟩ (fun i σ Hc _ ⟨_,_,_,sm,_⟩=>⟨aY.of (sm _ _ l.hl),aY.of (sm _ _ l'.hl)⟩) ?_ ?_
  ·rintro i v1 v2 σ Hc pq h1 h2 ⟨x2,x3,rfl,sm,inv⟩ hpq
   have sq:=aF (o:=HO.tup [v1,v2]) hpq;have Sq:=sm.trans sq;rw [List.getElem?_map] at h1 h2
   obtain ⟨A,eA,rfl⟩:∃A,L.hd[i]? = some A/\V.ref A.h=v1:=by
    cases e:L.hd[i]? with
    | none=>rw [e] at h1;cases h1
    | some A=>rw [e] at h1;exact ⟨A,rfl,Option.some.inj h1⟩
   obtain ⟨B,eB,rfl⟩:∃B,L'.hd[i]? = some B/\V.ref B.h=v2:=by
    cases e:L'.hd[i]? with
    | none=>rw [e] at h2;cases h2
    | some A=>rw [e] at h2;exact ⟨A,rfl,Option.some.inj h2⟩
   have i1:=(List.getElem?_eq_some_iff.mp eA).1;have i2:=(List.getElem?_eq_some_iff.mp eB).1;have l1:=l.len;have l2:=l.lc;have l3:=l'.len;have l4:=l'.lc;obtain ⟨s1,e1⟩:∃s1,hs[i]? = some s1:=⟨_,List.getElem?_eq_getElem (by omega)⟩;obtain ⟨s2,e2⟩:∃s2,hs'[i]? = some s2:=⟨_,List.getElem?_eq_getElem (by omega)⟩;obtain ⟨c1,f1⟩:∃c1,cs[i]? = some c1:=⟨_,List.getElem?_eq_getElem (by omega)⟩;obtain ⟨c2,f2⟩:∃c2,cs'[i]? = some c2:=⟨_,List.getElem?_eq_getElem (by omega)⟩;have q1:=(l.hd i A s1 c1 eA e1 f1).q.same Sq;have q2:=(l'.hd i B s2 c2 eB e2 f2).q.same Sq
   have here:∀b:Bool,(¬hE s1 s2 c1 c2)->(b=true↔E_ ns ns' hs hs' cs cs')->b=false:=fun b nh hb=>by
    cases b with
    | false=>rfl
    | true=>exact absurd ((hb.mp rfl).2 i s1 s2 c1 c2 e1 e2 f1 f2) nh
   have no:∀H',Same H H' -> ¬hE s1 s2 c1 c2->Q (.bl false) H':=fun H' s' nh=>k false H' ⟨fun z=>(by cases z),fun z=>absurd (z.2 i s1 s2 c1 c2 e1 e2 f1 f2) nh⟩ s'
   have yes:∀(H':Hp),Same H H'->hE s1 s2 c1 c2 -> ∀(i':Nat) s s' c c',i'<i+1->hs[i']? = some s->hs'[i']? = some s'->cs[i']? = some c->cs'[i']? = some c'->hE s s' c c':=fun H' _ hh i' s s' c c' li a1 a2 a3 a4=>by
    by_cases q:i'=i
    ·subst q
     rw [e1] at a1;rw [e2] at a2;rw [f1] at a3;rw [f2] at a4;cases a1;cases a2;cases a3;cases a4;exact hh
    ·exact inv i' s s' c c' (by omega) a1 a2 a3 a4
   clear here;refine ⟨pq,_,rfl,cu.of ao,rfl,_,_,rfl,_,_,rfl,rfl, ?_⟩;generalize (upd Hc pq (HO.tup [V.ref A.h,V.ref B.h]))=Hq at sq Sq q1 q2 ⊢;refine ⟨_,rfl,_,rfl,A.h,_,rfl,aY.of q1.h,fun p1 hp1=> ?_⟩;rw [show uP [V.int s1.pos,V.ref A.b,V.ref A.sy,V.str s1.st,V.int c1] (some (1:Int)) none=[V.ref A.b,V.ref A.sy,V.str s1.st,V.int c1] from uO _ 1];have u1:=aF (o:=HO.lst [V.ref A.b,V.ref A.sy,V.str s1.st,V.int c1]) hp1;refine ⟨_,rfl,_,rfl,B.h,_,rfl,aY.of (u1 _ _ q2.h),fun p2 hp2=> ?_⟩;rw [show uP [V.int s2.pos,V.ref B.b,V.ref B.sy,V.str s2.st,V.int c2] (some (1:Int)) none=[V.ref B.b,V.ref B.sy,V.str s2.st,V.int c2] from uO _ 1];have u2:=aF (o:=HO.lst [V.ref B.b,V.ref B.sy,V.str s2.st,V.int c2]) hp2;have r1:=q1.same (u1.trans u2);have r2:=q2.same (u1.trans u2)
   have d1:Dat (upd (upd Hq p1 (.lst [V.ref A.b,V.ref A.sy,V.str s1.st,V.int c1])) p2 (.lst [V.ref B.b,V.ref B.sy,V.str s2.st,V.int c2])) (.ref p1) (yD s1 c1):=by
    refine jy (u2 _ _ ao) ?_;simp only [bH,Dat,and_true,true_and];exact ⟨cL r1.b,cL r1.y⟩
   have d2:Dat (upd (upd Hq p1 (.lst [V.ref A.b,V.ref A.sy,V.str s1.st,V.int c1])) p2 (.lst [V.ref B.b,V.ref B.sy,V.str s2.st,V.int c2])) (.ref p2) (yD s2 c2):=by
    refine jy ao ?_;simp only [bH,Dat,and_true,true_and];exact ⟨cL r2.b,cL r2.y⟩
   have S2:=Sq.trans (u1.trans u2);generalize (upd (upd Hq p1 (.lst [V.ref A.b,V.ref A.sy,V.str s1.st,V.int c1])) p2 (.lst [V.ref B.b,V.ref B.sy,V.str s2.st,V.int c2]))=H2 at d1 d2 S2 r1 r2 ⊢;refine ⟨_,_,d1,d2,tU _ _ (so s1 (List.mem_of_getElem? e1)),tU _ _ (so' s2 (List.mem_of_getElem? e2)),_,rfl, ?_⟩;rw [if_pos rfl]
   by_cases eq:PyData.eqv (yD s1 c1) (yD s2 c2)=true
   rotate_left
   ·rw [Bool.not_eq_true] at eq
    rw [eq];refine dM ?_;exact no H2 S2 (fun z=>by rw [(Em s1 s2 c1 c2).mpr z.1] at eq;cases eq)
   rw [eq];refine cD ?_;have eh:=(Em s1 s2 c1 c2).mp eq;refine ⟨_,rfl,_,_,_,_,rfl,rfl,aY.of r1.h,rfl,rfl,_,rfl, ?_⟩
   by_cases ew:s1.st = "waits"
   rotate_left
   ·refine bK (fun z=>absurd (V.str.inj (of_decide_eq_true z)) ew) (fun _=> ?_)
    refine cD ?_;exact ⟨_,_,rfl,S2,yes H2 S2 ⟨eh,fun z=>absurd z ew⟩⟩
   refine bK (fun _=> ?_) (fun z=>absurd (decide_eq_true (by rw [ew])) z);refine ⟨_,rfl,_,_,_,_,rfl,rfl,aY.of r1.h,rfl,_,rfl,_,_,_,_,rfl,rfl,aY.of r2.h,rfl,rfl,_,rfl, ?_⟩
   by_cases ep:s1.pos=s2.pos
   ·rw [ep,show (!decide (V.int (s2.pos:Int)=V.int (s2.pos:Int)))=false by simp]
    refine cD ?_;exact ⟨_,_,rfl,S2,yes H2 S2 ⟨eh,fun _=>ep⟩⟩
   ·refine bK (fun _=> ?_) (fun z=>absurd (by simp;omega) z)
    exact no H2 S2 (fun z=>ep (z.2 ew))
  ·rintro σ Hc ⟨x2,x3,rfl,sm,inv⟩
   refine k true Hc ⟨fun _=>⟨en,fun i s s' c c' h1 h2 h3 h4=>inv i s s' c c' ?_ h1 h2 h3 h4⟩,fun _=>rfl⟩ sm;have a1:=(List.getElem?_eq_some_iff.mp h1).1;have a2:=(List.getElem?_eq_some_iff.mp h2).1;rw [al,bl,l.len,l'.len];omega
def tQ (CW CH:Addr) (K:PySem.W.Frag):Sp:=fun vs H Q _=>∃(i:Nat) (τ:Tg) (t D:Addr) (qs:List Addr) (rws:List (List Rw)) (m:Nat) (v:V) (ns:List Int),vs=[.ref t,v]/\H t=some (.tup [.int m,.ref D])/\H D=some (.lst (qs.map V.ref))/\qs.length=rws.length/\(∀(kk:Nat) (q:Addr) (x:List Rw),qs[kk]? = some q->rws[kk]? = some x->cW H q m x)/\rws.length<=100/\m<=100/\NumV τ H v ns m/\j8 τ H/\i≠0 /\
 ∀(W:oE) (τ':Tg) (H':Hp),jD CW CH i τ' H' W (lE m ns rws)->(∀x u,H x=some u->τ' x=τ x)->Same H H'->Q (.ref W.o) H'
theorem Ge {ak au bN:Addr} {f:Addr} {fd:FuncData} (F:fj K "_law_handed" "_law_handed" qK f fd) (yW:lF P w K mg base 7 ak "Works" ["self","program","cells"] [] (fun vs H Q _=>gG ak au bN K vs H Q fun _ _ _=>False)) (u9:lF P w K mg base 7 ak "Works" ["self","program","cells"] [.non] (fun vs H Q _=>gG ak au bN K vs H Q fun _ _ _=>False)) (Bt:mC mg):bU P w K mg base gF 9 f fd ["program","numbers"] (tQ ak au K):=by
 refine F.ok oN (fun vs H Q E h=> ?_) (fun cdv A outer s H vs Q E hr h=> ?_)
 ·obtain ⟨i,τ,t,D,qs,rws,m,v,ns,rfl,_⟩:=h
  rfl
 ·obtain ⟨i,τ,t,D,qs,rws,m,v,ns,rfl,ht,hD,lq,hq,rl,ml,⟨good,hv⟩,un,i0,k⟩:=h
  refine ⟨_,(aB (bL (aQ o_ (pv 1) eF (aR _)) (aG (aV (jY u9 (hr.mono (by decide)) (by rfl) (aj (pv 0) aq)))) bw)
   (aB (aW (i:=2) oN.nd rfl (Or.inl rfl) (bT (bG (K:=K) rfl) (by rfl) Bt.dg cN (aj (pv 1) aq)))
   (aB (aW (i:=3) oN.nd rfl (Or.inl rfl) (jY yW (hr.mono (by decide)) (by rfl) (aj (pv 0) (aj (pv 2) aq))))
   (aB (cH (xW (K:=K) rfl PySem.F.plainAttrs_list PySem.F.slot_list_clear PySem.F.type_list_clear uE (pv 2)))
   (aG (aV (pv 3))))))), ?_⟩
  have nl:ns.length=m:=by have:=good.1;omega
  have mk:∀(H1:Hp) (o dx:Addr) (cv:V) (Q':Hp->Prop),Same H H1->H1 o=none->H1 dx=none->dx≠o->((cv = .non/\ns=List.replicate m 0) \/ ∃cl,cv = .ref cl/\H1 cl=some (.lst (ns.map V.int))) ->
   (∀(W:oE) (τ':Tg) (H':Hp),o=W.o->jD ak au i τ' H' W (lE m ns rws)->(∀x u,H1 x=some u->τ' x=τ x)->Same H1 H'->Q' H') ->
   gG ak au bN K [.ref o,.ref t,cv] (upd (upd H1 dx (.own o)) o (.ins ak dx [])) (fun v H'=>v = .non/\Q' H') (fun _ _ _=>False):=fun H1 o dx cv Q' s1 ho hdx ndx hcv k'=>by
   have ho':(upd H1 dx (.own o)) o=none:=by rw [aD ndx.symm];exact ho
   have sm:Same H1 (upd (upd H1 dx (.own o)) o (.ins ak dx [])):=(aF hdx).trans (aF ho');have s2:=s1.trans sm;refine ⟨i,τ,o,dx,t,D,qs,m,cv,ns,rws,rfl,ao,s2 _ _ ht,s2 _ _ hD,lq,fun kk q' x h1 h2=>(hq kk q' x h1 h2).same s2,rl,ml,un.same s2,i0,by omega, ?_,fun _ τ' W H' eo w tg kp=>⟨rfl, ?_⟩,fun bad=>absurd good bad⟩
   ·rcases hcv with h|⟨cl,e,h⟩
    ·exact .inl h
    ·exact .inr ⟨cl,e,sm _ _ h⟩
   ·exact k' W τ' H' (by rw [eo]) w (fun x u e=>tg x u (sm _ _ e) (aC e ho)) (fun x u e=>kp _ _ (sm _ _ e) (aC e ho))
  refine ⟨_,rfl,rfl,_,rfl, ?_⟩;rcases hv with ⟨rfl,rfl⟩|⟨l,rfl,tl,hl⟩
  ·refine dM ?_
   exact ⟨_,rfl,fun o dx ho hdx ndx=>mk H o dx .non _ (Same.refl _) ho hdx ndx (.inl ⟨rfl,rfl⟩) fun W τ' H' eo w tg s'=>by rw [eo];exact k W τ' H' w tg s'⟩
  ·refine cD ?_
   refine ⟨_,rfl,l,_,rfl,.inl (aY.of hl),fun cl hcl=> ?_⟩;have Ln:=aF (o:=HO.lst (ns.map V.int)) hcl;have YH:(upd H cl (.lst (ns.map V.int))) cl=some (.lst (ns.map V.int)):=ao;generalize (upd H cl (.lst (ns.map V.int)))=H1 at Ln YH ⊢;refine ⟨_,rfl,_,rfl,fun o dx ho hdx ndx=> ?_⟩;refine mk H1 o dx (.ref cl) _ Ln ho hdx ndx (.inr ⟨cl,rfl,YH⟩) fun W τ' H' eo w tg s'=> ?_;have Te:=s' _ _ YH;rw [eo];refine ⟨_,rfl,.inl ⟨rfl,_,aY.of Te⟩,cl,_,rfl,rfl,Te, ?_⟩;have tcl:τ' cl=[]:=(tg _ _ YH).trans (un _ hcl);exact ⟨_,rfl,k W τ' _ (w.kp (fun x u e n=>by rw [aD n];exact e) Te (by intro xs z;cases z) tcl ⟨_,ao⟩) (fun x u e=>tg x u (Ln _ _ e)) (fun x u e=>by rw [aD (aC e hcl)];exact s' _ _ (Ln _ _ e))⟩
def Ku (S0:ji) (od:List Nat):Prop:=∀(j k:Nat),od[j]? = some k -> ∃s,((od.take j).foldl dY S0).hs[k]? = some s/\s.st = "waits"
theorem Ku.snoc {S0:ji} {od:List Nat} {k:Nat} {s:aO} (h:Ku S0 od) (e:(od.foldl dY S0).hs[k]? = some s) (wt:s.st = "waits"):Ku S0 (od++[k]):=fun j x hx=>by
 by_cases l:j<od.length
 ·rw [List.getElem?_append_left l] at hx
  rw [List.take_append_of_le_length (by omega)];exact h j x hx
 ·have e1:j=od.length:=by
   have:=(List.getElem?_eq_some_iff.mp hx).1;simp at this;omega
  subst e1;rw [List.getElem?_append_right (Nat.le_refl _)] at hx;simp at hx;subst hx;rw [List.take_append_of_le_length (Nat.le_refl _),List.take_length];exact ⟨s,e,wt⟩
theorem JR (S:ji) (od:List Nat):(od.foldl dY S).ts.length<=S.ts.length+od.length:=by
 induction od generalizing S with
 | nil=>exact Nat.le_refl _
 | cons k od ih=>
   have h1:(dY S k).ts.length<=S.ts.length+1:=by
    unfold dY;split
    ·omega
    ·split
     ·omega
     ·show (_++_:List Int).length<=_
      rw [List.length_append];exact Nat.le_refl _
   have:=ih (dY S k);rw [List.foldl_cons,List.length_cons];omega
def Bq (CW CH:Addr) (K:PySem.W.Frag):Sp:=fun vs H Q _=>∃(i:Nat) (τ:Tg) (p L O:Addr) (rs:List Addr) (rws:List (List Rw)) (m:Nat) (v:V) (ns:List Int) (od:List Nat),vs=[.ref p,v,.ref O]/\Pg τ H p L rs rws m/\rws.length<=100/\m<=100/\NumV τ H v ns m/\j8 τ H/\i≠0/\(∀x u,H x=some u->(τ x).head?≠some i)/\H O=some (.lst (od.map fun k:Nat=>V.int k))/\od.length<=300/\Ku (lE m ns rws) od /\ ∀(W:oE) (τ':Tg) (H':Hp),jD CW CH i τ' H' W (od.foldl dY (lE m ns rws))->(∀x u,H x=some u->τ' x=τ x)->Same H H'->Q (.ref W.o) H'
theorem MP {ak au aX cR:Addr} {f:Addr} {fd:FuncData} (F:fj K "_law_anew" "_law_anew" xQ f fd) (Ky:FnAt P w K mg base 9 "_law_works" ["program","numbers"] (wN ak au K)) (gK:MethAt P w K mg base 7 ak "turn" ["self","hand"] (fun vs H Q _=>tH ak au aX cR K vs H Q fun _ _ _=>False)) (aK:cM K ak) (Bt:mC mg):bU P w K mg base gF 10 f fd ["program","numbers","order"] (Bq ak au K):=by
 refine F.ok t_ (fun vs H Q E h=> ?_) (fun cdv A outer s H vs Q E hr h=> ?_)
 ·obtain ⟨i,τ,p,L,O,rs,rws,m,v,ns,od,rfl,_⟩:=h
  rfl
 ·obtain ⟨i,τ,p,L,O,rs,rws,m,v,ns,od,rfl,g,rl,ml,nv,un,i0,off,hO,ol,rn,k⟩:=h
  refine ⟨_,(aB (aW (i:=3) t_.nd rfl (Or.inl rfl) (bF Ky (hr.mono (by decide)) (by rfl) (aj (pv 0) (aj (pv 1) aq))))
   (aB (jO PassesOwn.never rfl (cj (K:=K) rfl (pv 2)) (bI (i:=4) t_.nd rfl (Or.inl rfl))
   (aG (cH (cO gK aK.cls (hr.mono (by decide)) (pv 3) (aj (pv 4) aq)))))
   (aG (aV (pv 3))))), ?_⟩
  refine ⟨_,rfl,_,rfl,i,τ,p,L,rs,rws,m,v,ns,rfl,g,rl,ml,nv,un,i0,fun W τ1 H1 w1 G9 s1=> ?_⟩;have YB:=s1 _ _ hO;dsimp only [bV];refine g_ (fun σ Hc=>(∃x4,σ=[some (.ref p),some v,some (.ref O),some (.ref W.o),x4])/\jD ak au i τ1 Hc W (od.foldl dY (lE m ns rws))/\Same H Hc) (fun D' hD' Sw=> ?_) ?_
  ·refine ⟨_,rfl,O,rfl,⟨_,aY.of YB⟩,m7 (K:=K) (xs:=od.map fun k:Nat=>V.int k) (fun j σ Hc=>(∃x4,σ=[some (.ref p),some v,some (.ref O),some (.ref W.o),x4])/\jD ak au i τ1 Hc W ((od.take j).foldl dY (lE m ns rws))/\Same H Hc) ⟨⟨_,rfl⟩,w1,s1⟩ (fun j σ Hc _ ⟨_,_,sc⟩=>aY.of (sc _ _ hO)) ?_ (fun σ Hc ⟨h1,h2,h3⟩=>hD' _ _ ⟨h1,by rw [List.length_map,List.take_length] at h2;exact h2,h3⟩)⟩
   rintro j x σ Hc hi ⟨⟨x4,rfl⟩,wc,sc⟩;rw [List.getElem?_map] at hi
   obtain ⟨n,en,rfl⟩:∃n,od[j]? = some n/\x = .int n:=by
    cases e:od[j]? with
    | none=>rw [e] at hi;cases hi
    | some n=>rw [e] at hi;exact ⟨n,rfl,(Option.some.inj hi).symm⟩
   obtain ⟨s',es,wt⟩:=rn j n en;have tk:od.take (j+1)=od.take j++[n]:=by rw [List.take_add_one,en];rfl
   have fl:=JR (lE m ns rws) (od.take j);have jl:=(List.getElem?_eq_some_iff.mp en).1;rw [List.length_take] at fl;have fl0:(lE m ns rws).ts.length=0:=rfl;have nlt:=(List.getElem?_eq_some_iff.mp es).1;have inn:vh (n:Int) ((od.take j).foldl dY (lE m ns rws)).hs.length:=⟨by omega,by omega⟩;refine ⟨_,rfl,W.o,W.dx,_,rfl,wc.o,rfl,_,rfl,i,τ1,W,_,(n:Nat),rfl,wc,by omega,fun k' t' r' tt Hk e1 e2 wt' N7 Y6 tf tk' wk st=> ?_,fun z=>absurd inn z,fun k' t' e1 e2 z=> ?_⟩
   ·obtain rfl:k'=n:=by omega
    refine ⟨⟨_,rfl⟩,by rw [tk,List.foldl_append];exact wk,fun y u e=>st.keep _ _ (sc _ _ e) (by rw [G9 y u e];exact off y u e)⟩
   ·obtain rfl:k'=n:=by omega
    rw [es] at e2;cases e2;exact z wt
  ·rintro σ Hc ⟨⟨x4,rfl⟩,wc,sc⟩
   exact ⟨_,rfl,k W τ1 Hc wc G9 sc⟩
def Hh (τ:Tg) (H:Hp) (hh:Addr) (N:Nat):Prop:=∃qs:List Addr,H hh=some (.lst (qs.map V.ref))/\qs.length<=8/\τ hh=[44,0] /\ ∀q∈qs,τ q=[44,1] /\ ∃xs:List V,H q=some (.lst xs)/\xs.length<=N
theorem Hh.mv {τ τ':Tg} {H H':Hp} {hh:Addr} {N:Nat} (h:Hh τ H hh N) (q:Mv 44 τ H τ' H'):Hh τ' H' hh N:=by
 obtain ⟨qs,e,l,t,hq⟩:=h;have e1:=q.keep _ _ e (.inr (by rw [t];rfl));refine ⟨qs,e1.1,l,e1.2.trans t,fun x hx=> ?_⟩;obtain ⟨tx,xs,ex,xl⟩:=hq x hx;have e2:=q.keep _ _ ex (.inr (by rw [tx];rfl));exact ⟨e2.2.trans tx,xs,e2.1,xl⟩
theorem Hh.mono {τ:Tg} {H:Hp} {hh:Addr} {N M:Nat} (h:Hh τ H hh N) (l:N<=M):Hh τ H hh M:=by
 obtain ⟨qs,e,l',t,hq⟩:=h;exact ⟨qs,e,l',t,fun x hx=>let ⟨a,xs,b,c⟩:=hq x hx;⟨a,xs,b,by omega⟩⟩
def tK (K:PySem.W.Frag):Sp:=fun vs H Q _=>∃(r hh:Addr) (τ:Tg) (N:Nat),vs=[.ref r,.ref hh]/\RT τ H r/\Hh τ H hh N/\N<=5000 /\ ∀H',RT τ H' r->Hh τ H' hh (N+1)->(∀j,j≠44->Mv j τ H τ H')->Q .non H'
theorem zU {f:Addr} {fd:FuncData} (F:fj K "_law_spoilt" "_law_spoilt" qJ f fd) (bO:FnAt P w K mg base 1 "_law_draw" ["reel","many"] (gZ K)) (Bt:mC mg):bU P w K mg base gF 2 f fd ["reel","hands"] (tK K):=by
 refine F.ok oM (fun vs H Q E h=> ?_) (fun cdv A outer s H vs Q E hr h=> ?_)
 ·obtain ⟨r,hh,τ,N,rfl,_⟩:=h
  rfl
 ·obtain ⟨r,hh,τ,N,rfl,T,h0,nN,k⟩:=h
  have qb:=hr.units
  refine ⟨_,(aB (aW (i:=2) oM.nd rfl (Or.inl rfl) (bF bO (hr.mono (by decide)) (by rfl) (aj (pv 0) (aj aA aq))))
   (aB (aW (i:=3) oM.nd rfl (Or.inl rfl) (bF bO (hr.mono (by decide)) (by rfl) (aj (pv 0) (aj (bf (wz rfl) (by rfl) Bt.Qp Kq (aj aA (aj (bf (bC (K:=K) rfl) (by rfl) Bt.dU cU (aj (pv 1) aq)) aq))) aq))))
   (aB (bL (aQ (uy (K:=K) rfl qb) (pv 1) (cC aq) (aR _)) (aG DN) bw)
   (aG (bL (aQ iY (pv 2) aA (aR _)) (aG (cH (o8 (K:=K) rfl PySem.F.plainAttrs_list PySem.F.slot_list_insert PySem.F.type_list_insert Gm (aJ (aH (K:=K) rfl) (pv 1) (pv 3) (fun _ _=>rfl)) (aj aA (aj (cZ (aj bD (aj bD (aj aA aq)))) aq))))) (aG (bL (aQ cA (pv 2) aA (aR _)) (aG (cH (xW (K:=K) rfl PySem.F.plainAttrs_list PySem.F.slot_list_clear PySem.F.type_list_clear uE (aJ (aH (K:=K) rfl) (pv 1) (pv 3) (fun _ _=>rfl))))) (aG (cH (xW (K:=K) rfl PySem.F.plainAttrs_list PySem.F.slot_list_clear PySem.F.type_list_clear uE (pv 1))))))))))), ?_⟩
  refine ⟨_,rfl,r,4,rfl,T.R,by decide,by decide,fun kd H1 kd0 kd1 R1 k1=> ?_⟩;have T1:=T.draw k1 R1;have h1:=h0.mv (T.kr k1);obtain ⟨qs,e1,ql,th,hq⟩:=id h1;refine ⟨_,rfl,_,rfl,hh,_,rfl,.inl (aY.of e1),_,_,rfl,r,_,rfl,T1.R,by rw [List.length_map];split<;>omega,by rw [List.length_map];split<;>omega,fun z H2 z0 z1 R2 k2=> ?_⟩;have T2:=T1.draw k2 R2;have h2:=h1.mv (T1.kr k2);have mv2:∀j,Mv j τ H τ H2:=fun j=>(T.kr k1).trans (T1.kr k2);obtain ⟨z,rfl⟩:=Int.eq_ofNat_of_zero_le z0;rw [List.length_map] at z1;have e2:H2 hh=some (.lst (qs.map V.ref)):=T1.keep k2 e1 (by rw [th];simp)
  have hq2:∀q∈qs,τ q=[44,1] /\ ∃xs:List V,H2 q=some (.lst xs)/\xs.length<=N:=fun q hx=>by
   obtain ⟨a,xs,b,c⟩:=hq q hx;exact ⟨a,xs,T1.keep k2 b (by rw [a];simp),c⟩
  refine ⟨_,rfl,(by show 0<=sizeLine;decide),fun em hem=> ?_⟩;have sem:=aF (o:=HO.lst []) hem;have e3:=sem _ _ e2;have W7:(upd H2 em (.lst [])) em=some (.lst []):=ao;have T3:=T2.same sem;have mv3:∀j,Mv j τ H τ (upd H2 em (.lst [])):=fun j=>(mv2 j).trans (Mv.of_same sem)
  have UJ:∀q∈qs,τ q=[44,1] /\ ∃xs:List V,(upd H2 em (.lst [])) q=some (.lst xs)/\xs.length<=N:=fun q hx=>by
   obtain ⟨a,xs,b,c⟩:=hq2 q hx;exact ⟨a,xs,sem _ _ b,c⟩
  generalize (upd H2 em (.lst []))=H3 at sem e3 W7 T3 mv3 UJ ⊢;clear hq hq2 e1 e2 h1 h2 mv2 T1 T2 k1 k2 R1 R2;refine ⟨_,_,_,rfl,rfl,aY.of e3,aY.of W7,_,rfl, ?_⟩;rw [if_neg Bool.false_ne_true];cases Yw:qs with
  | nil=>
    subst Yw;exact dM (k H3 T3 ⟨[],e3,by simp,th,fun q hx=>by simp at hx⟩ fun j _=>mv3 j)
  | cons q0 qs'=>
    have adO:0<qs.length:=by rw [Yw];simp
    rw [←Yw];have Uv:(qs.map V.ref).isEmpty=false:=by rw [Yw];rfl
    rw [Uv];refine cD ?_
    have zl:z<qs.length:=by
     split at z1<;>omega
    obtain ⟨q,eq⟩:∃q,qs[z]? = some q:=⟨_,List.getElem?_eq_getElem zl⟩;have mq:=List.mem_of_getElem? eq;obtain ⟨tq,xs,ex,xl⟩:=UJ q mq
    have wr:∀ys:List V,ys.length<=N+1->Q .non (upd H3 q (.lst ys)):=fun ys yl=>by
     have st:lW 44 τ H3 (upd H3 q (.lst ys)):=lW.set (by rw [tq];rfl) ex (by intro xs z;cases z);refine k _ (T3.stp st) ⟨qs, ?_,ql,th,fun x hx=> ?_⟩ fun j hj=>(mv3 j).trans (Mv.gC st (fun z=>hj z.symm) (by decide))
     ·rw [aD (bZ th tq (by decide))];exact e3
     ·obtain ⟨tx,xs',ex',xl'⟩:=UJ x hx
      refine ⟨tx, ?_⟩
      by_cases zz:x=q
      ·rw [zz,ao];exact ⟨ys,rfl,yl⟩
      ·rw [aD zz];exact ⟨xs',ex',by omega⟩
    refine ⟨_,rfl,_,_,rfl,rfl,_,rfl, ?_⟩;refine bK (fun _=> ?_) (fun _=> ?_)
    ·refine ⟨_,rfl,_,rfl,_,_,_,_,rfl,rfl,aY.of e3,bW (show (qs.map V.ref)[z]? = some (V.ref q) by rw [List.getElem?_map,eq];rfl),.inl ⟨rfl,_,aY.of ex⟩,(by show 3<=sizeLine;decide),fun t ht=> ?_⟩
     have st:=aF (o:=HO.tup [V.str "load",V.str "a",V.int 0]) ht;refine ⟨q,xs,_,_,rfl,rfl,st _ _ ex,by decide,by omega,by rw [sizeLine_eq];omega, ?_⟩;have T4:=T3.same st;have Fx:lW 44 τ (upd H3 t (.tup [V.str "load",V.str "a",V.int 0])) (upd (upd H3 t (.tup [V.str "load",V.str "a",V.int 0])) q (.lst (xs.take (0:Int).toNat++V.ref t::xs.drop (0:Int).toNat))):=lW.set (by rw [tq];rfl) (st _ _ ex) (by intro xs z;cases z);refine k _ (T4.stp Fx) ⟨qs, ?_,ql,th,fun x hx=> ?_⟩ fun j hj=>((mv3 j).trans (Mv.of_same st)).trans (Mv.gC Fx (fun z=>hj z.symm) (by decide))
     ·rw [aD (bZ th tq (by decide))];exact st _ _ e3
     ·obtain ⟨tx,xs',ex',xl'⟩:=UJ x hx
      refine ⟨tx, ?_⟩
      by_cases zz:x=q
      ·rw [zz,ao];exact ⟨_,rfl,by simp;omega⟩
      ·rw [aD zz];exact ⟨xs',st _ _ ex',by omega⟩
    ·refine ⟨_,rfl,rfl,_,rfl, ?_⟩
     refine bK (fun _=> ?_) (fun _=> ?_)
     ·exact ⟨_,rfl,_,rfl,_,_,_,_,rfl,rfl,aY.of e3,bW (show (qs.map V.ref)[z]? = some (V.ref q) by rw [List.getElem?_map,eq];rfl),.inl ⟨rfl,_,aY.of ex⟩,q,xs,rfl,rfl,ex,wr [] (by simp)⟩
     ·refine ⟨_,rfl,.inl ⟨rfl,_,aY.of e3⟩,hh,_,rfl,rfl,e3, ?_⟩
      have Fx:lW 44 τ H3 (upd H3 hh (.lst [])):=lW.set (by rw [th];rfl) e3 (by intro xs z;cases z);exact k _ (T3.stp Fx) ⟨[],ao,by simp,th,fun x hx=>by simp at hx⟩ fun j hj=>(mv3 j).trans (Mv.gC Fx (fun z=>hj z.symm) (by decide))
def zE (K:PySem.W.Frag):Sp:=fun vs H Q _=>∃(j j':Nat) (τ:Tg) (L:vG) (ns:List Int) (hs:List aO) (cs:List Nat),vs=[.ref L.st]/\rR j τ H L ns hs cs/\hs.length<=100/\j8 τ H /\
 ∀(L':vG) (τ':Tg) (H':Hp),rR j' τ' H' L' ns hs cs->j8 τ' H'->(∀x u,H x=some u->τ' x=τ x)->Same H H'->Q (.ref L'.st) H'
theorem Gh {f:Addr} {fd:FuncData} (F:fj K "_law_copied" "_law_copied" qL f fd) (Bt:mC mg):bU P w K mg base gF 1 f fd ["state"] (zE K):=by
 refine F.ok Bv (fun vs H Q E h=> ?_) (fun cdv A outer s H vs Q E hr h=> ?_)
 ·obtain ⟨j,j',τ,L,ns,hs,cs,rfl,_⟩:=h
  rfl
 ·obtain ⟨j0,j,τ,L,ns,hs,cs,rfl,w,hl,un,k⟩:=h
  refine ⟨_,(aG (aV (cC (aj (bT (bG (K:=K) rfl) (by rfl) Bt.dg cN (aj (aJ (aH (K:=K) rfl) (pv 0) aA (fun _ _=>rfl)) aq)) (aj (cI rfl (N:=["hand"]) (own:=["hand"]) (caps:=[]) (bh.of (by kernel_rfl)) (cj (K:=K) rfl (aJ (aH (K:=K) rfl) (pv 0) aA (fun _ _=>rfl))) (fun _ _ _ _=>(bI (i:=0) (show List.Nodup (["hand"]:List Str) by decide +kernel) rfl (Or.inl rfl))) (fun _ _ _ _=>cB) (fun _ _ _ _=>(cC (aj (aJ (aH (K:=K) rfl) (pv 0) aA (fun _ _=>rfl)) (aj (bT (bG (K:=K) rfl) (by rfl) Bt.dg cN (aj (aJ (aH (K:=K) rfl) (pv 0) aA (fun _ _=>rfl)) aq)) (aj (bT (bG (K:=K) rfl) (by rfl) Bt.dg cN (aj (aJ (aH (K:=K) rfl) (pv 0) aA (fun _ _=>rfl)) aq)) (aj (aJ (aH (K:=K) rfl) (pv 0) aA (fun _ _=>rfl)) (aj (aJ (aH (K:=K) rfl) (pv 0) aA (fun _ _=>rfl)) aq)))))))) aq))))), ?_⟩;refine ⟨_,rfl,_,_,_,_,rfl,rfl,aY.of w.st,rfl,L.nb,_,rfl,.inl (aY.of w.nb),fun n hn=> ?_⟩;have sn:=aF (o:=HO.lst (ns.map V.int)) hn;have en:(upd H n (.lst (ns.map V.int))) n=some (.lst (ns.map V.int)):=ao;have Vf:=un.claim (t:=[j,1]) sn (p:=n) ⟨_,en⟩;have tn:aM τ n [j,1] n=[j,1]:=bB;have G9:∀x u,H x=some u->aM τ n [j,1] x=τ x:=fun x u e=>aP (aC e hn);generalize (upd H n (.lst (ns.map V.int)))=H1 at sn en Vf ⊢;generalize aM τ n [j,1]=τ1 at Vf tn G9;refine ⟨_,rfl,_,_,_,_,rfl,rfl,aY.of (sn _ _ w.st),rfl,L.hl,rfl,⟨_,aY.of (sn _ _ w.hl)⟩,fun a ha=> ?_⟩;have sa:=aF (o:=HO.lst []) ha;have un2:=Vf.claim (t:=[j,2]) sa (p:=a) ⟨_,ao⟩;have Bd:=sn.trans sa
  refine eE (K:=K) (xs:=L.hd.map fun q=>V.ref q.h) (fun i σ Hc=>∃(x1:Option V) (τc:Tg) (hd:List vf),σ=[x1]/\Same H1 Hc/\j8 τc Hc/\(∀x u,H1 x=some u->τc x=τ1 x)/\Hc a=some (.lst (hd.map fun q=> .ref q.h))/\τc a=[j,2]/\hd.length=i /\ ∀(k:Nat) (A:vf) (s:aO) (c:Nat),hd[k]? = some A->hs[k]? = some s->cs[k]? = some c->K8 j k τc Hc A s c)
   ⟨none,aM τ1 a [j,2],[],rfl,sa,un2,fun x u e=>aP (aC e ha),ao,bB,rfl,fun k A s c e=>by simp at e⟩ ?_ ?_ ?_
  ·rintro i σ Hc _ ⟨x1,τc,hd,rfl,sc,_⟩
   exact aY.of (sc _ _ (sn _ _ w.hl))
  ·rintro i x σ Hc hi ⟨x1,τc,hd,rfl,sc,KD,zc,hac,tac,li,hdc⟩
   rw [List.getElem?_map] at hi
   obtain ⟨B,eB,rfl⟩:∃B,L.hd[i]? = some B/\x = .ref B.h:=by
    cases e:L.hd[i]? with
    | none=>rw [e] at hi;cases hi
    | some B=>rw [e] at hi;exact ⟨B,rfl,(Option.some.inj hi).symm⟩
   have il:i<hs.length:=by rw [←w.len];exact (List.getElem?_eq_some_iff.mp eB).1
   obtain ⟨s0,es⟩:∃s0,hs[i]? = some s0:=⟨_,List.getElem?_eq_getElem il⟩;obtain ⟨c0,ec⟩:∃c0,cs[i]? = some c0:=⟨_,List.getElem?_eq_getElem (by rw [w.lc];exact il)⟩;have q:=((w.hd i B _ _ eB es ec).q.same sn).same sc;dsimp only [bV,oJ];rw [if_pos rfl];refine ⟨_,rfl,_,_,_,_,rfl,rfl,aY.of q.h,rfl,_,rfl,_,_,_,_,rfl,rfl,aY.of q.h,rfl,B.b,_,rfl,.inl (aY.of q.b),fun b hb=> ?_⟩;have sb:=aF (o:=HO.lst (s0.bs.map V.int)) hb;refine ⟨_,rfl,_,_,_,_,rfl,rfl,aY.of (sb _ _ q.h),rfl,B.sy,_,rfl,.inl (aY.of (sb _ _ q.y)),fun y hy=> ?_⟩;have sy:=aF (o:=HO.lst (s0.sy.map V.int)) hy;have qh2:=sy _ _ (sb _ _ q.h);refine ⟨_,rfl,_,_,_,_,rfl,rfl,aY.of qh2,rfl,_,rfl,_,_,_,_,rfl,rfl,aY.of qh2,rfl,(by show 5<=sizeLine;decide),fun h hh=> ?_⟩;have sh:=aF (o:=HO.lst [V.int s0.pos,V.ref b,V.ref y,V.str s0.st,V.int c0]) hh;have s4:=(sb.trans sy).trans sh;have fb:Hc b=none:=hb;have fy:Hc y=none:=sb.free hy;have fh:Hc h=none:=(sb.trans sy).free hh;have pL:b≠y:=aC ao hy;have M_:b≠h:=aC (sy _ _ ao) hh;have V9:y≠h:=aC ao hh
   have q4:oG (upd (upd (upd Hc b (.lst (s0.bs.map V.int))) y (.lst (s0.sy.map V.int))) h (.lst [V.int s0.pos,V.ref b,V.ref y,V.str s0.st,V.int c0])) ⟨h,b,y⟩ s0 c0:=
    ⟨ao,sh _ _ (sy _ _ ao),sh _ _ ao,M_.symm,V9.symm,pL,q.bl⟩
   generalize (upd (upd (upd Hc b (.lst (s0.bs.map V.int))) y (.lst (s0.sy.map V.int))) h (.lst [V.int s0.pos,V.ref b,V.ref y,V.str s0.st,V.int c0]))=H5 at s4 q4 ⊢;have Yz:=s4 _ _ hac;have nah:a≠h:=aC hac fh;have nab:a≠b:=aC hac fb;have nay:a≠y:=aC hac fy;have T:∀x u,Hc x=some u->aM (aM (aM τc h [j,4,i]) b [j,5,i]) y [j,6,i] x=τc x:=fun x u e=>by rw [aP (aC e fy),aP (aC e fb),aP (aC e fh)]
   have Th:aM (aM (aM τc h [j,4,i]) b [j,5,i]) y [j,6,i] h=[j,4,i]:=by rw [aP V9.symm,aP M_.symm,bB]
   have Tb:aM (aM (aM τc h [j,4,i]) b [j,5,i]) y [j,6,i] b=[j,5,i]:=by rw [aP pL,bB]
   have Ty:aM (aM (aM τc h [j,4,i]) b [j,5,i]) y [j,6,i] y=[j,6,i]:=bB
   have KJ:j8 (aM (aM (aM τc h [j,4,i]) b [j,5,i]) y [j,6,i]) (upd H5 a (.lst ((hd.map fun q=>V.ref q.h)++[V.ref h]))):=fun x e=>by
    have e5:H5 x=none:=by
     by_cases z:x=a
     ·rw [z,ao] at e;cases e
     ·rw [aD z] at e;exact e
    have n1:x≠h:=fun z=>by rw [z,q4.h] at e5;cases e5
    have n2:x≠b:=fun z=>by rw [z,q4.b] at e5;cases e5
    have n3:x≠y:=fun z=>by rw [z,q4.y] at e5;cases e5
    rw [aP n3,aP n2,aP n1];exact KD x (s4.free e5)
   have q6:lX [[j,2]] τc Hc (aM (aM (aM τc h [j,4,i]) b [j,5,i]) y [j,6,i]) (upd H5 a (.lst ((hd.map fun q=>V.ref q.h)++[V.ref h]))):=by
    refine ⟨fun x u e n=>⟨?_,T x u e⟩,fun x xs e=> ?_⟩
    ·rw [aD (fun z:x=a=>n (by rw [z,tac];simp))]
     exact s4 _ _ e
    ·rw [aD (cG e hac (by intro z;cases z))]
     exact s4 _ _ e
   generalize aM (aM (aM τc h [j,4,i]) b [j,5,i]) y [j,6,i]=τ6 at T Th Tb Ty KJ q6;have lh:hd.length<=100:=by omega
   refine ⟨_,Yz,(by rw [List.length_map,sizeLine_eq];omega),_,τ6,hd++[⟨h,b,y⟩],rfl,(sc.trans s4).newly ha,KJ,fun x u e=>by rw [T x u (sc _ _ e)];exact zc x u e,by rw [ao,List.map_append];rfl,by rw [T _ _ hac];exact tac,by simp [li],fun kk A s c h1 h2 h3=> ?_⟩;rcases fW h1 with h1|⟨e1,rfl⟩
   ·exact (hdc kk A s c h1 h2 h3).Jt q6 (by simp) (by simp) (by simp)
   ·rw [e1,li,es] at h2
    rw [e1,li,ec] at h3;cases h2;cases h3;rw [e1,li];exact ⟨⟨by rw [aD nah.symm];exact q4.h,by rw [aD nab.symm];exact q4.b,by rw [aD nay.symm];exact q4.y,q4.vW,q4.yj,q4.pL,q4.bl⟩,Th,Tb,Ty⟩
  ·rintro σ Hc ⟨x1,τc,hd,rfl,sc,KD,zc,hac,tac,li,hdc⟩
   rw [List.length_map,w.len] at li;refine ⟨(by show 2<=sizeLine;decide),fun t ht=> ?_⟩;have st:=aF (o:=HO.lst [V.ref n,V.ref a]) ht;have T:∀x u,Hc x=some u->aM τc t [j,0] x=τc x:=fun x u e=>aP (aC e ht);have enc:=sc _ _ en;have tnc:aM τc t [j,0] n=[j,1]:=by rw [T _ _ enc,zc _ _ en];exact tn
   have s0t:=(sn.trans sc).trans st;refine k ⟨t,n,a,hd⟩ (aM τc t [j,0]) _ ⟨ao,st _ _ enc,st _ _ hac,bB,tnc,by rw [T _ _ hac];exact tac,li,w.lc,fun kk A s c h1 h2 h3=> ?_⟩ (KD.claim st ⟨_,ao⟩) (fun x u e=>by rw [T _ _ (sc _ _ (sn _ _ e)),zc _ _ (sn _ _ e),G9 _ _ e]) s0t;obtain ⟨q,t1,t2,t3⟩:=hdc kk A s c h1 h2 h3;exact ⟨q.same st,by rw [T _ _ q.h];exact t1,by rw [T _ _ q.b];exact t2,by rw [T _ _ q.y];exact t3⟩
theorem Fg {hs:List aO} {z k:Nat} (h:(lJ hs)[z]? = some k):∃s,hs[k]? = some s/\s.st = "waits" :=by
 have m:=List.mem_of_getElem? h;have:=(List.mem_filter.mp m).2;unfold vJ at this;cases e:hs[k]? with
 | none=>rw [e] at this;cases this
 | some s=>rw [e] at this;exact ⟨s,rfl,of_decide_eq_true this⟩
theorem Tj (n:Nat):Cn [] n (List.replicate n 0):=⟨by simp,fun k hk=>by rw [List.getElem?_replicate,if_pos hk];rfl,by simp⟩
structure jB (CW CH:Addr) (i j:Nat) (τ:Tg) (H:Hp) (W:oE) (S:ji) (L:vG) (cs:List Nat) (rws:List (List Rw)) (m:Nat):Prop where
 w:jD CW CH i τ H W S
 l:rR j τ H L S.ns S.hs cs
 c:Cn S.ts S.hs.length cs
 em:S.m=m
 gd:lZ S
 rl:S.hs.length=rws.length
 rw':∀(k:Nat) (s:aO),S.hs[k]? = some s->rws[k]? = some s.rws
section
variable {CW CH:Addr} {i j:Nat} {τ τ':Tg} {H H':Hp} {W:oE} {S:ji} {L:vG} {cs:List Nat} {rws:List (List Rw)} {m:Nat}
theorem jB.mv (y:jB CW CH i j τ H W S L cs rws m) (q1:Mv i τ H τ' H') (q2:Mv j τ H τ' H') (u:j8 τ' H'):jB CW CH i j τ' H' W S L cs rws m:=⟨y.w.mv q1 u,y.l.mv q2,y.c,y.em,y.gd,y.rl,y.rw'⟩
theorem jB.same (y:jB CW CH i j τ H W S L cs rws m) (k:Same H H'):jB CW CH i j τ H' W S L cs rws m:=y.mv (Mv.of_same k) (Mv.of_same k) (y.w.un.same k)
theorem jB.sy (y:jB CW CH i j τ H W S L cs rws m) (t:S.ts.length<=300):∀s∈S.hs,s.sy.length<=20000:=fun s hs=>by
 have:=y.w.sl s hs;omega
end
def tG (CW CH:Addr) (K:PySem.W.Frag):Sp:=fun vs H Q _=>∃(i j o:Nat) (τ:Tg) (W:oE) (S:ji) (L:vG) (cs:List Nat) (r p PL O:Addr) (rs:List Addr) (rws:List (List Rw)) (m:Nat) (od:List Nat),vs=[.ref r,.ref W.o,.ref L.st,.ref p,.ref O]/\jB CW CH i j τ H W S L cs rws m/\RT τ H r/\Pg τ H p PL rs rws m/\i≠j/\j≠0/\o≠0/\o≠i/\o≠j/\τ O=[o]/\H O=some (.lst (od.map fun k:Nat=>V.int k))/\od.length<=300/\S.ts.length<=299 /\
 ∀(S':ji) (cs' od':List Nat) (H':Hp),((S'=S/\od'=od) \/ ∃(k:Nat) (s:aO),S.hs[k]? = some s/\s.st = "waits" /\ S'=dY S k/\od'=od++[k])->S'.ts.length<=S.ts.length+1->jB CW CH i j τ H' W S' L cs' rws m->RT τ H' r->H' O=some (.lst (od'.map fun k:Nat=>V.int k))->(∀l,l≠i->l≠j->l≠o->Mv l τ H τ H')->Q (.bl true) H'
theorem Ga {ak au aX cR:Addr} {f:Addr} {fd:FuncData} (F:fj K "_law_turn" "_law_turn" xu f fd) (bO:FnAt P w K mg base 1 "_law_draw" ["reel","many"] (gZ K)) (C_:FnAt P w K mg base 1 "_law_waiting" ["state"] (vM K)) (O8:FnAt P w K mg base 6 "_law_gone" ["state","program","k"] (Ih K)) (d_:FnAt P w K mg base 5 "_law_alike" ["found","due"] (kj 4 K)) (gK:MethAt P w K mg base 7 ak "turn" ["self","hand"] (fun vs H Q _=>tH ak au aX cR K vs H Q fun _ _ _=>False)) (aK:cM K ak) (Bt:mC mg):bU P w K mg base gF 8 f fd ["reel","one","state","program","order"] (tG ak au K):=by
 refine F.ok mL (fun vs H Q E h=> ?_) (fun cdv A outer s H vs Q E hr h=> ?_)
 ·obtain ⟨i,j,o,τ,W,S,L,cs,r,p,PL,O,rs,rws,m,od,rfl,_⟩:=h
  rfl
 ·obtain ⟨i,j,o,τ,W,S,L,cs,r,p,PL,O,rs,rws,m,od,rfl,y0,T0,g0,nij,j0,o0,noi,noj,tO,hO,ol,tl,k⟩:=h
  have qb:=hr.units
  refine ⟨_,(aB (aW (i:=5) mL.nd rfl (Or.inl rfl) (bF bO (hr.mono (by decide)) (by rfl) (aj (pv 0) (aj aA aq))))
   (aB (aW (i:=6) mL.nd rfl (Or.inl rfl) (bF C_ (hr.mono (by decide)) (by rfl) (aj (pv 2) aq)))
   (aB (bL (aQ (uy (K:=K) rfl qb) (pv 6) (cC aq) (aR _)) (aG (aV gH)) bw)
   (aB (aW (i:=7) mL.nd rfl (Or.inl rfl) (aJ (aH (K:=K) rfl) (pv 6) (bQ iQ (pv 5) (bf (bC (K:=K) rfl) (by rfl) Bt.dU cU (aj (pv 6) aq))) (fun _ _=>rfl)))
   (aB (aW (i:=8) mL.nd rfl (Or.inl rfl) (bF O8 (hr.mono (by decide)) (by rfl) (aj (pv 2) (aj (pv 3) (aj (pv 7) aq)))))
   (aB (cH (dz (K:=K) rfl (pv 4) (aj (pv 7) aq)))
   (aG (aV (bF d_ (hr.mono (by decide)) (by rfl) (aj (cO gK aK.cls (hr.mono (by decide)) (pv 1) (aj (pv 7) aq)) (aj (pv 8) aq))))))))))), ?_⟩
  have hlen':S.hs.length<=100:=y0.w.hn;refine ⟨_,rfl,r,5040,rfl,T0.R,by decide,by decide,fun pk H1 p0 p1 R1 k1=> ?_⟩;have T1:=T0.draw k1 R1;have y1:=y0.mv (T0.kr k1) (T0.kr k1) T1.un;have g1:=g0.mv (T0.kr (i:=i) k1);have YB:=T0.keep k1 hO (by rw [tO];simp);obtain ⟨pk,rfl⟩:=Int.eq_ofNat_of_zero_le p0;dsimp only [bV];refine ⟨_,rfl,j,τ,L,_,_,_,rfl,y1.l,hlen',fun wl H2 fwl ewl s2=> ?_⟩;have y2:=y1.same s2;have T2:=T1.same s2;have g2:=g1.same s2;have hO2:=s2 _ _ YB;have mv2:∀l,Mv l τ H τ H2:=fun l=>(T0.kr k1).trans (Mv.of_same s2);clear y1 T1 g1 YB k1 R1 y0 T0 g0;refine ⟨_,rfl,(by show 0<=sizeLine;decide),fun em hem=> ?_⟩;have sem:=aF (o:=HO.lst []) hem;have y3:=y2.same sem;have T3:=T2.same sem;have g3:=g2.same sem;have hO3:=sem _ _ hO2;have NT:=sem _ _ ewl;have W7:(upd H2 em (.lst [])) em=some (.lst []):=ao;have mv3:∀l,Mv l τ H τ (upd H2 em (.lst [])):=fun l=>(mv2 l).trans (Mv.of_same sem);generalize (upd H2 em (.lst []))=H3 at sem y3 T3 g3 hO3 NT W7 mv3 ⊢;clear y2 T2 g2 hO2 ewl mv2;refine ⟨_,_,_,rfl,rfl,aY.of NT,aY.of W7,_,rfl, ?_⟩;rw [if_neg Bool.false_ne_true];cases hw:lJ S.hs with
  | nil=>
    exact dM (k S cs od H3 (.inl ⟨rfl,rfl⟩) (by omega) y3 T3 hO3 fun l _ _ _=>mv3 l)
  | cons q0 qs=>
    rw [←hw];have wpos:0<(lJ S.hs).length:=by rw [hw];simp
    have Uv:((lJ S.hs).map fun k:Nat=>V.int k).isEmpty=false:=by rw [hw];rfl
    rw [Uv];refine cD ?_
    have adv:(lJ S.hs).length<=100:=by
     have:=List.length_filter_le (vJ S.hs) (List.range S.hs.length);unfold lJ;rw [List.length_range] at this;omega
    clear hw Uv;obtain ⟨n,ez⟩:∃n,(lJ S.hs)[pk % (lJ S.hs).length]? = some n:=⟨_,List.getElem?_eq_getElem (Nat.mod_lt _ wpos)⟩;refine ⟨_,rfl,_,rfl,_,rfl,wl,_,rfl,.inl (aY.of NT),_,_,rfl,rfl,(by show (0:Int)<((lJ S.hs).map _).length;rw [List.length_map];omega),_,_,_,_,rfl,rfl,aY.of NT,by rw [List.length_map,←Int.natCast_emod];exact bW (show ((lJ S.hs).map fun k:Nat=>V.int k)[pk % (lJ S.hs).length]? = some (V.int n) by rw [List.getElem?_map,ez];rfl), ?_⟩;obtain ⟨s',es,wt⟩:=Fg ez;obtain ⟨row,er,tr⟩:=y3.w.ok s' (List.mem_of_getElem? es) wt;have nlt:=(List.getElem?_eq_some_iff.mp es).1;have YW:=y3.sy (by omega) s' (List.mem_of_getElem? es);dsimp only [bV];refine ⟨_,rfl,_,rfl,_,rfl,j,τ,L,_,_,_,p,PL,rs,rws,m,n,s',row,rfl,y3.l,g3,j0,by rw [y3.w.nl,y3.em],es,y3.rw' n s' es,er,tr,by omega,fun du H4 edu ⟨c,ec,lg⟩ Fx=> ?_⟩;have T4:=T3.stp Fx;have w4:=y3.w.mv (Mv.gC (i:=i) Fx (fun z=>nij z.symm) j0) T4.un;have hO4:=Fx.keep _ _ hO3 (by rw [tO];intro z;exact noj (Option.some.inj z));refine ⟨_,rfl,.inl ⟨rfl,_,aY.of hO4⟩,_,rfl,O,_,_,rfl,rfl,hO4,by rw [List.length_map,sizeLine_eq];omega, ?_⟩;have vm:lW o τ H4 (upd H4 O (.lst ((od.map fun k:Nat=>V.int k)++[V.int (n:Nat)]))):=lW.set (by rw [tO];rfl) hO4 (by intro xs z;cases z);have hO5:(upd H4 O (.lst ((od.map fun k:Nat=>V.int k)++[V.int (n:Nat)]))) O=some (.lst ((od++[n]).map fun k:Nat=>V.int k)):=by rw [ao,List.map_append];rfl
    generalize (upd H4 O (.lst ((od.map fun k:Nat=>V.int k)++[V.int (n:Nat)])))=H5 at vm hO5 ⊢;have T5:=T4.stp vm;have w5:=w4.mv (Mv.gC (i:=i) vm noi o0) T5.un;have l5:=lg.mv (Mv.gC (i:=j) vm noj o0);have abl:=vm.tup _ _ edu;have inn:vh (n:Int) S.hs.length:=⟨by omega,by omega⟩
    have one:∀(k':Nat) (t:aO),(n:Int)=k'->S.hs[k']? = some t->t=s'/\k'=n:=fun k' t e1 e2=>by
     have:k'=n:=by omega
     subst this;rw [es] at e2;exact ⟨(Option.some.inj e2).symm,rfl⟩
    refine ⟨_,rfl,W.o,W.dx,_,rfl,w5.o,rfl,_,rfl,i,τ,W,S,_,rfl,w5,by omega,fun k' t' r' tt H6 e1 e2 wt' N7 Y6 tf tk w6 Li=> ?_,fun z=>absurd inn z,fun k' t' e1 e2 z=>absurd (by rw [(one k' t' e1 e2).1];exact wt) z⟩;obtain ⟨rfl,rfl⟩:=one k' t' e1 e2;rw [er] at N7;cases N7;have T6:=T5.stp Li;have l6:=l5.mv (Mv.gC (i:=j) Li nij y3.w.i0);have hO6:=Li.keep _ _ hO5 (by rw [tO];intro z;exact noi (Option.some.inj z));have abk:=Li.tup _ _ abl;refine ⟨_,rfl,_,_,_,rfl,wg tk,wg abk,Iu _ _ _,fun H7 s7=> ?_⟩;have tS:=zy es er
    have Cl:Cn (dY S k').ts (dY S k').hs.length (cs.set k' (c+1)):=by
     rw [tS];show Cn (S.ts++[(k':Int)]) (S.hs.set k' (jx S.ns t' row)).length _;rw [List.length_set];exact y3.c.turned ec
    have l7:rR j τ H7 L (dY S k').ns (dY S k').hs (cs.set k' (c+1)):=by
     rw [tS];exact l6.same s7
    refine k (dY S k') (cs.set k' (c+1)) (od++[k']) H7 (.inr ⟨k',t',es,wt,rfl,rfl⟩) (by rw [tS];show (S.ts++[(k':Int)]).length<=_;simp) ⟨w6.same s7,l7,Cl,by rw [tS];exact y3.em,y3.gd.turn k', ?_,fun kk s'' e=> ?_⟩ (T6.same s7) (s7 _ _ hO6) fun l n1 n2 n3=>((((mv3 l).trans (Mv.gC Fx (fun z=>n2 z.symm) j0)).trans (Mv.gC vm (fun z=>n3 z.symm) o0)).trans (Mv.gC Li (fun z=>n1 z.symm) y3.w.i0)).trans (Mv.of_same s7)
    ·rw [tS]
     show (S.hs.set k' _).length=_;rw [List.length_set];exact y3.rl
    ·rw [tS] at e
     have e:(S.hs.set k' (jx S.ns t' row))[kk]? = some s'':=e;rw [List.getElem?_set] at e
     by_cases z:k'=kk
     ·subst z
      rw [if_pos rfl,if_pos nlt] at e;cases e;rw [show (jx S.ns t' row).rws=t'.rws from k_ _ _];exact y3.rw' _ _ es
     ·rw [if_neg z] at e
      exact y3.rw' kk s'' e
def Ll (H:Hp) (ls:List Addr) (X:List (List Int)):Prop:=ls.length=X.length /\ ∀(i:Nat) (l:Addr) (x:List Int),ls[i]? = some l->X[i]? = some x->H l=some (.lst (x.map V.int))
theorem Ll.keep {H H':Hp} {ls:List Addr} {X:List (List Int)} (h:Ll H ls X) (k:∀l∈ls,∀o,H l=some o->H' l=some o):Ll H' ls X:=⟨h.1,fun i l x h1 h2=>k l (List.mem_of_getElem? h1) _ (h.2 i l x h1 h2)⟩
theorem Ll.same {H H':Hp} {ls:List Addr} {X:List (List Int)} (h:Ll H ls X) (s:Same H H'):Ll H' ls X:=h.keep fun _ _ _ e=>s _ _ e
theorem Ll.cons {H:Hp} {ls:List Addr} {X:List (List Int)} {l:Addr} {x:List Int} (e:H l=some (.lst (x.map V.int))) (h:Ll H ls X):Ll H (l::ls) (x::X):=⟨by simp [h.1],fun i a y h1 h2=>by
 cases i with
 | zero=>cases h1;cases h2;exact e
 | succ i=>exact h.2 i a y h1 h2⟩
theorem Ll.nil {H:Hp}:Ll H [] []:=⟨rfl,fun i l x h=>by simp at h⟩
theorem Ll.append {H:Hp} {ls ls':List Addr} {X X':List (List Int)} (h:Ll H ls X) (h':Ll H ls' X'):Ll H (ls++ls') (X++X'):=by
 refine ⟨by simp [h.1,h'.1],fun i l x h1 h2=> ?_⟩
 by_cases z:i<ls.length
 ·rw [List.getElem?_append_left z] at h1
  rw [List.getElem?_append_left (by rw [←h.1];exact z)] at h2;exact h.2 i l x h1 h2
 ·rw [List.getElem?_append_right (by omega)] at h1
  rw [List.getElem?_append_right (by rw [←h.1];omega),←h.1] at h2;exact h'.2 _ l x h1 h2
theorem Ll.snoc {H:Hp} {ls:List Addr} {X:List (List Int)} {l:Addr} {x:List Int} (h:Ll H ls X) (e:H l=some (.lst (x.map V.int))):Ll H (ls++[l]) (X++[x]):=h.append (Ll.cons e Ll.nil)
theorem Ll.mem {H:Hp} {ls:List Addr} {X:List (List Int)} (h:Ll H ls X) {l:Addr} (hl:l∈ls):∃x,x∈X/\H l=some (.lst (x.map V.int)):=by
 obtain ⟨i,hi,e⟩:=List.getElem_of_mem hl;have hx:i<X.length:=by rw [←h.1];exact hi
 exact ⟨X[i],List.getElem_mem hx,h.2 i l _ (by rw [List.getElem?_eq_getElem hi,e]) (List.getElem?_eq_getElem hx)⟩
def Wn (X:List (List Int)):PyData:= .list (X.map fun x=> .list (x.map PyData.int))
theorem Ll.dat {H:Hp} {D:Addr} {ls:List Addr} {X:List (List Int)} (h:Ll H ls X) (e:H D=some (.lst (ls.map V.ref))):Dat H (.ref D) (Wn X):=by
 refine jy e ?_;clear e;obtain ⟨l,h⟩:=h
 induction ls generalizing X with
 | nil=>cases X with
   | nil=>exact trivial
   | cons _ _=>cases l
 | cons a ls ih=>cases X with
   | nil=>cases l
   | cons x X=>
     simp only [List.map_cons,bH];exact ⟨cL (h 0 a x rfl rfl),ih (Nat.succ.inj l) fun i b y h1 h2=>h (i+1) b y h1 h2⟩
theorem Q_ {X:List (List Int)} (l:X.length<=20000) (h:∀x∈X,x.length<=20000):G3 4 (Wn X):=⟨by rw [List.length_map];exact l,fun d hd=>by
 obtain ⟨x,hx,rfl⟩:=List.mem_map.mp hd;exact G3.ints (h x hx)⟩
def Ox (τ:Tg) (H:Hp) (T:Addr) (X:List (List Int)):Prop:=∃ls:List Addr,H T=some (.lst (ls.map V.ref))/\τ T=[0]/\Ll H ls X /\ ∀l∈ls,τ l=[0]
theorem Ox.mv {τ τ':Tg} {H H':Hp} {T:Addr} {X:List (List Int)} {j:Nat} (h:Ox τ H T X) (q:Mv j τ H τ' H'):Ox τ' H' T X:=by
 obtain ⟨ls,e,t,hl,ht⟩:=h;have e1:=q.keep _ _ e (.inl t);refine ⟨ls,e1.1,e1.2.trans t,hl.keep fun l hm o eo=>(q.keep _ _ eo (.inl (ht l hm))).1,fun l hm=> ?_⟩;obtain ⟨x,_,ex⟩:=hl.mem hm;exact (q.keep _ _ ex (.inl (ht l hm))).2.trans (ht l hm)
theorem Ox.dat {τ:Tg} {H:Hp} {T:Addr} {X:List (List Int)} (h:Ox τ H T X):Dat H (.ref T) (Wn X):=by
 obtain ⟨ls,e,_,hl,_⟩:=h;exact hl.dat e
structure CV (τ:Tg) (H:Hp) (a:Addr) (fs:List (Addr×Addr×Addr)):Prop where
 ea:H a=some (.lst (fs.map fun q=>V.ref q.1))
 ta:τ a=[43]
 ef:∀q∈fs,H q.1=some (.tup [.ref q.2.1,.ref q.2.2]) /\ ∃X:List (List Int),X.length<=300/\(∀x∈X,x.length<=20000)/\Ox τ H q.2.1 X/\Ox τ H q.2.2 X
theorem CV.mv {τ τ':Tg} {H H':Hp} {a:Addr} {fs:List (Addr×Addr×Addr)} (h:CV τ H a fs) (q:Mv 43 τ H τ' H'):CV τ' H' a fs:=by
 have e1:=q.keep _ _ h.ea (.inr (by rw [h.ta];rfl));refine ⟨e1.1,e1.2.trans h.ta,fun x hx=> ?_⟩;obtain ⟨a1,X,a2,a3,a4,a5⟩:=h.ef x hx;exact ⟨q.tup _ _ a1,X,a2,a3,a4.mv q,a5.mv q⟩
def Qm (τ:Tg) (Z:List Addr):Tg:=fun x=>if x∈Z then [0] else τ x
theorem yK {τ:Tg} {Z:List Addr} {x:Addr} (h:x∈Z):Qm τ Z x=[0]:=if_pos h
theorem sJ {τ:Tg} {Z:List Addr} {x:Addr} (h:x∉Z):Qm τ Z x=τ x:=if_neg h
section
variable {Q:VK} {D:Addr} {H1:Hp} {rest:St} {te:TE} {hs:List aO} {g:aO->List Int}
theorem wj (hD:H1 D=none) (hn:hs.length<=100)
 (Wu:∀(n:Nat) (s:aO) (Hc:Hp) (F:VK),hs[n]? = some s->Same H1 Hc->(∀l H',Hc l=none->H' l=some (.lst ((g s).map V.int))->Same Hc H'->F (.ref l) H')->te (some (.int (0+(n:Int)))::rest) Hc F)
 (k:∀(ls:List Addr) H,H D=some (.lst (ls.map V.ref))->Ll H ls (hs.map g)->(∀l∈ls,H1 l=none/\l≠D)->Same H1 H->Q (.ref D) H):jF (Oz 0 hs.length) (bV 0) oJ te Q D (none::rest) H1:=by
 refine lD (lo:=0) (n:=hs.length) (fun i σ Hc=>∃(v:Option V) (ls:List Addr),σ=v::rest/\Same H1 Hc/\Hc D=some (.lst (ls.map V.ref))/\Ll Hc ls ((hs.take i).map g) /\ ∀l∈ls,H1 l=none/\l≠D) ⟨none,[],rfl,aF hD,ao,Ll.nil,fun l hl=>by simp at hl⟩ ?_ ?_
 ·rintro i σ Hc hi ⟨v,ls,rfl,sc,eD,hl,hnew⟩
  have es:hs[i]? = some hs[i]:=List.getElem?_eq_getElem hi;generalize hs[i]=s at es;dsimp only [bV,oJ];rw [if_pos rfl];refine Wu i s Hc _ es sc (fun l H' fl el s'=> ?_);have eD':=s' _ _ eD;have nlD:l≠D:=aC eD fl |>.symm;have ll:ls.length<=100:=by have:=hl.1;rw [List.length_map,List.length_take] at this;omega
  refine ⟨_,eD',by rw [List.length_map,sizeLine_eq];omega,_,ls++[l],rfl,(sc.trans s').newly hD,by rw [ao,List.map_append];rfl, ?_,fun x hx=> ?_⟩
  ·rw [List.take_add_one,es,List.map_append]
   refine Ll.snoc (hl.keep fun x hx o e=> ?_) ?_
   ·rw [aD (hnew x hx).2];exact s' _ _ e
   ·rw [aD nlD];exact el
  ·rcases List.mem_append.mp hx with hx|hx
   ·exact hnew x hx
   ·rw [List.mem_singleton.mp hx];exact ⟨sc.free fl,nlD⟩
 ·rintro σ Hc ⟨v,ls,rfl,sc,eD,hl,hnew⟩
  rw [List.take_length] at hl;exact k ls Hc eD hl hnew sc
end
def Bm (CW CH:Addr) (K:PySem.W.Frag):Sp:=fun vs H Q _=>∃(i j:Nat) (τ:Tg) (W:oE) (S:ji) (L:vG) (cs:List Nat) (rws:List (List Rw)) (m:Nat) (a:Addr) (b:Bool) (fs:List (Addr×Addr×Addr)),vs=[.ref W.o,.ref L.st,.ref a,.bl b]/\jB CW CH i j τ H W S L cs rws m/\m<=100/\S.ts.length<=300/\i≠43/\j≠43/\CV τ H a fs/\fs.length<=300 /\
 ∀(τ':Tg) (fs':List (Addr×Addr×Addr)) (H':Hp),CV τ' H' a fs'->fs'.length<=fs.length+1->lW 43 τ H H'->j8 τ' H'->(∀x u,H x=some u->τ' x=τ x)->Q (.bl true) H'
theorem Mz {ak au aX:Addr} {f:Addr} {fd:FuncData} (F:fj K "_law_look" "_law_look" xK f fd) (d_:FnAt P w K mg base 5 "_law_alike" ["found","due"] (kj 4 K)) (gj:MethAt P w K mg base 1 ak "cells" ["self"] (pP ak au K)) (gn:MethAt P w K mg base 4 ak "boxes" ["self","hand"] (fun vs H Q _=>jG aO.bs ak au aX K vs H Q fun _ _ _=>False)) (gM:MethAt P w K mg base 4 ak "said" ["self","hand"] (fun vs H Q _=>jG aO.sy ak au aX K vs H Q fun _ _ _=>False)) (iD:MethAt P w K mg base 4 ak "how" ["self","hand"] (fun vs H Q _=>zB ak au aX K vs H Q fun _ _ _=>False)) (fH:MethAt P w K mg base 1 ak "counts" ["self"] (mK ak au K)) (iW:MethAt P w K mg base 1 ak "__len__" ["self"] (wO ak au K)) (aK:cM K ak) (Bt:mC mg):bU P w K mg base gF 6 f fd ["one","state","held","spoils"] (Bm ak au K):=by
 refine F.ok jj (fun vs H Q E h=> ?_) (fun cdv A outer s H vs Q E hr h=> ?_)
 ·obtain ⟨i,j,τ,W,S,L,cs,rws,m,a,b,fs,rfl,_⟩:=h
  rfl
 ·obtain ⟨i,j,τ,W,S,L,cs,rws,m,a,b,fs,rfl,y0,m1,tl,ni,nj,h0,fl,k⟩:=h
  refine ⟨_,(aB (aW (i:=4) jj.nd rfl (Or.inl rfl) (aJ (aH (K:=K) rfl) (pv 1) aA (fun _ _=>rfl)))
   (aB (aW (i:=5) jj.nd rfl (Or.inl rfl) (bQ qN (cC (aj (cY gj aK.cls (hr.mono (by decide)) (pv 0)) (aj (cY fH aK.cls (hr.mono (by decide)) (pv 0)) aq))) (cI rfl (N:=["k","one"]) (own:=["k"]) (caps:=[0]) (bh.of (by kernel_rfl)) (dj (by rfl) Bt.fL (aj (bf (bC (K:=K) rfl) (by rfl) Bt.dU cU (aj (pv 4) aq)) aq)) (fun _ _ _ _=>(bI (i:=0) (show List.Nodup (["k","one"]:List Str) by decide +kernel) rfl (Or.inl rfl))) (fun _ _ _ _=>cB) (fun _ _ _ _=>(cO gM aK.cls (hr.mono (by decide)) (pv 1) (aj (pv 0) aq))))))
   (aB (aW (i:=5) jj.nd rfl (Or.inl rfl) (bQ qN (pv 5) (cI rfl (N:=["k","one"]) (own:=["k"]) (caps:=[0]) (bh.of (by kernel_rfl)) (dj (by rfl) Bt.fL (aj (bf (bC (K:=K) rfl) (by rfl) Bt.dU cU (aj (pv 4) aq)) aq)) (fun _ _ _ _=>(bI (i:=0) (show List.Nodup (["k","one"]:List Str) by decide +kernel) rfl (Or.inl rfl))) (fun _ _ _ _=>cB) (fun _ _ _ _=>(cO gn aK.cls (hr.mono (by decide)) (pv 1) (aj (pv 0) aq))))))
   (aB (aW (i:=6) jj.nd rfl (Or.inl rfl) (bQ qN (cC (aj (aJ (aH (K:=K) rfl) (pv 1) aA (fun _ _=>rfl)) (aj (cI rfl (N:=["hand"]) (own:=["hand"]) (caps:=[]) (bh.of (by kernel_rfl)) (cj (K:=K) rfl (pv 4)) (fun _ _ _ _=>(bI (i:=0) (show List.Nodup (["hand"]:List Str) by decide +kernel) rfl (Or.inl rfl))) (fun _ _ _ _=>cB) (fun _ _ _ _=>(aJ (aH (K:=K) rfl) (pv 0) aA (fun _ _=>rfl)))) aq))) (cI rfl (N:=["hand"]) (own:=["hand"]) (caps:=[]) (bh.of (by kernel_rfl)) (cj (K:=K) rfl (pv 4)) (fun _ _ _ _=>(bI (i:=0) (show List.Nodup (["hand"]:List Str) by decide +kernel) rfl (Or.inl rfl))) (fun _ _ _ _=>cB) (fun _ _ _ _=>(aJ (aH (K:=K) rfl) (pv 0) aA (fun _ _=>rfl))))))
   (aB (aW (i:=6) jj.nd rfl (Or.inl rfl) (bQ qN (pv 6) (cI rfl (N:=["hand"]) (own:=["hand"]) (caps:=[]) (bh.of (by kernel_rfl)) (cj (K:=K) rfl (pv 4)) (fun _ _ _ _=>(bI (i:=0) (show List.Nodup (["hand"]:List Str) by decide +kernel) rfl (Or.inl rfl))) (fun _ _ _ _=>cB) (fun _ _ _ _=>(aJ (aH (K:=K) rfl) (pv 0) aA (fun _ _=>rfl))))))
   (aB (bL (PW.pt (lN (fD (dR (bF d_ (hr.mono (by decide)) (by rfl) (aj (pv 5) (aj (pv 6) aq))))) (iM (aQ lQ (bf (wB iW (hr.mono (by decide))) (by rfl) Bt.dU cU (aj (pv 0) aq)) (bf (wu (K:=K) rfl rfl) (by rfl) Bt.Qo Ko (aj (cI rfl (N:=["hand"]) (own:=["hand"]) (caps:=[]) (bh.of (by kernel_rfl)) (cj (K:=K) rfl (pv 4)) (fun _ _ _ _=>(bI (i:=0) (show List.Nodup (["hand"]:List Str) by decide +kernel) rfl (Or.inl rfl))) (fun _ _ _ _=>cB) (fun _ _ _ _=>(aJ (aH (K:=K) rfl) (pv 0) aA (fun _ _=>rfl)))) aq)) (aR _))))) (aG (aV gH)) bw)
   (aB (bL (fD (dR (bF d_ (hr.mono (by decide)) (by rfl) (aj (cI rfl (N:=["k","one"]) (own:=["k"]) (caps:=[0]) (bh.of (by kernel_rfl)) (dj (by rfl) Bt.fL (aj (bf (bC (K:=K) rfl) (by rfl) Bt.dU cU (aj (pv 4) aq)) aq)) (fun _ _ _ _=>(bI (i:=0) (show List.Nodup (["k","one"]:List Str) by decide +kernel) rfl (Or.inl rfl))) (fun _ _ _ _=>cB) (fun _ _ _ _=>(cO iD aK.cls (hr.mono (by decide)) (pv 1) (aj (pv 0) aq)))) (aj (cI rfl (N:=["hand"]) (own:=["hand"]) (caps:=[]) (bh.of (by kernel_rfl)) (cj (K:=K) rfl (pv 4)) (fun _ _ _ _=>(bI (i:=0) (show List.Nodup (["hand"]:List Str) by decide +kernel) rfl (Or.inl rfl))) (fun _ _ _ _=>cB) (fun _ _ _ _=>(aJ (aH (K:=K) rfl) (pv 0) aA (fun _ _=>rfl)))) aq))))) (aG (aV gH)) bw)
   (aB (bL (dR (pv 3)) (aG (jO PassesOwn.never rfl (cj (K:=K) rfl (pv 5)) (bI (i:=7) jj.nd rfl (Or.inl rfl))
   (aG (cH (dz (K:=K) rfl (pv 7) (aj aA aq)))))) (aG (cH (dz (K:=K) rfl (pv 2) (aj (cZ (aj (pv 5) (aj (cI rfl (N:=["some"]) (own:=["some"]) (caps:=[]) (bh.of (by kernel_rfl)) (cj (K:=K) rfl (pv 5)) (fun _ _ _ _=>(bI (i:=0) (show List.Nodup (["some"]:List Str) by decide +kernel) rfl (Or.inl rfl))) (fun _ _ _ _=>cB) (fun _ _ _ _=>(bT (bG (K:=K) rfl) (by rfl) Bt.dg cN (aj (pv 0) aq)))) aq))) aq)))))
   (aG (aV gH)))))))))), ?_⟩
  have nl:=y0.w.nl;have hn:=y0.w.hn;have em:=y0.em;have lcs:cs.length<=100:=by rw [y0.c.lc];exact hn
  have llen:(L.hd.map fun a=>V.ref a.h).length=S.hs.length:=by rw [List.length_map,y0.l.len]
  have w:=y0.w;have l:=y0.l
  have one:∀(n:Nat) (s':aO) (k':Nat) (t:aO),S.hs[n]? = some s'->(0:Int)+(n:Int)=k'->S.hs[k']? = some t->t=s':=fun n s' k' t es e1 e2=>by
   have:k'=n:=by omega
   subst this;rw [es] at e2;exact (Option.some.inj e2).symm
  have inn:∀(n:Nat) (s':aO),S.hs[n]? = some s'->vh ((0:Int)+(n:Int)) S.hs.length:=fun n s' es=>⟨by omega,by have:=(List.getElem?_eq_some_iff.mp es).1;omega⟩;refine ⟨_,rfl,_,_,_,_,rfl,rfl,aY.of l.st,rfl, ?_⟩;dsimp only [bV];refine ⟨_,rfl,W.o,W.dx,_,rfl,w.o,rfl,i,τ,W,S,rfl,w,fun l1 H1 f1 e1 s1=> ?_⟩;have w1:=w.same s1;refine ⟨_,rfl,W.o,W.dx,_,rfl,w1.o,rfl,i,τ,W,S,rfl,w1,fun l2 H2 f2 e2 s2=>⟨(by show 2<=sizeLine;decide),fun t1 ht1=> ?_⟩⟩;rw [y0.c.cnt] at e2;have st1:=aF (o:=HO.lst [V.ref l1,V.ref l2]) ht1;have et1:(upd H2 t1 (.lst [V.ref l1,V.ref l2])) t1=some (.lst [V.ref l1,V.ref l2]):=ao;have QT:=(s1.trans s2).trans st1;have e13:=st1 _ _ (s2 _ _ e1);have e23:=st1 _ _ e2;have ft1:H t1=none:=(s1.trans s2).free ht1;generalize (upd H2 t1 (.lst [V.ref l1,V.ref l2]))=H3 at et1 QT e13 e23 ⊢;refine ⟨_,rfl,L.hl,_,rfl,.inl (aY.of (QT _ _ l.hl)),_,rfl,by rw [llen];omega,by rw [llen];omega,fun D1 hD1=> ?_⟩;rw [llen,Int.toNat_natCast];refine wj (g:=aO.sy) hD1 hn (fun n s' Hc F es sc kF=> ?_) (fun Aa H4 eD1 ly hny Yh=> ?_)
  ·have wc:=(w.same QT).same sc
   refine ⟨_,rfl,W.o,W.dx,_,rfl,wc.o,rfl,_,rfl,i,τ,W,S,_,rfl,wc,fun k' t l6 H6 e1 e2 f6 e6 s6=> ?_,fun z=>absurd (inn n s' es) z⟩;rw [one n s' k' t es e1 e2] at e6;exact kF l6 H6 f6 e6 s6
  refine ⟨t1,D1,_,_,rfl,rfl,Yh _ _ et1,eD1,by have:=ly.1;rw [List.length_map] at this;rw [List.length_map,sizeLine_eq];simp;omega,fun t2 ht2=> ?_⟩;have st2:=aF (o:=HO.lst ([V.ref l1,V.ref l2]++Aa.map V.ref)) ht2;have et2:(upd H4 t2 (.lst ([V.ref l1,V.ref l2]++Aa.map V.ref))) t2=some (.lst ((l1::l2::Aa).map V.ref)):=ao;have Yg:=Yh.trans st2;have KQ:=QT.trans Yg;have lA:Ll (upd H4 t2 (.lst ([V.ref l1,V.ref l2]++Aa.map V.ref))) (l1::l2::Aa) (S.ns::(cs.map fun g:Nat=>(g:Int))::S.hs.map aO.sy):=Ll.cons (Yg _ _ e13) (Ll.cons (Yg _ _ e23) (ly.same st2));have ft2:H t2=none:=(QT.trans Yh).free ht2;generalize (upd H4 t2 (.lst ([V.ref l1,V.ref l2]++Aa.map V.ref)))=H5 at et2 KQ lA ⊢
  have nA:∀x∈l1::l2::Aa,H x=none:=fun x hx=>by
   rcases List.mem_cons.mp hx with rfl|hx
   ·exact f1
   ·rcases List.mem_cons.mp hx with rfl|hx
    ·exact s1.free f2
    ·exact QT.free (hny x hx).1
  clear e13 e23 et1 eD1 ly st2 Yg Yh hny e1 e2 s1 s2 st1 ht1 w1;dsimp only [bV];refine ⟨_,rfl,_,rfl,L.hl,_,rfl,.inl (aY.of (KQ _ _ l.hl)),_,rfl,by rw [llen];omega,by rw [llen];omega,fun D2 hD2=> ?_⟩;rw [llen,Int.toNat_natCast];refine wj (g:=aO.bs) hD2 hn (fun n s' Hc F es sc kF=> ?_) (fun K1 H6 eD2 lb hnb Um=> ?_)
  ·have wc:=(w.same KQ).same sc
   refine ⟨_,rfl,W.o,W.dx,_,rfl,wc.o,rfl,_,rfl,i,τ,W,S,_,rfl,wc,fun k' t l6 H6 e1 e2 f6 e6 s6=> ?_,fun z=>absurd (inn n s' es) z⟩;rw [one n s' k' t es e1 e2] at e6;exact kF l6 H6 f6 e6 s6
  have lAl:=lA.1;have lbl:=lb.1;rw [List.length_map] at lbl;simp only [List.length_cons,List.length_map] at lAl;refine ⟨t2,D2,_,_,rfl,rfl,Um _ _ et2,eD2,by rw [List.length_map,List.length_map,List.length_cons,List.length_cons,sizeLine_eq];omega,fun T hT=> ?_⟩;have sT:=aF (o:=HO.lst ((l1::l2::Aa).map V.ref++K1.map V.ref)) hT;have eT:(upd H6 T (.lst ((l1::l2::Aa).map V.ref++K1.map V.ref))) T=some (.lst ((l1::l2::Aa++K1).map V.ref)):=by rw [ao,←List.map_append]
  have lT:Ll (upd H6 T (.lst ((l1::l2::Aa).map V.ref++K1.map V.ref))) (l1::l2::Aa++K1) ((S.ns::(cs.map fun g:Nat=>(g:Int))::S.hs.map aO.sy)++S.hs.map aO.bs):=(lA.same (Um.trans sT)).append (lb.same sT);have VF:=KQ.trans (Um.trans sT);have fT:H T=none:=(KQ.trans Um).free hT
  have nT:∀x∈l1::l2::Aa++K1,H x=none:=fun x hx=>by
   rcases List.mem_append.mp hx with hx|hx
   ·exact nA x hx
   ·exact KQ.free (hnb x hx).1
  have neT:∀x∈l1::l2::Aa++K1,x≠T:=fun x hx z=>by
   rw [z] at hx;rcases List.mem_append.mp hx with hx|hx
   ·obtain ⟨x',_,e⟩:=lA.mem hx
    rw [Um _ _ e] at hT;cases hT
   ·obtain ⟨x',_,e⟩:=lb.mem hx
    rw [e] at hT;cases hT
  have Xl:((S.ns::(cs.map fun g:Nat=>(g:Int))::S.hs.map aO.sy)++S.hs.map aO.bs).length<=300:=by
   rw [List.length_append,List.length_cons,List.length_cons,List.length_map,List.length_map];omega
  have Xb:∀x∈(S.ns::(cs.map fun g:Nat=>(g:Int))::S.hs.map aO.sy)++S.hs.map aO.bs,x.length<=19000:=fun x hx=>by
   rcases List.mem_append.mp hx with hx|hx
   ·rcases List.mem_cons.mp hx with rfl|hx
    ·omega
    ·rcases List.mem_cons.mp hx with rfl|hx
     ·rw [List.length_map];omega
     ·obtain ⟨s',hs',rfl⟩:=List.mem_map.mp hx
      have:=w.sl s' hs';omega
   ·obtain ⟨s',hs',rfl⟩:=List.mem_map.mp hx
    obtain ⟨n,hn',e⟩:=List.getElem_of_mem hs';obtain ⟨A',c',eA,Oc,a'⟩:=l.hand (s:=s') (k:=n) (by rw [List.getElem?_eq_getElem hn',e]);rw [a'.q.bl];decide
  have lsl:(l1::l2::Aa++K1).length=((S.ns::(cs.map fun g:Nat=>(g:Int))::S.hs.map aO.sy)++S.hs.map aO.bs).length:=lT.1;generalize (upd H6 T (.lst ((l1::l2::Aa).map V.ref++K1.map V.ref)))=H7 at eT lT VF ⊢;generalize l1::l2::Aa++K1=vY at eT lT nT neT lsl;clear lA lb nA hnb et2 eD2 hD2 sT Um hT KQ QT f1 f2 ft1 ft2 ht2 hD1;dsimp only [bV];refine ⟨_,rfl,_,_,_,_,rfl,rfl,aY.of (VF _ _ l.st),rfl, ?_⟩;refine ⟨_,rfl,L.hl,rfl,⟨_,aY.of (VF _ _ l.hl)⟩,fun D3 WX=> ?_⟩;have l7:=l.same VF;refine fX (K:=K) (fun i=>(cs[i]?).map fun c:Nat=>V.int c) WX (aY.of l7.hl) (by rw [llen];omega) (fun i' v H4 G F hi s4 kG kF=> ?_) (fun H8 s8 e8=> ?_)
  ·obtain ⟨A',s',c',rfl,Oc,q'⟩:=l7.cnt i' v hi
   exact ⟨_,rfl,_,_,_,_,rfl,rfl,aY.of (s4 _ _ q'.h),rfl,kF _ H4 (Same.refl _) (by rw [Oc];rfl)⟩
  rw [llen,←y0.c.lc,jd] at e8;have e8':H8 D3=some (.lst ((cs.map fun g:Nat=>(g:Int)).map V.int)):=by rw [e8,List.map_map];rfl
  refine ⟨(by show 2<=sizeLine;decide),fun t3 ht3=> ?_⟩;have st3:=aF (o:=HO.lst [V.ref L.nb,V.ref D3]) ht3;have et3:(upd H8 t3 (.lst [V.ref L.nb,V.ref D3])) t3=some (.lst [V.ref L.nb,V.ref D3]):=ao;have Yn:=VF.trans (s8.trans st3);have Zo:=s8.trans st3;have e39:=st3 _ _ e8';generalize (upd H8 t3 (.lst [V.ref L.nb,V.ref D3]))=H9 at et3 Yn Zo e39 ⊢;clear e8 e8' s8 st3 ht3 WX;have l9:=l.same Yn;have hdl:L.hd.length=S.hs.length:=l.len
  have pick:∀(g:vf->Addr) (H':Hp) (D:Addr),H' D=some (.lst ((List.range (L.hd.map fun a=>V.ref a.h).length).filterMap fun i=>(L.hd[i]?).map fun A=>V.ref (g A)))->H' D=some (.lst ((L.hd.map g).map V.ref)):=fun g H' D e=>by
   rw [List.length_map,jd] at e;rw [e,List.map_map];rfl
  refine ⟨_,rfl,L.hl,rfl,⟨_,aY.of l9.hl⟩,fun D4 hD4=> ?_⟩;refine fX (K:=K) (fun i=>(L.hd[i]?).map fun A=>V.ref A.sy) hD4 (aY.of l9.hl) (by rw [llen];omega) (fun i' v Hc G F hi sc kG kF=> ?_) (fun Ha sa ea=> ?_)
  ·rw [List.getElem?_map] at hi
   obtain ⟨A',eA,rfl⟩:∃A',L.hd[i']? = some A'/\v = .ref A'.h:=by
    cases e:L.hd[i']? with
    | none=>rw [e] at hi;cases hi
    | some A'=>rw [e] at hi;exact ⟨A',rfl,(Option.some.inj hi).symm⟩
   have il:=(List.getElem?_eq_some_iff.mp eA).1;obtain ⟨s',es⟩:∃s',S.hs[i']? = some s':=⟨_,List.getElem?_eq_getElem (by omega)⟩;obtain ⟨c',ec⟩:∃c',cs[i']? = some c':=⟨_,List.getElem?_eq_getElem (by rw [l.lc];omega)⟩;have q:=(l9.hd i' A' s' c' eA es ec).q.same sc;exact ⟨_,rfl,_,_,_,_,rfl,rfl,aY.of q.h,rfl,kF _ Hc (Same.refl _) (by rw [eA];rfl)⟩
  have ea:=pick (fun A=>A.sy) _ _ ea;refine ⟨t3,D4,_,_,rfl,rfl,sa _ _ et3,ea,by rw [List.length_map,List.length_map,sizeLine_eq];simp;omega,fun t4 ht4=> ?_⟩;have Fx:=aF (o:=HO.lst ([V.ref L.nb,V.ref D3]++(L.hd.map fun A=>A.sy).map V.ref)) ht4;have et4:(upd Ha t4 (.lst ([V.ref L.nb,V.ref D3]++(L.hd.map fun A=>A.sy).map V.ref))) t4=some (.lst ((L.nb::D3::L.hd.map fun A=>A.sy).map V.ref)):=ao;have Vy:=sa.trans Fx;have Ym:=Yn.trans Vy;generalize (upd Ha t4 (.lst ([V.ref L.nb,V.ref D3]++(L.hd.map fun A=>A.sy).map V.ref)))=Hb at et4 Vy Ym ⊢;clear ea sa Fx ht4 hD4 et3;have lb:=l.same Ym;dsimp only [bV];refine ⟨_,rfl,_,rfl,L.hl,rfl,⟨_,aY.of lb.hl⟩,fun D5 hD5=> ?_⟩;refine fX (K:=K) (fun i=>(L.hd[i]?).map fun A=>V.ref A.b) hD5 (aY.of lb.hl) (by rw [llen];omega) (fun i' v Hc G F hi sc kG kF=> ?_) (fun Hd sd ed=> ?_)
  ·rw [List.getElem?_map] at hi
   obtain ⟨A',eA,rfl⟩:∃A',L.hd[i']? = some A'/\v = .ref A'.h:=by
    cases e:L.hd[i']? with
    | none=>rw [e] at hi;cases hi
    | some A'=>rw [e] at hi;exact ⟨A',rfl,(Option.some.inj hi).symm⟩
   have il:=(List.getElem?_eq_some_iff.mp eA).1;obtain ⟨s',es⟩:∃s',S.hs[i']? = some s':=⟨_,List.getElem?_eq_getElem (by omega)⟩;obtain ⟨c',ec⟩:∃c',cs[i']? = some c':=⟨_,List.getElem?_eq_getElem (by rw [l.lc];omega)⟩;have q:=(lb.hd i' A' s' c' eA es ec).q.same sc;exact ⟨_,rfl,_,_,_,_,rfl,rfl,aY.of q.h,rfl,kF _ Hc (Same.refl _) (by rw [eA];rfl)⟩
  have ed:=pick (fun A=>A.b) _ _ ed;refine ⟨t4,D5,_,_,rfl,rfl,sd _ _ et4,ed,by rw [List.length_map,List.length_map,List.length_cons,List.length_cons,List.length_map,List.length_map,sizeLine_eq];omega,fun U hU=> ?_⟩;have sU:=aF (o:=HO.lst ((L.nb::D3::L.hd.map fun A=>A.sy).map V.ref++(L.hd.map fun A=>A.b).map V.ref)) hU;have eU:(upd Hd U (.lst ((L.nb::D3::L.hd.map fun A=>A.sy).map V.ref++(L.hd.map fun A=>A.b).map V.ref))) U=some (.lst (((L.nb::D3::L.hd.map fun A=>A.sy)++L.hd.map fun A=>A.b).map V.ref)):=by rw [ao,←List.map_append]
  have Yc:=sd.trans sU;have Yl:=Ym.trans Yc;have Vz:=(Zo.trans Vy).trans Yc;have e3e:=(Vy.trans Yc) _ _ e39;generalize (upd Hd U (.lst ((L.nb::D3::L.hd.map fun A=>A.sy).map V.ref++(L.hd.map fun A=>A.b).map V.ref)))=He at eU Yl Vz e3e ⊢;clear ed sd sU hU hD5 et4 Yc Ym Vy Zo Yn e39 lb l9 l7;have le:=l.same Yl
  have lhs:∀(g:vf->Addr) (f:aO->List Int),(∀A s' c',oG He A s' c'->He (g A)=some (.lst ((f s').map V.int)))->Ll He (L.hd.map g) (S.hs.map f):=fun g f hg=>⟨by rw [List.length_map,List.length_map,hdl],fun n a' x h1 h2=>by
   rw [List.getElem?_map] at h1 h2
   obtain ⟨A',eA,rfl⟩:∃A',L.hd[n]? = some A'/\a'=g A':=by
    cases e:L.hd[n]? with
    | none=>rw [e] at h1;cases h1
    | some A'=>rw [e] at h1;exact ⟨A',rfl,(Option.some.inj h1).symm⟩
   obtain ⟨s',es,rfl⟩:∃s',S.hs[n]? = some s'/\x=f s':=by
    cases e:S.hs[n]? with
    | none=>rw [e] at h2;cases h2
    | some s'=>rw [e] at h2;exact ⟨s',rfl,(Option.some.inj h2).symm⟩
   have il:=(List.getElem?_eq_some_iff.mp eA).1;obtain ⟨c',ec⟩:∃c',cs[n]? = some c':=⟨_,List.getElem?_eq_getElem (by rw [l.lc];omega)⟩;exact hg _ _ _ (le.hd n A' s' c' eA es ec).q⟩
  have lU:Ll He ((L.nb::D3::L.hd.map fun A=>A.sy)++L.hd.map fun A=>A.b) ((S.ns::(cs.map fun g:Nat=>(g:Int))::S.hs.map aO.sy)++S.hs.map aO.bs):=(Ll.cons le.nb (Ll.cons e3e (lhs _ _ fun A s' c' q=>q.y))).append (lhs _ _ fun A s' c' q=>q.b);have lTe:=lT.same Vz;have eTe:=Vz _ _ eT;dsimp only [bV];refine ⟨_,rfl,_,rfl,_,_,_,rfl,lTe.dat eTe,lU.dat eU,Q_ (by omega) (fun x hx=>by have:=Xb x hx;omega),fun Hf sf=>⟨_,rfl, ?_⟩⟩;refine cD ?_;have Yk:=Yl.trans sf;have wf:=w.same Yk;have lf:=l.same Yk;refine ⟨_,rfl,W.o,W.dx,_,rfl,wf.o,i,τ,W,S,rfl,wf,_,rfl,by omega,by omega, ?_⟩;refine ⟨_,rfl,L.hl,rfl,⟨_,aY.of lf.hl⟩,fun D6 hD6=> ?_⟩;refine fX (K:=K) (fun i=>(cs[i]?).map fun c:Nat=>V.int c) hD6 (aY.of lf.hl) (by rw [llen];omega) (fun i' v H4 G F hi s4 kG kF=> ?_) (fun Hg sg eg=> ?_)
  ·obtain ⟨A',s',c',rfl,Oc,q'⟩:=lf.cnt i' v hi
   exact ⟨_,rfl,_,_,_,_,rfl,rfl,aY.of (s4 _ _ q'.h),rfl,kF _ H4 (Same.refl _) (by rw [Oc];rfl)⟩
  rw [llen,←y0.c.lc,jd] at eg;have eg':Hg D6=some (.lst ((cs.map fun g:Nat=>(g:Int)).map V.int)):=by rw [eg,List.map_map];rfl
  refine ⟨D6,_,rfl,aY.of eg',rfl,_,rfl, ?_⟩;rw [QL,←y0.c.tl,decide_eq_true rfl];refine cD ?_;have Yj:=Yk.trans sg;have s7g:=(Vz.trans sf).trans sg;clear eg eg' sg hD6 wf lf sf eU lU e3e le lhs lTe eTe Yl Vz Yk;have lg:=l.same Yj;unfold zA;dsimp only;refine ⟨_,rfl,L.hl,_,rfl,.inl (aY.of lg.hl),_,rfl,by rw [llen];omega,by rw [llen];omega,fun D7 hD7=> ?_⟩;rw [llen,Int.toNat_natCast];refine j5 (fun n:Nat=>(S.hs[n]?).map fun s'=>V.str s'.st) hD7 (by omega) (fun n Hc G F hn' sc kG kF=> ?_) (fun Hh sh eh=> ?_)
  ·obtain ⟨s',es⟩:∃s',S.hs[n]? = some s':=⟨_,List.getElem?_eq_getElem hn'⟩
   have wc:=(w.same Yj).same sc;refine ⟨_,rfl,W.o,W.dx,_,rfl,wc.o,rfl,_,rfl,i,τ,W,S,_,rfl,wc,fun k' t e1 e2=> ?_,fun z=>absurd (inn n s' es) z⟩;rw [one n s' k' t es e1 e2];exact kF _ Hc (Same.refl _) (by rw [es];rfl)
  rw [jd] at eh;have Zw:=Yj.trans sh;have lh:=l.same Zw;refine ⟨_,rfl,L.hl,rfl,⟨_,aY.of lh.hl⟩,fun D8 YD=> ?_⟩;refine fX (K:=K) (fun n:Nat=>(S.hs[n]?).map fun s'=>V.str s'.st) YD (aY.of lh.hl) (by rw [llen];omega) (fun i' v H4 G F hi s4 kG kF=> ?_) (fun Hi si ei=> ?_)
  ·rw [List.getElem?_map] at hi
   obtain ⟨A',eA,rfl⟩:∃A',L.hd[i']? = some A'/\v = .ref A'.h:=by
    cases e:L.hd[i']? with
    | none=>rw [e] at hi;cases hi
    | some A'=>rw [e] at hi;exact ⟨A',rfl,(Option.some.inj hi).symm⟩
   have il:=(List.getElem?_eq_some_iff.mp eA).1;obtain ⟨s',es⟩:∃s',S.hs[i']? = some s':=⟨_,List.getElem?_eq_getElem (by omega)⟩;obtain ⟨c',ec⟩:∃c',cs[i']? = some c':=⟨_,List.getElem?_eq_getElem (by rw [l.lc];omega)⟩;have q:=(lh.hd i' A' s' c' eA es ec).q.same s4;exact ⟨_,rfl,_,_,_,_,rfl,rfl,aY.of q.h,rfl,kF _ H4 (Same.refl _) (by rw [es];rfl)⟩
  rw [llen,jd] at ei
  have dst:∀(H':Hp) (D:Addr),H' D=some (.lst (S.hs.map fun s'=>V.str s'.st))->Dat H' (.ref D) (.list (S.hs.map fun s'=>PyData.str s'.st)):=fun H' D e=>by
   refine jy e ?_;clear e
   induction S.hs with
   | nil=>exact trivial
   | cons x xs ih=>
     simp only [List.map_cons,bH];exact ⟨by simp only [Dat],ih⟩
  refine ⟨_,_,_,rfl,dst _ _ (si _ _ eh),dst _ _ ei,⟨by rw [List.length_map];omega,fun d hd=>by obtain ⟨x,_,rfl⟩:=List.mem_map.mp hd;trivial⟩,fun Hj sj=>⟨_,rfl,cD ?_⟩⟩;have Uo:=(Zw.trans si).trans sj;have s7j:=((s7g.trans sh).trans si).trans sj;have Wq:=lT.same s7j;have U5:=s7j _ _ eT;have unj:=w.un.same Uo;have h0j:=h0.mv (Mv.of_same (i:=43) Uo);clear lh lg ei eh si sh YD hD7 Yj s7g Zw sj dst;dsimp only;refine ⟨_,rfl,b,rfl, ?_⟩;generalize ((S.ns::(cs.map fun g:Nat=>(g:Int))::S.hs.map aO.sy)++S.hs.map aO.bs)=X at Xl Xb lT Wq lsl;cases b with
  | true=>
    refine dM ?_;refine ⟨_,rfl,T,rfl,⟨_,aY.of U5⟩, ?_⟩;refine m7 (K:=K) (a:=T) (xs:=vY.map V.ref) (fun n σ Hc=>(∃x7:Option V,σ=[some (.ref W.o),some (.ref L.st),some (.ref a),some (.bl true),some (.ref L.hl),some (.ref T),some (.ref U),x7])/\Same H Hc/\Hc T=some (.lst (vY.map V.ref)) /\ ∀l∈vY,∃xs:List V,Hc l=some (.lst xs)/\xs.length<=19000+n) ⟨⟨_,rfl⟩,Uo,U5,fun l hl=> ?_⟩ (fun n σ Hc _ ⟨_,_,e,_⟩=>aY.of e) ?_ ?_
    ·obtain ⟨x,hx,e⟩:=Wq.mem hl
     exact ⟨_,e,by rw [List.length_map];have:=Xb x hx;omega⟩
    ·rintro n x σ Hc hi ⟨⟨x7,rfl⟩,sc,eTc,hls⟩
     rw [List.getElem?_map] at hi
     obtain ⟨l',el,rfl⟩:∃l',vY[n]? = some l'/\x = .ref l':=by
      cases e:vY[n]? with
      | none=>rw [e] at hi;cases hi
      | some l'=>rw [e] at hi;exact ⟨l',rfl,(Option.some.inj hi).symm⟩
     have ml:=List.mem_of_getElem? el;have il:=(List.getElem?_eq_some_iff.mp el).1;obtain ⟨xs,ex,xl⟩:=hls l' ml;refine ⟨_,rfl,.inl ⟨rfl,_,aY.of ex⟩,l',xs,_,rfl,rfl,ex,by rw [sizeLine_eq];omega, ?_⟩;refine ⟨⟨_,rfl⟩,sc.newly (nT l' ml),by rw [aD (neT l' ml).symm];exact eTc,fun l2 h2=> ?_⟩
     by_cases z:l2=l'
     ·rw [z,ao];exact ⟨_,rfl,by simp;omega⟩
     ·obtain ⟨ys,ey,yl⟩:=hls l2 h2
      rw [aD z];exact ⟨ys,ey,by omega⟩
    ·rintro σ Hc ⟨⟨x7,rfl⟩,sc,eTc,hls⟩
     exact k τ fs Hc (h0.mv (Mv.of_same sc)) (by omega) (.of_same sc) (w.un.same sc) fun _ _ _=>rfl
  | false=>
    refine cD ?_;refine ⟨_,rfl,.inl ⟨rfl,_,aY.of h0j.ea⟩,_,rfl,_,rfl,T,rfl,⟨_,aY.of U5⟩,fun D hD=> ?_⟩;refine eE (K:=K) (xs:=vY.map V.ref) (fun n σ Hc=>∃(v:Option V) (yr:List Addr),σ=[v]/\Same Hj Hc/\Hc D=some (.lst (yr.map V.ref))/\Ll Hc yr (X.take n) /\ ∀l∈yr,Hj l=none/\l≠D) ⟨none,[],rfl,aF hD,ao,Ll.nil,fun l hl=>by simp at hl⟩ (fun n σ Hc _ ⟨_,_,_,sc,_⟩=>aY.of (sc _ _ U5)) ?_ ?_
    ·rintro n x σ Hc hi ⟨v,yr,rfl,sc,eD,hl,hnew⟩
     rw [List.getElem?_map] at hi
     obtain ⟨l',el,rfl⟩:∃l',vY[n]? = some l'/\x = .ref l':=by
      cases e:vY[n]? with
      | none=>rw [e] at hi;cases hi
      | some l'=>rw [e] at hi;exact ⟨l',rfl,(Option.some.inj hi).symm⟩
     have il:=(List.getElem?_eq_some_iff.mp el).1;obtain ⟨x,ex⟩:∃x,X[n]? = some x:=⟨_,List.getElem?_eq_getElem (by omega)⟩;have e1:=sc _ _ (Wq.2 n l' x el ex);refine ⟨_,rfl,l',_,rfl,.inl (aY.of e1),fun q hq=> ?_⟩;have sq:=aF (o:=HO.lst (x.map V.int)) hq;have eD':=sq _ _ eD;have P_:q≠D:=(aC eD hq).symm;have ll:yr.length<=300:=by have:=hl.1;rw [List.length_take] at this;omega
     refine ⟨_,eD',by rw [List.length_map,sizeLine_eq];omega,_,yr++[q],rfl,(sc.trans sq).newly hD,by rw [ao,List.map_append];rfl, ?_,fun y hy=> ?_⟩
     ·rw [List.take_add_one,ex]
      refine Ll.snoc (hl.keep fun y hy o e=> ?_) ?_
      ·rw [aD (hnew y hy).2];exact sq _ _ e
      ·rw [aD P_];exact ao
     ·rcases List.mem_append.mp hy with hy|hy
      ·exact hnew y hy
      ·rw [List.mem_singleton.mp hy];exact ⟨sc.free hq,P_⟩
    ·rintro σ Hk ⟨v,yr,rfl,sk,eD,hl,hnew⟩
     rw [List.length_map,lsl,List.take_length] at hl;refine ⟨(by show 2<=sizeLine;decide),fun t ht=> ?_⟩;have st:=aF (o:=HO.tup [V.ref T,V.ref D]) ht;have et:(upd Hk t (.tup [V.ref T,V.ref D])) t=some (.tup [V.ref T,V.ref D]):=ao;have Ul:=sk.trans st;have eDl:=st _ _ eD;have hll:=hl.same st;generalize (upd Hk t (.tup [V.ref T,V.ref D]))=Hl at st et Ul eDl hll ⊢;have VD:=Uo.trans Ul;have ea:=VD _ _ h0.ea;refine ⟨a,_,_,rfl,rfl,ea,by rw [List.length_map,sizeLine_eq];omega, ?_⟩;have stp:lW 43 τ Hl (upd Hl a (.lst ((fs.map fun q=>V.ref q.1)++[V.ref t]))):=lW.set (by rw [h0.ta];rfl) ea (by intro xs z;cases z)
     have nZ:∀x∈T::D::(vY++yr),H x=none /\ ∃o,Hl x=some o:=fun x hx=>by
      rcases List.mem_cons.mp hx with rfl|hx
      ·exact ⟨fT,_,Ul _ _ U5⟩
      ·rcases List.mem_cons.mp hx with rfl|hx
       ·exact ⟨Uo.free hD,_,eDl⟩
       ·rcases List.mem_append.mp hx with hx|hx
        ·obtain ⟨x',_,e⟩:=Wq.mem hx
         exact ⟨nT x hx,_,Ul _ _ e⟩
        ·obtain ⟨x',_,e⟩:=hll.mem hx
         exact ⟨Uo.free (hnew x hx).1,_,e⟩
     have Ph:∀x u,H x=some u->Qm τ (T::D::(vY++yr)) x=τ x:=fun x u e=>sJ fun z=>by rw [(nZ x z).1] at e;cases e
     have aZ:a∉T::D::(vY++yr):=fun z=>by have e:=h0.ea;rw [(nZ a z).1] at e;cases e
     have oh:j8 (Qm τ (T::D::(vY++yr))) (upd Hl a (.lst ((fs.map fun q=>V.ref q.1)++[V.ref t]))):=fun x e=>by
      have e':=stp.dom _ e;rw [sJ fun z=>by obtain ⟨_,o,eo⟩:=nZ x z;rw [eo] at e';cases e'];exact w.un.same VD x e'
     have kl:∀x o,Hl x=some o->x≠a->(upd Hl a (.lst ((fs.map fun q=>V.ref q.1)++[V.ref t]))) x=some o:=fun x o e n=>by rw [aD n];exact e
     have Yr:∀x∈T::D::(vY++yr),x≠a:=fun x hx z=>aZ (by rw [←z];exact hx);have V0:Mv 43 τ H (Qm τ (T::D::(vY++yr))) Hl:=Mv.tags VD Ph;refine k (Qm τ (T::D::(vY++yr))) (fs++[(t,T,D)]) _ ⟨by rw [ao,List.map_append];rfl,(sJ aZ).trans h0.ta,fun q hq=> ?_⟩ (by simp) ((lW.of_same VD).trans stp) oh Ph;have inZ:∀x∈vY++yr,x∈T::D::(vY++yr):=fun x hx=>by simp only [List.mem_cons];exact .inr (.inr hx)
     rcases List.mem_append.mp hq with hq|hq
     ·obtain ⟨a1,Y,a2,a3,a4,a5⟩:=h0.ef q hq
      have wr:∀B,Ox τ H B Y->Ox (Qm τ (T::D::(vY++yr))) (upd Hl a (.lst ((fs.map fun q=>V.ref q.1)++[V.ref t]))) B Y:=fun B hB=>by
       obtain ⟨ls,e,tt,hl',ht'⟩:=hB.mv V0;have na:∀x,Qm τ (T::D::(vY++yr)) x=[0]->x≠a:=fun x e z=>by rw [z,sJ aZ,h0.ta] at e;cases e
       exact ⟨ls,kl _ _ e (na _ tt),tt,hl'.keep fun l hl o e=>kl _ _ e (na _ (ht' l hl)),ht'⟩
      exact ⟨stp.tup _ _ (VD _ _ a1),Y,a2,a3,wr _ a4,wr _ a5⟩
     ·rw [List.mem_singleton.mp hq]
      refine ⟨stp.tup _ _ et,X,Xl,fun x hx=>by have:=Xb x hx;omega,⟨vY,kl _ _ (Ul _ _ U5) (Yr _ (by simp)),yK (by simp),(Wq.same Ul).keep fun l hl o e=>kl _ _ e (Yr _ (inZ _ (List.mem_append_left _ hl))),fun l hl=>yK (inZ _ (List.mem_append_left _ hl))⟩,⟨yr,kl _ _ eDl (Yr _ (by simp)),yK (by simp),hll.keep fun l hl o e=>kl _ _ e (Yr _ (inZ _ (List.mem_append_right _ hl))),fun l hl=>yK (inZ _ (List.mem_append_right _ hl))⟩⟩
def Bp (CW CH CN CO:Addr) (K:PySem.W.Frag):Sp:=fun vs H Q E=>∃(i:Nat) (τ:Tg) (W:oE) (S:ji) (h dr:Int),vs=[.ref W.o,.int h,.int dr]/\jD CW CH i τ H W S/\S.ts.length<=10000 /\
 ((¬vh h S.hs.length/\E (.ref CN) none H)\/(dr=0 /\ ∃(k:Nat) (s:aO),h=k/\S.hs[k]? = some s/\s.st ≠ "waits" /\ E (.ref CO) none H))
theorem MN {ak au aX cR:Addr} {f:Addr} {fd:FuncData} (F:fj K "_law_door" "_law_door" xP f fd) (gK:gw P w K mg base 7 ak "turn" ["self","hand"] (tH ak au aX cR K)) (gn:gw P w K mg base 4 ak "boxes" ["self","hand"] (jG aO.bs ak au aX K)) (gM:gw P w K mg base 4 ak "said" ["self","hand"] (jG aO.sy ak au aX K)) (iD:gw P w K mg base 4 ak "how" ["self","hand"] (zB ak au aX K)) (aK:cM K ak):bU P w K mg base (oH P w) 8 f fd ["one","number","door"] (Bp ak au aX cR K):=by
 refine F.M4 Ii (fun vs H Q E h=> ?_) (fun cdv A outer s H vs Q E hr h hR=> ?_)
 ·obtain ⟨i,τ,W,S,h,dr,rfl,_⟩:=h
  rfl
 ·obtain ⟨i,τ,W,S,h,dr,rfl,w,tl,cs⟩:=h
  refine ⟨_,(aB (bL (aQ cA (pv 2) aA (aR _)) (aG (aV (iz gK aK.cls rfl hR (hr.mono (by decide)) (pv 0) (aj (pv 1) aq)))) bw)
   (aB (bL (aQ cA (pv 2) aA (aR _)) (aG (aV (iz gn aK.cls rfl hR (hr.mono (by decide)) (pv 0) (aj (pv 1) aq)))) bw)
   (aB (bL (aQ cA (pv 2) aA (aR _)) (aG (aV (iz gM aK.cls rfl hR (hr.mono (by decide)) (pv 0) (aj (pv 1) aq)))) bw)
   (aG (aV (iz iD aK.cls rfl hR (hr.mono (by decide)) (pv 0) (aj (pv 1) aq))))))), ?_⟩
  refine ⟨_,rfl,rfl,_,rfl, ?_⟩;rcases cs with ⟨hn,e⟩|⟨rfl,k,s,rfl,es,wt,e⟩
  ·have no:∀(k:Nat) (s:aO),h=k->S.hs[k]? = some s->False:=fun k s e1 e2=>hn ⟨by omega,by have:=(List.getElem?_eq_some_iff.mp e2).1;omega⟩
   refine bK (fun _=> ?_) (fun _=> ?_)
   ·exact ⟨_,rfl,W.o,W.dx,_,rfl,w.o,rfl,_,rfl,i,τ,W,S,h,rfl,w,tl,fun k s r t H' e1 e2=>(no k s e1 e2).elim,fun _=>e,fun k s e1 e2=>(no k s e1 e2).elim⟩
   refine ⟨_,rfl,rfl,_,rfl, ?_⟩;refine bK (fun _=> ?_) (fun _=> ?_)
   ·exact ⟨_,rfl,W.o,W.dx,_,rfl,w.o,rfl,_,rfl,i,τ,W,S,h,rfl,w,fun k s l H' e1 e2=>(no k s e1 e2).elim,fun _=>e⟩
   refine ⟨_,rfl,rfl,_,rfl, ?_⟩;refine bK (fun _=> ?_) (fun _=> ?_)
   ·exact ⟨_,rfl,W.o,W.dx,_,rfl,w.o,rfl,_,rfl,i,τ,W,S,h,rfl,w,fun k s l H' e1 e2=>(no k s e1 e2).elim,fun _=>e⟩
   exact ⟨_,rfl,W.o,W.dx,_,rfl,w.o,rfl,_,rfl,i,τ,W,S,h,rfl,w,fun k s e1 e2=>(no k s e1 e2).elim,fun _=>e⟩
  ·refine bK (fun _=> ?_) (fun z=>absurd (decide_eq_true rfl) z)
   have one:∀(k':Nat) (s':aO),(k:Int)=k'->S.hs[k']? = some s'->s'=s:=fun k' s' e1 e2=>by
    have:k'=k:=by omega
    subst this;rw [es] at e2;exact (Option.some.inj e2).symm
   exact ⟨_,rfl,W.o,W.dx,_,rfl,w.o,rfl,_,rfl,i,τ,W,S,k,rfl,w,tl,fun k' s' r t H' e1 e2 e3=>absurd e3 (by rw [one k' s' e1 e2];exact wt),fun z=>absurd ⟨by omega,by have:=(List.getElem?_eq_some_iff.mp es).1;omega⟩ z,fun _ _ _ _ _=>e⟩
theorem Vv {i:Nat} {v:V} {u:TS} {D:Ends} {σ:St} {H:Hp} (h:u D (σ.set i (some v)) H):Fv (Fw (tC v) (bV i)) u D σ H:=h
def Ur (hs:List aO) (k:Nat):Bool:=match hs[k]? with
 | some s=> !decide (s.st = "waits")
 | none=>false
def G_ (hs:List aO):List Nat:=(List.range hs.length).filter (Ur hs)
theorem Mi {hs:List aO} {z k:Nat} (h:(G_ hs)[z]? = some k):∃s,hs[k]? = some s/\s.st ≠ "waits" :=by
 have m:=List.mem_of_getElem? h;have:=(List.mem_filter.mp m).2;unfold Ur at this;cases e:hs[k]? with
 | none=>rw [e] at this;cases this
 | some s=>
   rw [e] at this;have this:(!decide (s.st = "waits"))=true:=this;exact ⟨s,rfl,fun z=>by rw [decide_eq_true z] at this;cases this⟩
theorem zp {S:ji} (g:lZ S) (h:∀s∈S.hs,∀r∈s.rws,um S.m r):Qx S S=true:=Cw (yL (cs:=Al S) g h)
def mJ (CW CH:Addr) (K:PySem.W.Frag):Sp:=fun vs H Q _=>∃(i j:Nat) (τ:Tg) (W:oE) (S:ji) (L:vG) (cs:List Nat) (rws:List (List Rw)) (m:Nat) (r:Addr),vs=[.ref r,.ref W.o,.ref L.st]/\jB CW CH i j τ H W S L cs rws m/\m<=100/\S.ts.length<=300/\RT τ H r /\ ∀(τ':Tg) (H':Hp),RT τ' H' r->(∀l,Mv l τ H τ' H')->Q (.bl true) H'
theorem yd {ak au aX cR bN dZ:Addr} {f:Addr} {fd:FuncData} (F:fj K "_law_refused" "_law_refused" oX f fd) (bO:FnAt P w K mg base 1 "_law_draw" ["reel","many"] (gZ K)) (lG:MethAt P w K mg base 9 ak "twin" ["self"] (wQ ak au K)) (dX:MethAt P w K mg base 3 ak "__eq__" ["self","other"] (vN ak au K)) (O9:Fb P w K mg base 8 "_law_door" ["one","number","door"] (Bp ak au aX cR K)) (Dj:FnAt P w K mg base 6 "_law_all" ["works","state"] (zF ak au K)) (fY:Xr K mg aX "NoHand") (jQ:Xr K mg cR "Over") (jE:Xo K mg bN dZ "NoteError" true) (dB:lV K aX dZ true) (dW:lV K cR dZ true) (gb:lV K aX cR false) (fZ:lV K cR aX false) (aK:cM K ak) (Bt:mC mg):bU P w K mg base gF 10 f fd ["reel","one","state"] (mJ ak au K):=by
 refine F.ok cQ (fun vs H Q E h=> ?_) (fun cdv A outer s H vs Q E hr h=> ?_)
 ·obtain ⟨i,j,τ,W,S,L,cs,rws,m,r,rfl,_⟩:=h
  rfl
 ·obtain ⟨i,j,τ,W,S,L,cs,rws,m,r,rfl,y0,m1,tl,T0,k⟩:=h
  have qb:=hr.units
  refine ⟨_,(aB (aW (i:=3) cQ.nd rfl (Or.inl rfl) (bF bO (hr.mono (by decide)) (by rfl) (aj (pv 0) (aj aA aq))))
   (aB (aW (i:=4) cQ.nd rfl (Or.inl rfl) (bF bO (hr.mono (by decide)) (by rfl) (aj (pv 0) (aj aA aq))))
   (aB (aW (i:=5) cQ.nd rfl (Or.inl rfl) (bf (bC (K:=K) rfl) (by rfl) Bt.dU cU (aj (aJ (aH (K:=K) rfl) (pv 2) aA (fun _ _=>rfl)) aq)))
   (aB (aW (i:=6) cQ.nd rfl (Or.inl rfl) (aJ (aH (K:=K) rfl) (cC (aj (bQ mW (DR wL aA) (bF bO (hr.mono (by decide)) (by rfl) (aj (pv 0) (aj aA aq)))) (aj (bQ eG (pv 5) (bF bO (hr.mono (by decide)) (by rfl) (aj (pv 0) (aj aA aq)))) (aj aA aq)))) (pv 3) (fun _ _=>rfl)))
   (aB (pX (i:=7) rfl cQ.nd rfl (Or.inl rfl) (N:=["k","state"]) (own:=["k"]) (caps:=[2]) (bh.of (by kernel_rfl)) (dj (by rfl) Bt.fL (aj (pv 5) aq)) (fun _ _ _ _=>(bI (i:=0) (show List.Nodup (["k","state"]:List Str) by decide +kernel) rfl (Or.inl rfl))) (fun _ _ _ _=>(xU (aQ lQ (aJ (aH (K:=K) rfl) (aJ (aH (K:=K) rfl) (aJ (aH (K:=K) rfl) (pv 1) aA (fun _ _=>rfl)) (pv 0) (fun _ _=>rfl)) aA (fun _ _=>rfl)) bD (aR _)))) (fun _ _ _ _=>(pv 0)))
   (aB (bL (PW.pt (jN (aQ cA (pv 3) aA (aR _)) (i_ (aQ (uy (K:=K) rfl qb) (pv 7) (cC aq) (aR _))))) (aG (aV gH)) bw)
   (aB (bL (aQ cA (pv 3) aA (aR _)) (aB (aW (i:=4) cQ.nd rfl (Or.inl rfl) aA)
   (aG (aW (i:=6) cQ.nd rfl (Or.inl rfl) (aJ (aH (K:=K) rfl) (pv 7) (bF bO (hr.mono (by decide)) (by rfl) (aj (pv 0) (aj (bf (bC (K:=K) rfl) (by rfl) Bt.dU cU (aj (pv 7) aq)) aq))) (fun _ _=>rfl))))) bw)
   (aB (aW (i:=8) cQ.nd rfl (Or.inl rfl) (cY lG aK.cls (hr.mono (by decide)) (pv 1)))
   (aB (aW (i:=9) cQ.nd rfl (Or.inl rfl) eF)
   (aB (Q6 (i:=10) rfl rfl rfl rfl cQ.nd rfl rfl (by rfl) jE.bd jE.hd (fun _ _ _ _ hR=>(aG (cH (IV O9 rfl hR (hr.mono (by decide)) (by rfl) (aj (pv 1) (aj (pv 6) (aj (pv 4) aq))))))) (fun _=>(aG (aW (i:=9) cQ.nd rfl (Or.inl rfl) (pv 10)))))
   (aB (bL (PW.pt (lN (aQ lQ (bf (Ar (K:=K) (c:= .ref aX) (cv:= .ref aX) rfl (fun _ h=>h)) (by rfl) Bt.bR bM (aj (pv 9) (aj (h_ (v:= .ref aX) (by rfl) fY.bd rfl) aq))) (cT iY (pv 3) aA (aR _)) (aR _)) (iM (aQ lQ (bf (Ar (K:=K) (c:= .ref cR) (cv:= .ref cR) rfl (fun _ h=>h)) (by rfl) Bt.bR bM (aj (pv 9) (aj (h_ (v:= .ref cR) (by rfl) jQ.bd rfl) aq))) (cT cA (pv 3) aA (aR _)) (aR _))))) (aG (aV gH)) bw)
   (aG (aV (mV (cT (BX dX (hr.mono (by decide))) (pv 1) (pv 8) (aR _)) (o7 (bF Dj (hr.mono (by decide)) (by rfl) (aj (pv 1) (aj (pv 2) aq)))))))))))))))))), ?_⟩
  have hn:=y0.w.hn;have em:=y0.em;have llen:(L.hd.map fun a=>V.ref a.h).length=S.hs.length:=by rw [List.length_map,y0.l.len]
  refine ⟨_,rfl,r,3,rfl,T0.R,by decide,by decide,fun kd H1 kd0 kd1 R1 k1=> ?_⟩;have T1:=T0.draw k1 R1;have y1:=y0.mv (T0.kr k1) (T0.kr k1) T1.un;have mv1:∀l,Mv l τ H τ H1:=fun l=>T0.kr k1;dsimp only [bV];refine ⟨_,rfl,r,4,rfl,T1.R,by decide,by decide,fun dr H2 dr0 dr1 R2 k2=> ?_⟩;have T2:=T1.draw k2 R2;have y2:=y1.mv (T1.kr k2) (T1.kr k2) T2.un;have mv2:∀l,Mv l τ H τ H2:=fun l=>(mv1 l).trans (T1.kr k2);dsimp only [bV];refine ⟨_,rfl,_,_,_,_,rfl,rfl,aY.of y2.l.st,rfl,L.hl,_,rfl,.inl (aY.of y2.l.hl), ?_⟩;rw [llen];clear T1 y1 mv1 k1 R1;dsimp only [bV];refine ⟨_,rfl,_,rfl,r,9,rfl,T2.R,by decide,by decide,fun d1 H3 d10 U8 R3 k3=>⟨_,_,rfl,rfl, ?_⟩⟩;have T3:=T2.draw k3 R3;refine ⟨_,rfl,_,rfl,r,9,rfl,T3.R,by decide,by decide,fun d2 H4 d20 d21 R4 k4=>⟨_,_,rfl,rfl,(by show 3<=sizeLine;decide),fun p hp=> ?_⟩⟩;have T4:=T3.draw k4 R4;have y4:=(y2.mv (T2.kr k3) (T2.kr k3) T3.un).mv (T3.kr k4) (T3.kr k4) T4.un;have mv4:∀l,Mv l τ H τ H4:=fun l=>((mv2 l).trans (T2.kr k3)).trans (T3.kr k4);have sp:=aF (o:=HO.lst [V.int (-1 - d1),V.int ((S.hs.length:Int)+d2),V.int 0]) hp;have ep:(upd H4 p (.lst [V.int (-1 - d1),V.int ((S.hs.length:Int)+d2),V.int 0])) p=some (.lst [V.int (-1 - d1),V.int ((S.hs.length:Int)+d2),V.int 0]):=ao;have T5:=T4.same sp;have y5:=y4.same sp;have mv5:∀l,Mv l τ H τ (upd H4 p (.lst [V.int (-1 - d1),V.int ((S.hs.length:Int)+d2),V.int 0])):=fun l=>(mv4 l).trans (Mv.of_same sp);generalize (upd H4 p (.lst [V.int (-1 - d1),V.int ((S.hs.length:Int)+d2),V.int 0]))=H5 at ep T5 y5 mv5 ⊢
  obtain ⟨nb,enb,bnb⟩:∃nb:Int,qm [V.int (-1 - d1),V.int ((S.hs.length:Int)+d2),V.int 0] kd=some (.int nb)/\(kd<2 -> ¬vh nb S.hs.length):=by
   rcases (show kd=0\/kd=1\/kd=2 by omega) with rfl|rfl|rfl
   ·exact ⟨_,rfl,fun _ z=>by have:=z.1;omega⟩
   ·exact ⟨_,rfl,fun _ z=>by have:=z.2;omega⟩
   ·exact ⟨_,rfl,fun z=>absurd z (by decide)⟩
  refine ⟨_,rfl,_,_,_,_,rfl,rfl,aY.of ep,enb, ?_⟩;clear T2 T3 T4 y2 y4 mv2 mv4 k2 k3 k4 R2 R3 R4 sp ep;dsimp only [bV];refine ⟨_,rfl,_,rfl,by omega,by omega,fun D hD=> ?_⟩;rw [Int.toNat_natCast];refine j5 (fun n:Nat=>if Ur S.hs n then some (.int (n:Nat)) else none) hD (by omega) (fun n Hc G F hn' sc kG kF=> ?_) (fun H6 s6 e6=> ?_)
  ·have wc:=y5.l.same sc
   obtain ⟨A,c,eA,ec,a⟩:=wc.hand (k:=n) (s:=S.hs[n]) (by simp [hn']);refine ⟨_,rfl,_,_,_,_,rfl,rfl,aY.of wc.st,rfl,_,rfl,_,_,_,_,rfl,rfl,aY.of wc.hl,by rw [Int.zero_add];exact bW (by rw [List.getElem?_map,eA];rfl),_,_,_,_,rfl,rfl,aY.of a.q.h,rfl,rfl,_,rfl, ?_⟩;have eb:Ur S.hs n = !decide (S.hs[n].st = "waits"):=by unfold Ur;rw [List.getElem?_eq_getElem hn']
   rw [eb] at kG kF;refine bK (fun q=> ?_) (fun q=> ?_)
   ·have hq:¬S.hs[n].st=Str.ofString "waits" :=fun z=>by rw [z,decide_eq_true rfl] at q;cases q
    refine ⟨_,rfl,kF _ Hc (Same.refl _) ?_⟩;rw [decide_eq_false hq,Int.zero_add];rfl
   ·refine kG Hc (Same.refl _) ?_
    have hq:S.hs[n].st=Str.ofString "waits" :=by
     by_cases z:S.hs[n].st=Str.ofString "waits"
     ·exact z
     ·exact absurd (by rw [decide_eq_false fun z'=>z (V.str.inj z')];rfl) q
    rw [decide_eq_true hq];rfl
  rw [JV] at e6;have e6:H6 D=some (.lst ((G_ S.hs).map fun k:Nat=>V.int k)):=e6;have T6:=T5.same s6;have y6:=y5.same s6;have Yt:∀l,Mv l τ H τ H6:=fun l=>(mv5 l).trans (Mv.of_same s6);have Qc:D≠r:=T5.R.ne hD;clear T5 y5 mv5 s6 hD
  have ovl:(G_ S.hs).length<=100:=by
   have:=List.length_filter_le (Ur S.hs) (List.range S.hs.length);unfold G_;rw [List.length_range] at this;omega
  dsimp only [bV];refine g_ (fun σ Hx=>σ=[some (.ref r),some (.ref W.o),some (.ref L.st),some (.int kd),some (.int dr),some (.int S.hs.length),some (.int nb),some (.ref D),none,none,none]/\RT τ Hx r/\jB ak au i j τ Hx W S L cs rws m/\(∀l,Mv l τ H τ Hx)/\Hx D=some (.lst ((G_ S.hs).map fun k:Nat=>V.int k))/\(kd=2->G_ S.hs≠[])) (fun D' hD' Sw=> ?_) ?_
  ·refine ⟨_,rfl,rfl,_,rfl, ?_⟩
   by_cases q2:kd=2
   rotate_left
   ·rw [decide_eq_false (fun z=>q2 (V.int.inj z))]
    exact cD (cD (hD' _ _ ⟨rfl,T6,y6,Yt,e6,fun z=>absurd z q2⟩))
   rw [decide_eq_true (congrArg V.int q2)];refine dM ?_;refine ⟨_,rfl,(by show 0<=sizeLine;decide),fun em' hem=> ?_⟩;have sem:=aF (o:=HO.lst []) hem;refine ⟨_,_,_,rfl,rfl,aY.of (sem _ _ e6),aY.of ao,_,rfl, ?_⟩;rw [if_neg Bool.false_ne_true];cases ho:G_ S.hs with
   | nil=>
     refine dM ?_;show D'.rt _ _;rw [Sw];exact k τ _ (T6.same sem) fun l=>(Yt l).trans (Mv.of_same sem)
   | cons x xs=>
     rw [←ho];have Uv:((G_ S.hs).map fun k:Nat=>V.int k).isEmpty=false:=by rw [ho];rfl
     rw [Uv];exact cD (hD' _ _ ⟨rfl,T6.same sem,y6.same sem,fun l=>(Yt l).trans (Mv.of_same sem),sem _ _ e6,fun _=>by rw [ho];simp⟩)
  rintro σ H7 ⟨rfl,T7,y7,mv7,e7,ov0⟩;clear T6 y6 Yt e6;refine g_ (fun σ Hx=>∃(U6 RL:Int),σ=[some (.ref r),some (.ref W.o),some (.ref L.st),some (.int kd),some (.int U6),some (.int S.hs.length),some (.int RL),some (.ref D),none,none,none]/\RT τ Hx r/\jB ak au i j τ Hx W S L cs rws m/\(∀l,Mv l τ H τ Hx)/\((kd<2 /\ ¬vh RL S.hs.length)\/(kd=2/\U6=0 /\ ∃(n:Nat) (s:aO),RL=n/\S.hs[n]? = some s/\s.st ≠ "waits"))) (fun D' hD' Sw=> ?_) ?_
  ·refine ⟨_,rfl,rfl,_,rfl, ?_⟩
   by_cases q2:kd=2
   rotate_left
   ·rw [decide_eq_false (fun z=>q2 (V.int.inj z))]
    exact cD (hD' _ _ ⟨dr,nb,rfl,T7,y7,mv7,.inl ⟨by omega,bnb (by omega)⟩⟩)
   rw [decide_eq_true (congrArg V.int q2)];refine dM ?_
   have adP:0<(G_ S.hs).length:=by
    rcases Nat.eq_zero_or_pos (G_ S.hs).length with z|z
    ·exact absurd (List.eq_nil_of_length_eq_zero z) (ov0 q2)
    ·exact z
   refine ⟨_,rfl,_,rfl,_,rfl,D,_,rfl,.inl (aY.of e7), ?_⟩;rw [List.length_map];refine ⟨r,_,rfl,T7.R,by omega,by omega,fun z H8 z0 z1 R8 k8=> ?_⟩;obtain ⟨z,rfl⟩:=Int.eq_ofNat_of_zero_le z0;have T8:=T7.draw k8 R8;have y8:=y7.mv (T7.kr k8) (T7.kr k8) T8.un;obtain ⟨n,en⟩:∃n,(G_ S.hs)[z]? = some n:=⟨_,List.getElem?_eq_getElem (by omega)⟩;obtain ⟨s',es,wt⟩:=Mi en;exact ⟨_,_,_,_,rfl,rfl,aY.of (k8.1 _ _ e7 Qc),bW (show ((G_ S.hs).map fun k:Nat=>V.int k)[z]? = some (V.int n) by rw [List.getElem?_map,en];rfl),hD' _ _ ⟨0,n,rfl,T8,y8,fun l=>(mv7 l).trans (T7.kr k8),.inr ⟨q2,rfl,n,s',rfl,es,wt⟩⟩⟩
  rintro σ H8 ⟨U6,RL,rfl,T8,y8,mv8,cs'⟩;clear T7 y7 mv7 e7 ov0 bnb enb;refine ⟨_,rfl,W.o,W.dx,_,rfl,y8.w.o,rfl,i,60,τ,W,S,rfl,y8.w,y8.gd,by omega,by decide,fun τ9 W9 H9 Y0 Ld s9=> ?_⟩;have T9:=T8.made s9 Ld Y0.un;have y9:=y8.mv (Mv.tags s9 Ld) (Mv.tags s9 Ld) Y0.un;have mv9:∀l,Mv l τ H τ9 H9:=fun l=>(mv8 l).trans (Mv.tags s9 Ld);dsimp only [bV];refine Vv ?_;refine g_ (fun σ Hx=>∃(e:Addr) (C:Addr),σ=[some (.ref r),some (.ref W.o),some (.ref L.st),some (.int kd),some (.int U6),some (.int S.hs.length),some (.int RL),some (.ref D),some (.ref W9.o),some (.ref e),none]/\Hx e=some (XO C none e)/\Same H9 Hx/\((kd<2/\C=aX)\/(kd=2/\C=cR))) (fun D' hD' Sw=> ?_) ?_
  ·refine ⟨_,rfl,_,rfl,_,rfl,i,τ9,W,S,RL,U6,rfl,y9.w,by omega, ?_⟩
   rcases cs' with ⟨q,bad⟩|⟨q,q0,n,s',en,es,wt⟩
   ·exact .inl ⟨bad,_,rfl,dB.sub,fun e he=>⟨_,rfl,hD' _ _ ⟨e,aX,rfl,ao,aF he,.inl ⟨q,rfl⟩⟩⟩⟩
   ·exact .inr ⟨q0,n,s',en,es,wt,_,rfl,dW.sub,fun e he=>⟨_,rfl,hD' _ _ ⟨e,cR,rfl,ao,aF he,.inr ⟨q,rfl⟩⟩⟩⟩
  rintro σ Hx ⟨e,C,rfl,ee,sx,csC⟩;have fin:∀Hy,Same H9 Hy->Q (.bl true) Hy:=fun Hy sy=>k τ9 Hy (T9.same sy) fun l=>(mv9 l).trans (Mv.of_same sy);have yx:=y9.same sx;have wx:=Y0.same sx
  have last:Pr (Bl (VP ak (vN ak au K)) (kh 1) (kh 8)) (Dm (zF ak au K) [] E0 (gP (kh 1) (gP (kh 2) sZ))) [some (.ref r),some (.ref W.o),some (.ref L.st),some (.int kd),some (.int U6),some (.int S.hs.length),some (.int RL),some (.ref D),some (.ref W9.o),some (.ref e),none] Hx Q:=by
   refine ⟨_,rfl,_,rfl,W.o,W9.o,W.dx,W9.dx,_,_,rfl,rfl,yx.w.o,wx.o,i,60,τ9,τ9,W,W9,S,S,rfl,yx.w,wx,yx.gd,yx.gd,fun Hy sy=>⟨_,rfl, ?_⟩⟩;rw [zp yx.gd yx.w.pW];have yy:=yx.same sy;refine ⟨_,rfl,dM ?_⟩;exact ⟨_,rfl,_,rfl,i,j,τ9,W,S,L,cs,rfl,yy.w,yy.l,yy.c,by omega,by omega,yy.sy tl,fun Hz sz=>fin Hz ((sx.trans sy).trans sz)⟩
  rcases csC with ⟨q,rfl⟩|⟨q,rfl⟩
  ·refine ⟨_,rfl,e,_,true,rfl,ee,fY.xc,Ac,_,rfl,_,_,rfl,rfl,rfl,_,rfl, ?_⟩
   refine bK (fun z=>absurd z (by show ¬(!decide (V.bl true=V.bl (decide (kd<2))))=true;rw [decide_eq_true q];decide)) (fun _=> ?_);refine ⟨_,rfl,e,_,false,rfl,ee,fY.xc,Ed jQ.hd gb,_,rfl,rfl,rfl,_,rfl, ?_⟩;refine bK (fun z=>absurd z (by rw [decide_eq_false (fun z:V.int kd=V.int 2=>by have:=V.int.inj z;omega)];decide)) (fun _=>last)
  ·refine ⟨_,rfl,e,_,false,rfl,ee,jQ.xc,Ed fY.hd fZ,_,rfl,_,_,rfl,rfl,rfl,_,rfl, ?_⟩
   refine bK (fun z=>absurd z (by show ¬(!decide (V.bl false=V.bl (decide (kd<2))))=true;rw [decide_eq_false (show ¬kd<2 by omega)];decide)) (fun _=> ?_);refine ⟨_,rfl,e,_,true,rfl,ee,jQ.xc,Ac,_,rfl,rfl,rfl,_,rfl, ?_⟩;refine bK (fun z=>absurd z (by rw [decide_eq_true (congrArg V.int q)];decide)) (fun _=>last)
theorem pH:∀(l m:List PyData),PyData.eqvAll l m=true↔l.length=m.length /\ ∀(i:Nat) a b,l[i]? = some a->m[i]? = some b->PyData.eqv a b=true
 | [],[]=>by simp [PyData.eqvAll]
 | [],_::_=>by simp [PyData.eqvAll]
 | _::_,[]=>by simp [PyData.eqvAll]
 | a::l,b::m=>by
   simp only [PyData.eqvAll,Bool.and_eq_true,pH l m,List.length_cons];constructor
   ·rintro ⟨h,hl,q⟩
    refine ⟨by omega,fun i x y h1 h2=> ?_⟩;cases i with
    | zero=>cases h1;cases h2;exact h
    | succ i=>exact q i x y h1 h2
   ·rintro ⟨hl,q⟩
    exact ⟨q 0 a b rfl rfl,by omega,fun i x y h1 h2=>q (i+1) x y h1 h2⟩
theorem nR (x y:List Int):PyData.eqv (eN x) (eN y)=decide (x=y):=m8 PyData.int lC x y
theorem DQ (s s':aO):PyData.eqv (jW s) (jW s')=true↔s.st=s'.st/\(s.st = "waits" -> s.pos=s'.pos)/\s.bs=s'.bs/\s.sy=s'.sy:=by
 have e1:=nR s.bs s'.bs;have e2:=nR s.sy s'.sy
 have e0:PyData.eqv (jW s) (jW s')=(PyData.eqv (.str s.st) (.str s'.st)&&(PyData.eqv (if s.st = "waits" then .int s.pos else .none) (if s'.st = "waits" then .int s'.pos else .none)&&(PyData.eqv (eN s.bs) (eN s'.bs)&&(PyData.eqv (eN s.sy) (eN s'.sy)&&true)))):=by
  simp only [jW,PyData.eqv,PyData.eqvAll]
 rw [e0,e1,e2];have e3:PyData.eqv (.str s.st) (.str s'.st)=true↔s.st=s'.st:=by simp [PyData.eqv]
 rw [Bool.and_eq_true,Bool.and_eq_true,Bool.and_eq_true,Bool.and_true,decide_eq_true_iff,decide_eq_true_iff,e3];constructor
 ·rintro ⟨a,b,c,d⟩
  refine ⟨a,fun w=> ?_,c,d⟩;rw [if_pos w,if_pos (a▸w),lC,decide_eq_true_iff] at b;omega
 ·rintro ⟨a,b,c,d⟩
  refine ⟨a, ?_,c,d⟩
  by_cases w:s.st = "waits"
  ·rw [if_pos w,if_pos (a▸w),lC,decide_eq_true_iff,b w]
  ·rw [if_neg w,if_neg (fun z=>w (a.trans z))]
   rfl
theorem Dk {S S':ji} {cs cs':List Nat} (C:Cn S.ts S.hs.length cs) (C':Cn S'.ts S'.hs.length cs'):Qx S S'=true↔PyData.eqv (gQ S) (gQ S')=true/\E_ S.ns S'.ns S.hs S'.hs cs cs':=by
 have e0:Qx S S'=(PyData.eqv (gQ S) (gQ S')&&(PyData.eqv (eN S.ns) (eN S'.ns)&&(PyData.eqvAll (S.hs.map jW) (S'.hs.map jW)&&(PyData.eqv (eN (Al S)) (eN (Al S'))&&true)))):=by
  simp only [Qx,Ve,Bf,PyData.eqv,PyData.eqvAll]
 rw [e0,nR,nR,Bool.and_eq_true,Bool.and_eq_true,Bool.and_eq_true,Bool.and_true,decide_eq_true_iff,decide_eq_true_iff,pH,List.length_map,List.length_map,C.cnt,C'.cnt]
 have len:PyData.eqv (gQ S) (gQ S')=true->S.hs.length=S'.hs.length:=fun h=>by
  have:PyData.eqv (gQ S) (gQ S')=(PyData.eqv (.int S.m) (.int S'.m)&&(PyData.eqvAll (S.hs.map fun s=>jV s.rws) (S'.hs.map fun s=>jV s.rws)&&true)):=by
   simp only [gQ,PyData.eqv,PyData.eqvAll]
  rw [this,Bool.and_eq_true,Bool.and_true,pH,List.length_map,List.length_map] at h;exact h.2.1
 constructor
 ·rintro ⟨a,b,⟨l,q⟩,d⟩
  refine ⟨a,b,fun i s s' c c' h1 h2 h3 h4=> ?_⟩;obtain ⟨p1,p2,p3,p4⟩:=(DQ s s').mp (q i _ _ (by rw [List.getElem?_map,h1];rfl) (by rw [List.getElem?_map,h2];rfl));refine ⟨⟨p3,p4,p1, ?_⟩,p2⟩;have e:(cs.map fun g:Nat=>(g:Int))[i]? = (cs'.map fun g:Nat=>(g:Int))[i]? :=by rw [d]
  rw [List.getElem?_map,List.getElem?_map,h3,h4] at e;have:(c:Int)=(c':Int):=Option.some.inj e;omega
 ·rintro ⟨a,b,q⟩
  have l:=len a;have lc:=C.lc;have lc':=C'.lc;refine ⟨a,b,⟨l,fun i x y h1 h2=> ?_⟩, ?_⟩
  ·rw [List.getElem?_map] at h1 h2
   cases e1:S.hs[i]? with
   | none=>rw [e1] at h1;cases h1
   | some s=>
     cases e2:S'.hs[i]? with
     | none=>rw [e2] at h2;cases h2
     | some s'=>
       rw [e1] at h1;rw [e2] at h2;cases h1;cases h2;have i1:=(List.getElem?_eq_some_iff.mp e1).1;obtain ⟨⟨p1,p2,p3,_⟩,p4⟩:=q i s s' _ _ e1 e2 (List.getElem?_eq_getElem (by omega)) (List.getElem?_eq_getElem (by omega));exact (DQ s s').mpr ⟨p3,p4,p1,p2⟩
  ·refine congrArg (List.map fun g:Nat=>(g:Int)) (List.ext_getElem? fun i=> ?_)
   by_cases il:i<S.hs.length
   ·have e1:S.hs[i]? = some S.hs[i]:=List.getElem?_eq_getElem il
    have e2:S'.hs[i]? = some (S'.hs[i]'(by omega)):=List.getElem?_eq_getElem _;have e3:cs[i]? = some (cs[i]'(by omega)):=List.getElem?_eq_getElem _;have e4:cs'[i]? = some (cs'[i]'(by omega)):=List.getElem?_eq_getElem _;obtain ⟨⟨_,_,_,p⟩,_⟩:=q i _ _ _ _ e1 e2 e3 e4;rw [e3,e4,p]
   ·rw [List.getElem?_eq_none_iff.mpr (by omega),List.getElem?_eq_none_iff.mpr (by omega)]
theorem zG {S:ji} (g:lZ S) (h:∀s∈S.hs,∀r∈s.rws,um S.m r):SeqAt.shaped (gQ S)=true:=by
 have c:=yL (cs:=[]) g h;simp only [SeqAt.shaped,Bf,PyData.depth,PyData.depthAll,PyData.canLay0,PyData.canLayAll0,Bool.and_eq_true,decide_eq_true_eq] at c ⊢;exact ⟨c.1.1,by omega⟩
theorem jB.rows {CW CH:Addr} {i j:Nat} {τ:Tg} {H:Hp} {W:oE} {S:ji} {L:vG} {cs:List Nat} {rws:List (List Rw)} {m:Nat} (y:jB CW CH i j τ H W S L cs rws m):S.hs.map (fun s=>s.rws)=rws:=by
 refine List.ext_getElem? fun k=> ?_;rw [List.getElem?_map];cases e:S.hs[k]? with
 | none=>
   have:=List.getElem?_eq_none_iff.mp e;rw [List.getElem?_eq_none (by rw [←y.rl];exact this)];rfl
 | some s=>rw [y.rw' k s e];rfl
theorem vR {CW CH:Addr} {i j i' j':Nat} {τ τ':Tg} {H H':Hp} {W W':oE} {S S':ji} {L L':vG} {cs cs':List Nat} {rws:List (List Rw)} {m:Nat} (y:jB CW CH i j τ H W S L cs rws m) (y':jB CW CH i' j' τ' H' W' S' L' cs' rws m):PyData.eqv (gQ S) (gQ S')=true:=by
 have e:gQ S'=gQ S:=by
  unfold gQ;have r:∀T:ji,(T.hs.map fun s=>jV s.rws)=(T.hs.map fun s=>s.rws).map jV:=fun T=>by rw [List.map_map];rfl
  rw [y.em,y'.em,r,r,y.rows,y'.rows]
 rw [e];exact Cw (zG y.gd y.w.pW)
def tM (CW CH:Addr) (K:PySem.W.Frag):Sp:=fun vs H Q _=>∃(tw st:Addr) (ws sts:List Addr) (a b:Nat) (i j i' j':Nat) (τ:Tg) (W W':oE) (S S':ji) (L L':vG) (cs cs':List Nat) (rws:List (List Rw)) (m:Nat),vs=[.ref tw,.ref st,.int a,.int b]/\H tw=some (.lst (ws.map V.ref))/\H st=some (.lst (sts.map V.ref))/\ws[a]? = some W.o/\ws[b]? = some W'.o/\sts[a]? = some L.st/\sts[b]? = some L'.st/\jB CW CH i j τ H W S L cs rws m/\jB CW CH i' j' τ H W' S' L' cs' rws m /\ ∀H',Same H H'->Q (.bl true) H'
theorem Gb {ak au:Addr} {f:Addr} {fd:FuncData} (F:fj K "_law_same_as" "_law_same_as" oW f fd) (O1:FnAt P w K mg base 1 "_law_same" ["one","other"] (Ia K)) (dX:MethAt P w K mg base 3 ak "__eq__" ["self","other"] (vN ak au K)):bU P w K mg base gF 5 f fd ["twins","states","at","to"] (tM ak au K):=by
 refine F.ok rB (fun vs H Q E h=> ?_) (fun cdv A outer s H vs Q E hr h=> ?_)
 ·obtain ⟨tw,st,ws,sts,a,b,i,j,i',j',τ,W,W',S,S',L,L',cs,cs',rws,m,rfl,_⟩:=h
  rfl
 ·obtain ⟨tw,st,ws,sts,a,b,i,j,i',j',τ,W,W',S,S',L,L',cs,cs',rws,m,rfl,htw,hst,ea,eb,fa,fb,y,y',k⟩:=h
  refine ⟨_,(aB (aW (i:=4) rB.nd rfl (Or.inl rfl) (bF O1 (hr.mono (by decide)) (by rfl) (aj (aJ (aH (K:=K) rfl) (pv 1) (pv 2) (fun _ _=>rfl)) (aj (aJ (aH (K:=K) rfl) (pv 1) (pv 3) (fun _ _=>rfl)) aq))))
   (aG (aV (mV (cT cA (cT (BX dX (hr.mono (by decide))) (aJ (aH (K:=K) rfl) (pv 0) (pv 2) (fun _ _=>rfl)) (aJ (aH (K:=K) rfl) (pv 0) (pv 3) (fun _ _=>rfl)) (aR _)) (pv 4) (aR _)) (o7 (cT cA (cT (BX dX (hr.mono (by decide))) (aJ (aH (K:=K) rfl) (pv 0) (pv 3) (fun _ _=>rfl)) (aJ (aH (K:=K) rfl) (pv 0) (pv 2) (fun _ _=>rfl)) (aR _)) (pv 4) (aR _))))))), ?_⟩
  have at':∀{xs:List Addr} {n:Nat} {x:Addr},xs[n]? = some x->qm (xs.map V.ref) (n:Int)=some (.ref x):=fun {xs n x} e=>bW (by rw [List.getElem?_map,e];rfl)
  have so:∀{S:ji},lZ S -> ∀s∈S.hs,PyData.strOk s.st=true:=fun g s hs=>by
   exact Pu (g.t s hs)
  refine ⟨_,rfl,_,rfl,_,_,_,_,rfl,rfl,aY.of hst,at' fa,_,rfl,_,rfl,_,_,_,_,rfl,rfl,aY.of hst,at' fb,j,j',τ,τ,L,L',_,_,_,_,cs,cs',rfl,y.l,y'.l,so y.gd,so y'.gd,fun bb H1 hbb s1=> ?_⟩
  have aa4:bb=true↔E_ S'.ns S.ns S'.hs S.hs cs' cs:=hbb.trans ⟨fun ⟨e,q⟩=>⟨e.symm,fun i s s' c c' h1 h2 h3 h4=>by
   obtain ⟨⟨a1,a2,a3,a4⟩,a5⟩:=q i s' s c' c h2 h1 h4 h3;exact ⟨⟨a1.symm,a2.symm,a3.symm,a4.symm⟩,fun z=>(a5 (a3.trans z)).symm⟩⟩,fun ⟨e,q⟩=>⟨e.symm,fun i s s' c c' h1 h2 h3 h4=>by
   obtain ⟨⟨a1,a2,a3,a4⟩,a5⟩:=q i s' s c' c h2 h1 h4 h3;exact ⟨⟨a1.symm,a2.symm,a3.symm,a4.symm⟩,fun z=>(a5 (a3.trans z)).symm⟩⟩⟩
  have e1:Qx S S'=bb:=by rw [Bool.eq_iff_iff,Dk y.c y'.c,hbb];exact ⟨fun q=>q.2,fun q=>⟨vR y y',q⟩⟩
  have e2:Qx S' S=bb:=by rw [Bool.eq_iff_iff,Dk y'.c y.c,aa4];exact ⟨fun q=>q.2,fun q=>⟨vR y' y,q⟩⟩
  have y1:=y.same s1;have YX:=y'.same s1;dsimp only [bV];refine ⟨_,rfl,_,rfl,_,_,_,_,rfl,rfl,aY.of (s1 _ _ htw),at' ea,_,rfl,_,rfl,_,_,_,_,rfl,rfl,aY.of (s1 _ _ htw),at' eb,W.o,W'.o,W.dx,W'.dx,_,_,rfl,rfl,y1.w.o,YX.w.o,i,i',τ,τ,W,W',S,S',rfl,y1.w,YX.w,y.gd,y'.gd,fun H2 s2=>⟨_,rfl, ?_⟩⟩;rw [e1];refine ⟨_,rfl,rfl,_,rfl, ?_⟩;rw [decide_eq_true rfl];refine dM ?_;have y2:=y1.same s2;have y2':=YX.same s2;have Bd:=s1.trans s2;refine ⟨_,rfl,_,rfl,_,_,_,_,rfl,rfl,aY.of (Bd _ _ htw),at' eb,_,rfl,_,rfl,_,_,_,_,rfl,rfl,aY.of (Bd _ _ htw),at' ea,W'.o,W.o,W'.dx,W.dx,_,_,rfl,rfl,y2'.w.o,y2.w.o,i',i,τ,τ,W',W,S',S,rfl,y2'.w,y2.w,y'.gd,y.gd,fun H3 s3=>⟨_,rfl, ?_⟩⟩;rw [e2];refine ⟨_,rfl,rfl, ?_⟩;rw [decide_eq_true rfl];exact k H3 (Bd.trans s3)
structure rQ where
 (W:oE) (S:ji) (L:vG) (cs:List Nat) (O:Addr) (od:List Nat)
structure oF (CW CH:Addr) (τ:Tg) (H:Hp) (rws:List (List Rw)) (m:Nat) (ns:List Int) (n k:Nat) (x:rQ):Prop where
 y:jB CW CH (2*k+100) (2*k+101) τ H x.W x.S x.L x.cs rws m
 o:H x.O=some (.lst (x.od.map fun k:Nat=>V.int k))
 to:τ x.O=[50+k]
 rn:Ku (lE m ns rws) x.od
 eS:x.S=x.od.foldl dY (lE m ns rws)
 ol:x.od.length<=n
 tl:x.S.ts.length<=n
section
variable {CW CH:Addr} {τ τ':Tg} {H H':Hp} {rws:List (List Rw)} {m:Nat} {ns:List Int} {n k:Nat} {x:rQ}
theorem oF.mv (h:oF CW CH τ H rws m ns n k x) (q:∀j,j=2*k+100\/j=2*k+101\/j=50+k->Mv j τ H τ' H') (u:j8 τ' H'):oF CW CH τ' H' rws m ns n k x:=by
 have e:=(q (50+k) (.inr (.inr rfl))).keep _ _ h.o (.inr (by rw [h.to];rfl));exact ⟨h.y.mv (q _ (.inl rfl)) (q _ (.inr (.inl rfl))) u,e.1,e.2.trans h.to,h.rn,h.eS,h.ol,h.tl⟩
theorem oF.mono (h:oF CW CH τ H rws m ns n k x) {n':Nat} (l:n<=n'):oF CW CH τ H rws m ns n' k x:=⟨h.y,h.o,h.to,h.rn,h.eS,Nat.le_trans h.ol l,Nat.le_trans h.tl l⟩
end
structure eY (CW CH:Addr) (p PL:Addr) (rs:List Addr) (rws:List (List Rw)) (m:Nat) (nv:V) (ns:List Int) (r hh tw st ol hl:Addr) (n:Nat) (fs:List (Addr×Addr×Addr)) (xs:List rQ) (τ:Tg) (H:Hp):Prop where
 T:RT τ H r
 g:Pg τ H p PL rs rws m
 env:NumV τ H nv ns m
 h:Hh τ H hh (60+n)
 f:CV τ H hl fs
 v8:H tw=some (.lst (xs.map fun x=>V.ref x.W.o))
 Fp:τ tw=[40]
 est:H st=some (.lst (xs.map fun x=>V.ref x.L.st))
 Lb:τ st=[41]
 J3:H ol=some (.lst (xs.map fun x=>V.ref x.O))
 tol:τ ol=[42]
 l0:0<xs.length
 l6:xs.length<=6
 fl:fs.length<=n
 x:∀(k:Nat) (x:rQ),xs[k]? = some x->oF CW CH τ H rws m ns n k x
section
variable {CW CH:Addr} {p PL:Addr} {rs:List Addr} {rws:List (List Rw)} {m:Nat} {nv:V} {ns:List Int} {r hh tw st ol hl:Addr} {n:Nat} {fs fs':List (Addr×Addr×Addr)} {xs:List rQ} {τ τ':Tg} {H H':Hp}
theorem b_ {j:Nat} {x:Addr} {vs:List V} (e:H x=some (.lst vs)) (t:τ x=[j]) (q:Mv j τ H τ' H'):H' x=some (.lst vs)/\τ' x=[j]:=by
 have:=q.keep _ _ e (.inr (by rw [t];rfl));exact ⟨this.1,this.2.trans t⟩
theorem eY.mvf (h:eY CW CH p PL rs rws m nv ns r hh tw st ol hl n fs xs τ H) (q:∀j,j≠0->j<200->j≠43->Mv j τ H τ' H') (T:RT τ' H' r) (f:CV τ' H' hl fs') (l:fs'.length<=n):eY CW CH p PL rs rws m nv ns r hh tw st ol hl n fs' xs τ' H':=by
 have a:=b_ h.v8 h.Fp (q 40 (by decide) (by decide) (by decide));have b:=b_ h.est h.Lb (q 41 (by decide) (by decide) (by decide));have c:=b_ h.J3 h.tol (q 42 (by decide) (by decide) (by decide));refine ⟨T,h.g.mv (q 40 (by decide) (by decide) (by decide)),h.env.mv (q 40 (by decide) (by decide) (by decide)),h.h.mv (q 44 (by decide) (by decide) (by decide)),f,a.1,a.2,b.1,b.2,c.1,c.2,h.l0,h.l6,l,fun k x hx=>(h.x k x hx).mv (fun j hj=> ?_) T.un⟩;have kl:=(List.getElem?_eq_some_iff.mp hx).1;have:=h.l6;exact q j (by omega) (by omega) (by omega)
theorem eY.mv (h:eY CW CH p PL rs rws m nv ns r hh tw st ol hl n fs xs τ H) (q:∀j,j≠0->j<200->Mv j τ H τ' H') (T:RT τ' H' r):eY CW CH p PL rs rws m nv ns r hh tw st ol hl n fs xs τ' H':=h.mvf (fun j a b _=>q j a b) T (h.f.mv (q 43 (by decide) (by decide))) h.fl
theorem eY.same (h:eY CW CH p PL rs rws m nv ns r hh tw st ol hl n fs xs τ H) (s:Same H H'):eY CW CH p PL rs rws m nv ns r hh tw st ol hl n fs xs τ H':=h.mv (fun _ _ _=>Mv.of_same s) (h.T.same s)
theorem eY.draw (h:eY CW CH p PL rs rws m nv ns r hh tw st ol hl n fs xs τ H) (k:KR r H H') (R:dG H' r):eY CW CH p PL rs rws m nv ns r hh tw st ol hl n fs xs τ H':=h.mv (fun _ _ _=>h.T.kr k) (h.T.draw k R)
theorem eY.mono (h:eY CW CH p PL rs rws m nv ns r hh tw st ol hl n fs xs τ H) {n':Nat} (l:n<=n'):eY CW CH p PL rs rws m nv ns r hh tw st ol hl n' fs xs τ H:=⟨h.T,h.g,h.env,h.h.mono (by omega),h.f,h.v8,h.Fp,h.est,h.Lb,h.J3,h.tol,h.l0,h.l6,Nat.le_trans h.fl l,fun k x hx=>(h.x k x hx).mono l⟩
theorem eY.set (h:eY CW CH p PL rs rws m nv ns r hh tw st ol hl n fs xs τ H) {k:Nat} {x x':rQ} (hx:xs[k]? = some x) (eW:x'.W=x.W) (eL:x'.L=x.L) (eO:x'.O=x.O) (q:∀j,j≠0->j<200->j≠2*k+100->j≠2*k+101->j≠50+k->Mv j τ H τ' H') (T:RT τ' H' r) (o:oF CW CH τ' H' rws m ns n k x'):eY CW CH p PL rs rws m nv ns r hh tw st ol hl n fs (xs.set k x') τ' H':=by
 have kl:=(List.getElem?_eq_some_iff.mp hx).1;have l6:=h.l6
 have sm:∀(f:rQ->V),f x'=f x->(xs.set k x').map f=xs.map f:=fun f e=>by
  rw [List.map_set,e];refine List.ext_getElem? fun i=> ?_;rw [List.getElem?_set];split
  ·rename_i z
   subst z;rw [if_pos (by rw [List.length_map];exact kl),List.getElem?_map,hx];rfl
  ·rfl
 have a:=b_ h.v8 h.Fp (q 40 (by decide) (by decide) (by omega) (by omega) (by omega));have b:=b_ h.est h.Lb (q 41 (by decide) (by decide) (by omega) (by omega) (by omega));have c:=b_ h.J3 h.tol (q 42 (by decide) (by decide) (by omega) (by omega) (by omega));refine ⟨T,h.g.mv (q 40 (by decide) (by decide) (by omega) (by omega) (by omega)),h.env.mv (q 40 (by decide) (by decide) (by omega) (by omega) (by omega)),h.h.mv (q 44 (by decide) (by decide) (by omega) (by omega) (by omega)),h.f.mv (q 43 (by decide) (by decide) (by omega) (by omega) (by omega)),by rw [sm _ (by rw [eW])];exact a.1,a.2,by rw [sm _ (by rw [eL])];exact b.1,b.2,by rw [sm _ (by rw [eO])];exact c.1,c.2,by rw [List.length_set];exact h.l0,by rw [List.length_set];exact h.l6,h.fl,fun i z hz=> ?_⟩;rw [List.getElem?_set] at hz
 by_cases e:k=i
 ·subst e
  rw [if_pos rfl,if_pos kl] at hz;cases hz;exact o
 ·rw [if_neg e] at hz
  have il:=(List.getElem?_eq_some_iff.mp hz).1;exact (h.x i z hz).mv (fun j hj=>q j (by omega) (by omega) (by omega) (by omega) (by omega)) T.un
end
section
theorem Pg.Ol {τ:Tg} {H:Hp} {p L D:Addr} {rs:List Addr} {rws:List (List Rw)} {m:Nat} {te:TE} {Q:VK} {rest:St} (g:Pg τ H p L rs rws m) (hD:H D=none) (rl:rws.length<=100) (Wu:∀(r:Addr) (ts:List V) (H1:Hp) (F:VK),H1 r=some (.lst ts)->(∀q,H1 q=none->F (.ref q) (upd H1 q (.lst ts)))->te (some (.ref r)::rest) H1 F)
 (k:∀(qs:List Addr) (H':Hp),Same H H'->H' D=some (.lst (qs.map V.ref))->qs.length=rws.length->(∀(kk:Nat) (q:Addr) (x:List Rw),qs[kk]? = some q->rws[kk]? = some x->cW H' q m x)->(∀q∈qs,H q=none/\q≠D)->Q (.ref D) H'):jF (K9 K L) (bV 0) oJ te Q D (none::rest) H:=by
 refine eE (K:=K) (xs:=rs.map V.ref) (fun j σ Hc=>∃(v:Option V) (qs:List Addr),σ=v::rest/\qs.length=j/\Same H Hc/\Hc D=some (.lst (qs.map V.ref)) /\ ∀(kk:Nat) (q:Addr) (x:List Rw),qs[kk]? = some q->rws[kk]? = some x->(q≠D/\H q=none)/\cW Hc q m x) ?_ ?_ ?_ ?_
 ·exact ⟨none,[],rfl,rfl,aF hD,ao,fun kk q x e=>by simp at e⟩
 ·rintro j σ Hc _ ⟨v,qs,rfl,_,sc,_⟩
  exact aY.of (sc _ _ g.eL)
 ·rintro j x σ Hc hj ⟨v,qs,rfl,lj,sc,zf,hc⟩
  rw [List.getElem?_map] at hj
  obtain ⟨r0,Qk,rfl⟩:∃r0,rs[j]? = some r0/\x = .ref r0:=by
   cases e:rs[j]? with
   | none=>rw [e] at hj;cases hj
   | some r0=>rw [e] at hj;exact ⟨r0,rfl,(Option.some.inj hj).symm⟩
  have jl:j<rws.length:=by rw [←g.len];exact (List.getElem?_eq_some_iff.mp Qk).1
  have ex:rws[j]? = some rws[j]:=by simp [jl]
  obtain ⟨ts,hts,vC,rq,rl'⟩:=(g.row j r0 _ Qk ex).2;dsimp only [bV,oJ];rw [if_pos rfl];refine Wu r0 ts Hc _ (sc _ _ hts) (fun q hq=> ?_);have sr:=aF (o:=HO.lst ts) hq;have P_:q≠D:=(aC zf hq).symm;refine ⟨qs.map V.ref,sr _ _ zf,(by rw [List.length_map,sizeLine_eq];omega),_,qs++[q],rfl,by simp [lj],(sc.trans sr).newly hD,by rw [ao];simp,fun kk q' x' h1 h2=> ?_⟩
  have tups:∀y ys,Hc y=some (.tup ys)->(upd (upd Hc q (.lst ts)) D (.lst (qs.map V.ref++[V.ref q]))) y=some (.tup ys):=fun y ys e=>by
   rw [aD (cG e zf (by intro z;cases z))];exact sr _ _ e
  rcases fW h1 with h1|⟨e1,rfl⟩
  ·obtain ⟨n1,R1⟩:=hc kk q' x' h1 h2
   exact ⟨n1,R1.keep (fun u e=>by rw [aD n1.1];exact sr _ _ e) tups⟩
  ·rw [e1,lj,ex] at h2
   cases h2;exact ⟨⟨P_,sc.free hq⟩,ts,by rw [aD P_,ao],vC.keep (fun y ys e=>tups _ _ (sc _ _ e)) _ (p8 _),rq,rl'⟩
 ·rintro σ Hc ⟨v,qs,rfl,lj,sc,zf,hc⟩
  rw [List.length_map,g.len] at lj
  exact k qs Hc sc zf lj (fun kk q x h1 h2=>(hc kk q x h1 h2).2) fun q hq=>by
   obtain ⟨i,hi,e⟩:=List.getElem_of_mem hq;have:=(hc i q rws[i]! (by rw [List.getElem?_eq_getElem hi,e]) (by rw [List.getElem!_eq_getElem?_getD,List.getElem?_eq_getElem (by omega)];rfl)).1;exact ⟨this.2,this.1⟩
end
theorem H_ {K:PySem.W.Frag} {H H':Hp} {a:Addr} {xs:List V} (h:aY K H a xs) (k:∀o,H a=some o->H' a=some o):aY K H' a xs:=by
 rcases h with (h|⟨o,h⟩)|h
 ·exact .inl (.inl (k _ h))
 ·exact .inl (.inr ⟨o,k _ h⟩)
 ·exact .inr h
structure u6 (p PL:Addr) (rs:List Addr) (rws:List (List Rw)) (m:Nat) (nv:V) (ns:List Int) (r hh:Addr) (τ:Tg) (H:Hp):Prop where
 T:RT τ H r
 g:Pg τ H p PL rs rws m
 env:NumV τ H nv ns m
 h:Hh τ H hh 60
theorem u6.mv {p PL:Addr} {rs:List Addr} {rws:List (List Rw)} {m:Nat} {nv:V} {ns:List Int} {r hh:Addr} {τ τ':Tg} {H H':Hp} (h:u6 p PL rs rws m nv ns r hh τ H) (q:∀j,Mv j τ H τ' H') (T:RT τ' H' r):u6 p PL rs rws m nv ns r hh τ' H':=⟨T,h.g.mv (q 0),h.env.mv (q 0),h.h.mv (q 44)⟩
theorem u6.claim {p PL:Addr} {rs:List Addr} {rws:List (List Rw)} {m:Nat} {nv:V} {ns:List Int} {r hh a:Addr} {τ:Tg} {H:Hp} {o:HO} {t:List Nat} (h:u6 p PL rs rws m nv ns r hh τ H) (ha:H a=none):u6 p PL rs rws m nv ns r hh (aM τ a t) (upd H a o):=h.mv (fun _=>Mv.claim (aF ha) ha) (h.T.claim (aF ha) ha ⟨_,ao⟩)
theorem RT.Wi {τ τ':Tg} {H H':Hp} {r:Addr} {j:Nat} (h:RT τ H r) (k:lW j τ H H') (t:∀x u,H x=some u->τ' x=τ x) (un:j8 τ' H'):RT τ' H' r:=by
 have h':=h.stp k;refine ⟨h'.R,fun x o e n=> ?_,un⟩;cases q:H x with
 | some u=>exact h'.off x o e (by rw [←t x u q];exact n)
 | none=>
   obtain ⟨g,c,gs,cs,p,tt,e1,e2,e3,q'⟩:=h.R;refine ⟨(aC e1 q).symm,fun g' c' u v e'=> ?_⟩
   have tr:τ r=[]:=by
    by_cases z:τ r=[]
    ·exact z
    ·exact absurd rfl (h.off r _ e1 z).1
   rw [k.keep _ _ e1 (by rw [tr];simp)] at e';cases e';exact ⟨(fun z=>by rw [z,e2] at q;cases q),(fun z=>by rw [z,e3] at q;cases q)⟩
theorem qC (X:List (List Int)):SeqAt.shaped (Wn X)=true:=by
 have c:∀x:List Int,PyData.canLay0 (.list (x.map PyData.int))=true/\PyData.depth (.list (x.map PyData.int))<=1:=fun x=>by
  have e:=shaped_ints x;simp only [SeqAt.shaped,PyData.depth,PyData.canLay0,Bool.and_eq_true,decide_eq_true_eq] at e ⊢;have d1:PyData.depthAll (x.map PyData.int)<=0:=cV _ 0 x (fun _ _=>by show 0<=0;decide);exact ⟨e.1,by omega⟩
 have d2:PyData.depthAll (X.map fun x=>PyData.list (x.map PyData.int))<=1:=cV _ 1 X (fun x _=>(c x).2)
 have l2:PyData.canLayAll0 (X.map fun x=>PyData.list (x.map PyData.int))=true:=by
  clear d2
  induction X with
  | nil=>rfl
  | cons x X ih=>simp only [List.map_cons,PyData.canLayAll0,Bool.and_eq_true];exact ⟨(c x).1,ih⟩
 simp only [SeqAt.shaped,Wn,PyData.depth,PyData.canLay0,Bool.and_eq_true,decide_eq_true_eq];refine ⟨?_, ?_⟩<;>first |exact l2|omega|(have:=d2;omega)
def Ab (τ:Tg):Tg:=fun x=>if (τ x).head?.getD 1000<200 then τ x else []
theorem Ng {τ:Tg} {H:Hp} {j:Nat} (hj:j<200):Mv j τ H (Ab τ) H:=⟨fun x o e t=>⟨e,by
 unfold Ab;rw [if_pos];rcases t with t|t
 ·rw [t];decide
 ·rw [t];exact hj⟩,fun x xs e=>e⟩
theorem Nf {τ:Tg} {H:Hp} {r:Addr} (T:RT τ H r):RT (Ab τ) H r:=⟨T.R,fun x o e t=>T.off x o e fun z=>t (by unfold Ab;split<;>first |exact z|rfl),fun x e=>by
 unfold Ab;split
 ·exact T.un x e
 ·rfl⟩
theorem Jx {τ:Tg} (x:Addr):(Ab τ x).head?≠some 300:=by
 unfold Ab;split
 ·rename_i q
  intro z;rw [z] at q;exact absurd q (by decide)
 ·intro z;cases z
def Ds (K:PySem.W.Frag):Sp:=fun vs H Q _=>∃(a:Addr) (ns:List Int),vs=[.ref a]/\aY K H a (ns.map V.int)/\ns.length<=63 /\ ∀H',Q (.bl true) H'
theorem Rr {ak au:Addr} {f:Addr} {fd:FuncData} (F:fj K "law" "law" Ij f fd) (O6:FnAt P w K mg base 1 "_law_reel" ["script"] (Dp K)) (bO:FnAt P w K mg base 1 "_law_draw" ["reel","many"] (gZ K)) (Dg:FnAt P w K mg base 5 "_law_program" ["reel"] (Ib K)) (Dh:FnAt P w K mg base 2 "_law_numbers" ["reel","many"] (Ig K)) (G7:FnAt P w K mg base 9 "_law_handed" ["program","numbers"] (tQ ak au K)) (Kz:FnAt P w K mg base 7 "_law_first" ["program","numbers"] (Dt K)) (G8:FnAt P w K mg base 1 "_law_copied" ["state"] (zE K)) (G6:FnAt P w K mg base 2 "_law_spoilt" ["reel","hands"] (tK K)) (Df:FnAt P w K mg base 10 "_law_refused" ["reel","one","state"] (mJ ak au K)) (OJ:FnAt P w K mg base 8 "_law_turn" ["reel","one","state","program","order"] (tG ak au K)) (O7:FnAt P w K mg base 6 "_law_look" ["one","state","held","spoils"] (Bm ak au K)) (Dd:FnAt P w K mg base 5 "_law_same_as" ["twins","states","at","to"] (tM ak au K)) (O_:FnAt P w K mg base 10 "_law_anew" ["program","numbers","order"] (Bq ak au K)) (Dj:FnAt P w K mg base 6 "_law_all" ["works","state"] (zF ak au K)) (lG:MethAt P w K mg base 9 ak "twin" ["self"] (wQ ak au K)) (dX:MethAt P w K mg base 3 ak "__eq__" ["self","other"] (vN ak au K)) (yV:YQ K ak) (aK:cM K ak) (Bt:mC mg):bU P w K mg base gF 11 f fd ["script"] (Ds K):=by
 refine F.ok fu (fun vs H Q E h=> ?_) (fun cdv A outer s H vs Q E hr h=> ?_)
 ·obtain ⟨a,ns,rfl,_⟩:=h
  rfl
 ·obtain ⟨sc,Us,rfl,hs0,hlen,k⟩:=h
  have qb:=hr.units
  refine ⟨_,(aB (aW (i:=1) fu.nd rfl (Or.inl rfl) (bF O6 (hr.mono (by decide)) (by rfl) (aj (pv 0) aq)))
   (aB (aW (i:=2) fu.nd rfl (Or.inl rfl) (bF Dg (hr.mono (by decide)) (by rfl) (aj (pv 1) aq)))
   (aB (aW (i:=3) fu.nd rfl (Or.inl rfl) (bF Dh (hr.mono (by decide)) (by rfl) (aj (pv 1) (aj (aJ (aU (K:=K) rfl) (pv 2) aA (fun _ _=>rfl)) aq))))
   (aB (pX (i:=4) rfl fu.nd rfl (Or.inl rfl) (N:=["rows"]) (own:=["rows"]) (caps:=[]) (bh.of (by kernel_rfl)) (cj (K:=K) rfl (aJ (aU (K:=K) rfl) (pv 2) aA (fun _ _=>rfl))) (fun _ _ _ _=>(bI (i:=0) (show List.Nodup (["rows"]:List Str) by decide +kernel) rfl (Or.inl rfl))) (fun _ _ _ _=>cB) (fun _ _ _ _=>(bT (bG (K:=K) rfl) (by rfl) Bt.dg cN (aj (pv 0) aq))))
   (aB (aW (i:=5) fu.nd rfl (Or.inl rfl) (cC (aj (bF G7 (hr.mono (by decide)) (by rfl) (aj (cZ (aj (aJ (aU (K:=K) rfl) (pv 2) aA (fun _ _=>rfl)) (aj (pv 4) aq))) (aj (pv 3) aq))) aq)))
   (aB (aW (i:=6) fu.nd rfl (Or.inl rfl) (cC (aj (bF Kz (hr.mono (by decide)) (by rfl) (aj (pv 2) (aj (pv 3) aq))) aq)))
   (aB (aW (i:=7) fu.nd rfl (Or.inl rfl) (cC (aj (cC aq) aq)))
   (aB (aW (i:=8) fu.nd rfl (Or.inl rfl) (cC aq))
   (aB (jO PassesOwn.never rfl (dj (by rfl) Bt.fL (aj (bQ eG aA (bf (GX rfl) (by rfl) Bt.Xf Tq (aj (bf (bC (K:=K) rfl) (by rfl) Bt.dU cU (aj (pv 0) aq)) (aj aA aq)))) aq)) (bI (i:=9) fu.nd rfl (Or.inl rfl))
   (aB (aW (i:=10) fu.nd rfl (Or.inl rfl) (bF bO (hr.mono (by decide)) (by rfl) (aj (pv 1) (aj aA aq))))
   (aB (aW (i:=11) fu.nd rfl (Or.inl rfl) (bF bO (hr.mono (by decide)) (by rfl) (aj (pv 1) (aj (bf (bC (K:=K) rfl) (by rfl) Bt.dU cU (aj (pv 5) aq)) aq))))
   (aB (aW (i:=12) fu.nd rfl (Or.inl rfl) (bF bO (hr.mono (by decide)) (by rfl) (aj (pv 1) (aj (bf (bC (K:=K) rfl) (by rfl) Bt.dU cU (aj (pv 5) aq)) aq))))
   (aB (aW (i:=13) fu.nd rfl (Or.inl rfl) (aJ (aH (K:=K) rfl) (pv 5) (pv 11) (fun _ _=>rfl)))
   (aB (aW (i:=14) fu.nd rfl (Or.inl rfl) (aJ (aH (K:=K) rfl) (pv 6) (pv 11) (fun _ _=>rfl)))
   (aB (bL (PW.pt (jN (aQ cA (pv 10) aA (aR _)) (i_ (aQ iY (bf (bC (K:=K) rfl) (by rfl) Bt.dU cU (aj (pv 5) aq)) aA (aR _))))) (aB (cH (dz (K:=K) rfl (pv 5) (aj (cY lG aK.cls (hr.mono (by decide)) (pv 13)) aq)))
   (aB (cH (dz (K:=K) rfl (pv 6) (aj (bF G8 (hr.mono (by decide)) (by rfl) (aj (pv 14) aq)) aq)))
   (aG (cH (dz (K:=K) rfl (pv 7) (aj (bT (bG (K:=K) rfl) (by rfl) Bt.dg cN (aj (aJ (aH (K:=K) rfl) (pv 7) (pv 11) (fun _ _=>rfl)) aq)) aq)))))) (aG (bL (aQ cA (pv 10) aA (aR _)) (aG (cH (bF G6 (hr.mono (by decide)) (by rfl) (aj (pv 1) (aj (pv 4) aq))))) (aG (bL (PW.pt (jN (aQ cA (pv 10) aA (aR _)) (i_ (fD (dR (bF Df (hr.mono (by decide)) (by rfl) (aj (pv 1) (aj (pv 13) (aj (pv 14) aq))))))))) (aG (aV gH)) (aG (bL (PW.pt (jN (aQ I_ (pv 10) aA (aR _)) (i_ (fD (dR (bF OJ (hr.mono (by decide)) (by rfl) (aj (pv 1) (aj (pv 13) (aj (pv 14) (aj (pv 2) (aj (aJ (aH (K:=K) rfl) (pv 7) (pv 11) (fun _ _=>rfl)) aq))))))))))) (aG (aV gH)) bw)))))))
   (aB (bL (fD (dR (bF O7 (hr.mono (by decide)) (by rfl) (aj (aJ (aH (K:=K) rfl) (pv 5) (pv 12) (fun _ _=>rfl)) (aj (aJ (aH (K:=K) rfl) (pv 6) (pv 12) (fun _ _=>rfl)) (aj (pv 8) (aj (cT cA (bF bO (hr.mono (by decide)) (by rfl) (aj (pv 1) (aj aA aq))) aA (aR _)) aq))))))) (aG (aV gH)) bw)
   (aG (bL (fD (dR (bF Dd (hr.mono (by decide)) (by rfl) (aj (pv 5) (aj (pv 6) (aj (pv 11) (aj (pv 12) aq))))))) (aG (aV gH)) bw))))))))))
   (aB (jO PassesOwn.never rfl (dj (by rfl) Bt.fL (aj (bf (bC (K:=K) rfl) (by rfl) Bt.dU cU (aj (pv 5) aq)) aq)) (bI (i:=11) fu.nd rfl (Or.inl rfl))
   (aB (aW (i:=15) fu.nd rfl (Or.inl rfl) (bF O_ (hr.mono (by decide)) (by rfl) (aj (pv 2) (aj (pv 3) (aj (aJ (aH (K:=K) rfl) (pv 7) (pv 11) (fun _ _=>rfl)) aq)))))
   (aG (bL (PW.pt (lN (fD (dR (bF Dj (hr.mono (by decide)) (by rfl) (aj (aJ (aH (K:=K) rfl) (pv 5) (pv 11) (fun _ _=>rfl)) (aj (aJ (aH (K:=K) rfl) (pv 6) (pv 11) (fun _ _=>rfl)) aq))))) (iM (aQ (Ri yV dX (hr.mono (by decide))) (aJ (aH (K:=K) rfl) (pv 5) (pv 11) (fun _ _=>rfl)) (pv 15) (aR _))))) (aG (aV gH)) bw))))
   (aG (aV (bf (iV (K:=K) rfl rfl) (by rfl) Bt.Kr CK (aj (cI rfl (N:=["told","kept"]) (own:=["told","kept"]) (caps:=[]) (bh.of (by kernel_rfl)) (cj (K:=K) rfl (pv 8)) (fun _ _ _ _=>(xV (K:=K) (n:=2) rfl rfl (iy (bI (i:=0) (show List.Nodup (["told","kept"]:List Str) by decide +kernel) rfl (Or.inl rfl)) (iy (bI (i:=1) (show List.Nodup (["told","kept"]:List Str) by decide +kernel) rfl (Or.inl rfl)) sG)))) (fun _ _ _ _=>cB) (fun _ _ _ _=>(cT (DX (K:=K) rfl qb) (pv 0) (pv 1) (aR _)))) aq)))))))))))))), ?_⟩
  refine ⟨_,rfl,sc,Us,rfl,hs0,hlen,fun r H1 hr0 R1 s1=> ?_⟩;have T1:RT (fun _=>[]) H1 r:=⟨R1,fun x o e t=>absurd rfl t,fun _ _=>rfl⟩;dsimp only [bV];refine ⟨_,rfl,r,_,rfl,T1,fun p PL rs rws m τ3 H3 g3 w0 w8 m0 Wj Wr T3 tg3 Uz=> ?_⟩;dsimp only [bV];refine ⟨_,rfl,_,rfl,_,_,_,_,rfl,rfl,cu.of g3.ep,rfl,r,τ3,m,rfl,T3,Wj,fun nv ns τ4 H4 nv4 T4 Uk Ec=> ?_⟩;have Wg:∀i,Mv i τ3 H3 τ4 H4:=fun i=>⟨fun x o e t=>⟨Ec _ _ e (T3.off x o e (by rcases t with t|t;rw [t];simp;intro z;rw [z] at t;cases t)).1,Uk x o e⟩,fun x xs e=>T3.R.tups Ec _ _ e⟩;have g4:=g3.mv (Wg 0);have hs4:aY K H4 sc (Us.map V.int):=H_ hs0 fun o e=>Ec _ _ (Uz _ _ (s1 _ _ e) (aC e hr0)) (aC e hr0);dsimp only [bV];refine ⟨_,rfl,_,_,_,_,rfl,rfl,cu.of g4.ep,rfl,PL,rfl,⟨_,aY.of g4.eL⟩,fun hh hhh=> ?_⟩;refine g4.Ol hhh (by omega) (fun r ts H1 F hr kF=>⟨_,rfl,r,_,rfl,.inl (aY.of hr),fun q hq=>kF q hq⟩) (fun qs H5 VB YG lq hq hnew=> ?_)
  have P5:∃τ5,u6 p PL rs rws m nv ns r hh τ5 H5:=by
   refine ⟨fun x=>if x=hh then [44,0] else if x∈qs then [44,1] else τ4 x, ?_⟩
   have tg:∀x u,H4 x=some u->(if x=hh then [44,0] else if x∈qs then [44,1] else τ4 x:List Nat)=τ4 x:=fun x u e=>by
    rw [if_neg (aC e hhh),if_neg fun z=>by rw [(hnew x z).1] at e;cases e]
   have qin:∀q∈qs,∃xs:List V,H5 q=some (.lst xs)/\xs.length<=60:=fun q hx=>by
    obtain ⟨i,hi,e⟩:=List.getElem_of_mem hx;have il:i<rws.length:=by omega
    obtain ⟨ts,e1,e2,_⟩:=hq i q rws[i] (by rw [List.getElem?_eq_getElem hi,e]) (List.getElem?_eq_getElem il);refine ⟨ts,e1, ?_⟩;rw [e2.length,List.length_map];exact Wr _ (List.getElem_mem il)
   have T5:=T4.made VB tg fun x e=>by
    have n1:x≠hh:=fun z=>by rw [z,YG] at e;cases e
    have n2:x∉qs:=fun z=>by obtain ⟨ts,e1,_⟩:=qin x z;rw [e1] at e;cases e
    rw [if_neg n1,if_neg n2];exact T4.un x (VB.free e)
   exact ⟨T5,g4.mv (Mv.tags (i:=0) VB tg),nv4.mv (Mv.tags (i:=0) VB tg),qs,YG,by omega,if_pos rfl,fun q hx=>⟨(if_neg (hnew q hx).2).trans (if_pos hx),qin q hx⟩⟩
  obtain ⟨τ5,P5⟩:=P5;have hs5:=VB.Fy _ _ hs4;clear g3 T3 tg3 Uz Wg g4 Uk Ec T4 nv4 T1 R1;dsimp only [bV];refine ⟨_,rfl,_,_,_,_,rfl,rfl,cu.of P5.g.ep,rfl,_,rfl,(by show 2<=sizeLine;decide),fun t ht=> ?_⟩;have st:=aF (o:=HO.tup [V.int m,V.ref hh]) ht;have P6:=P5.mv (fun _=>Mv.of_same st) (P5.T.same st);refine ⟨_,rfl,100,τ5,t,hh,qs,rws,m,nv,ns,rfl,ao,st _ _ YG,lq,fun kk q x h1 h2=>(hq kk q x h1 h2).same st,by omega,by omega,P6.env,P6.T.un,by decide,fun W τ7 H7 w7 tg7 s7=>⟨(by show 1<=sizeLine;decide),fun tw htw=> ?_⟩⟩;have hs7:=s7.Fy _ _ (st.Fy _ _ hs5);have P7:=P6.mv (fun _=>Mv.tags s7 tg7) (P6.T.made s7 tg7 w7.un);clear P5 P6 hs5 hs4 hq YG hnew;have P8:=P7.claim (o:= .lst [V.ref W.o]) (t:=[40]) htw;have s8:=aF (o:=HO.lst [V.ref W.o]) htw;have X4:=w7.mv (Mv.claim (p:=tw) (t:=[40]) s8 htw) P8.T.un;have v8:(upd H7 tw (.lst [V.ref W.o])) tw=some (.lst [V.ref W.o]):=ao;have Fp:aM τ7 tw [40] tw=[40]:=bB;have hs8:=s8.Fy _ _ hs7;generalize (upd H7 tw (.lst [V.ref W.o]))=H8 at s8 P8 X4 v8 hs8 ⊢;generalize aM τ7 tw [40]=τ8 at P8 X4 Fp;clear P7 w7 s8 hs7;dsimp only [bV];refine ⟨_,rfl,_,rfl,101,τ8,p,PL,rs,rws,m,nv,ns,rfl,P8.g,by omega,by omega,P8.env,P8.T.un,fun L τ9 H9 l9 Uj Ld s9=>⟨(by show 1<=sizeLine;decide),fun st hst=> ?_⟩⟩;have P9:=P8.mv (fun _=>Mv.tags s9 Ld) (P8.T.made s9 Ld Uj);have w9:=X4.mv (Mv.tags s9 Ld) Uj;have a9:=b_ v8 Fp (Mv.tags s9 Ld);have hs9:=s9.Fy _ _ hs8;have XC:=P9.claim (o:= .lst [V.ref L.st]) (t:=[41]) hst;have Zv:=aF (o:=HO.lst [V.ref L.st]) hst;have YJ:∀j,Mv j τ9 H9 (aM τ9 st [41]) (upd H9 st (.lst [V.ref L.st])):=fun j=>Mv.claim Zv hst;have w10:=w9.mv (YJ 100) XC.T.un;have l10:=l9.mv (YJ 101);have a10:=b_ a9.1 a9.2 (YJ 40);have est:(upd H9 st (.lst [V.ref L.st])) st=some (.lst [V.ref L.st]):=ao;have Lb:aM τ9 st [41] st=[41]:=bB;have Sv:=Zv.Fy _ _ hs9;generalize (upd H9 st (.lst [V.ref L.st]))=G5 at XC w10 l10 a10 est Sv ⊢;generalize aM τ9 st [41]=vg at XC w10 l10 a10 Lb;clear P8 P9 X4 w9 l9 a9 s9 Zv YJ hs8 hs9 v8 Fp;dsimp only [bV];refine ⟨(by show 0<=sizeLine;decide),fun O hO=> ?_⟩;have Xz:=XC.claim (o:= .lst []) (t:=[50]) hO;have Zu:=aF (o:=HO.lst []) hO;have Xc:∀j,Mv j vg G5 (aM vg O [50]) (upd G5 O (.lst [])):=fun j=>Mv.claim Zu hO;have w11:=w10.mv (Xc 100) Xz.T.un;have Yv:=l10.mv (Xc 101);have a11:=b_ a10.1 a10.2 (Xc 40);have Xi:=b_ est Lb (Xc 41);have eO:(upd G5 O (.lst [])) O=some (.lst []):=ao;have tO:aM vg O [50] O=[50]:=bB;have Ss:=Zu.Fy _ _ Sv;generalize (upd G5 O (.lst []))=Ua at Xz w11 Yv a11 Xi eO Ss ⊢;generalize aM vg O [50]=XQ at Xz w11 Yv a11 Xi tO;clear XC w10 l10 a10 Zu Xc Sv est Lb;refine ⟨(by show 1<=sizeLine;decide),fun ol hol=> ?_⟩;have Xy:=Xz.claim (o:= .lst [V.ref O]) (t:=[42]) hol;have s12:=aF (o:=HO.lst [V.ref O]) hol;have c12:∀j,Mv j XQ Ua (aM XQ ol [42]) (upd Ua ol (.lst [V.ref O])):=fun j=>Mv.claim s12 hol;have w12:=w11.mv (c12 100) Xy.T.un;have Yu:=Yv.mv (c12 101);have a12:=b_ a11.1 a11.2 (c12 40);have Xh:=b_ Xi.1 Xi.2 (c12 41);have V8:=b_ eO tO (c12 50);have J3:(upd Ua ol (.lst [V.ref O])) ol=some (.lst [V.ref O]):=ao;have tol:aM XQ ol [42] ol=[42]:=bB;have Sh:=s12.Fy _ _ Ss;generalize (upd Ua ol (.lst [V.ref O]))=T_ at Xy w12 Yu a12 Xh V8 J3 Sh ⊢;generalize aM XQ ol [42]=XM at Xy w12 Yu a12 Xh V8 tol;clear Xz w11 Yv a11 Xi s12 c12 Ss eO tO;dsimp only [bV];refine ⟨(by show 0<=sizeLine;decide),fun hl K3=> ?_⟩;have Ow:=Xy.claim (o:= .lst []) (t:=[43]) K3;have QS:=aF (o:=HO.lst []) K3;have Km:∀j,Mv j XM T_ (aM XM hl [43]) (upd T_ hl (.lst [])):=fun j=>Mv.claim QS K3;have w13:=w12.mv (Km 100) Ow.T.un;have Qe:=Yu.mv (Km 101);have a13:=b_ a12.1 a12.2 (Km 40);have Xg:=b_ Xh.1 Xh.2 (Km 41);have V7:=b_ V8.1 V8.2 (Km 50);have sI:=b_ J3 tol (Km 42);have ehl:(upd T_ hl (.lst [])) hl=some (.lst []):=ao;have Y_:aM XM hl [43] hl=[43]:=bB;have Sg:=QS.Fy _ _ Sh;generalize (upd T_ hl (.lst []))=H13 at Ow w13 Qe a13 Xg V7 sI ehl Sg ⊢;generalize aM XM hl [43]=abO at Ow w13 Qe a13 Xg V7 sI Y_;clear Xy w12 Yu a12 Xh V8 QS Km Sh J3 tol
  have y13:jB ak au (2*0+100) (2*0+101) abO H13 W (lE m ns rws) L (List.replicate rws.length 0) rws m:=⟨w13,Qe,by
   show Cn [] (rws.map _).length _;rw [List.length_map];exact Tj _,rfl,Gz Ow.env.1.2,by show (rws.map _).length=_;rw [List.length_map],fun kk s' e=>by
   have e:(rws.map fun r=>lead (new r))[kk]? = some s':=e;rw [List.getElem?_map] at e;cases q:rws[kk]? with
   | none=>rw [q] at e;cases e
   | some x=>rw [q] at e;cases e;rw [show (lead (new x)).rws=x from k_ _ _]⟩
  have I0:eY ak au p PL rs rws m nv ns r hh tw st ol hl 0 [] [⟨W,lE m ns rws,L,List.replicate rws.length 0,O,[]⟩] abO H13:=⟨Ow.T,Ow.g,Ow.env,Ow.h,⟨ehl,Y_,fun q hq=>by simp at hq⟩,a13.1,a13.2,Xg.1,Xg.2,sI.1,sI.2,(by show 0<1;decide),(by show 1<=6;decide),Nat.le_refl _,fun k x hx=>by
   cases k with
   | zero=>cases hx;exact ⟨y13,V7.1,V7.2,fun j k h=>by simp at h,rfl,Nat.le_refl _,Nat.le_refl _⟩
   | succ k=>simp at hx⟩
  clear Ow w13 Qe a13 Xg V7 sI ehl Y_ y13;dsimp only [bV];refine g_ (fun σ Hx=>∃(x9 x10 x11 x12 Fe Fd:Option V) (fs:List (Addr×Addr×Addr)) (xs:List rQ) (τ:Tg),σ=[some (.ref sc),some (.ref r),some (.ref p),some nv,some (.ref hh),some (.ref tw),some (.ref st),some (.ref ol),some (.ref hl),x9,x10,x11,x12,Fe,Fd,none]/\eY ak au p PL rs rws m nv ns r hh tw st ol hl 80 fs xs τ Hx) (fun D' hD' Sw=> ?_) ?_
  ·refine ⟨_,rfl,sc,_,rfl,.inl Sg,_,_,rfl,_,_,rfl,rfl,_,rfl, ?_, ?_, ?_⟩
   ·rw [List.length_map];split<;>omega
   ·rw [List.length_map];split<;>omega
   have stl:((12:Int)+(if 63<((Us.map V.int).length:Int) then 63 else ((Us.map V.int).length:Int))).toNat<=75:=by
    rw [List.length_map];split<;>omega
   generalize ((12:Int)+(if 63<((Us.map V.int).length:Int) then 63 else ((Us.map V.int).length:Int))).toNat=stp at stl ⊢;refine nQ (lo:=0) (n:=stp) (fun n σ Hx=>∃(x9 x10 x11 x12 Fe Fd:Option V) (fs:List (Addr×Addr×Addr)) (xs:List rQ) (τ:Tg),σ=[some (.ref sc),some (.ref r),some (.ref p),some nv,some (.ref hh),some (.ref tw),some (.ref st),some (.ref ol),some (.ref hl),x9,x10,x11,x12,Fe,Fd,none]/\eY ak au p PL rs rws m nv ns r hh tw st ol hl n fs xs τ Hx) ⟨_,_,_,_,_,_,_,_,_,rfl,I0⟩ ?_ (fun σ Hx ⟨x9,x10,x11,x12,Fe,Fd,fs,xs,τ,e,I⟩=>hD' _ _ ⟨x9,x10,x11,x12,Fe,Fd,fs,xs,τ,e,I.mono (by omega)⟩);clear I0 Sg;rintro n σ Hc hn ⟨x9,x10,x11,x12,Fe,Fd,fs,xs,τ,rfl,I⟩;dsimp only [bV];refine ⟨_,rfl,r,8,rfl,I.T.R,by decide,by decide,fun dd H1 dd0 dd1 R1 k1=> ?_⟩;have I1:=I.draw k1 R1;clear I;dsimp only [bV];refine ⟨_,rfl,_,rfl,tw,_,rfl,.inl (aY.of I1.v8),r,_,rfl,I1.T.R,by rw [List.length_map];have:=I1.l0;omega,by rw [List.length_map];have:=I1.l6;omega,fun a H2 a0 a1 R2 k2=> ?_⟩;have I2:=I1.draw k2 R2;rw [List.length_map] at a1;clear I1 k1 R1;dsimp only [bV];refine ⟨_,rfl,_,rfl,tw,_,rfl,.inl (aY.of I2.v8),r,_,rfl,I2.T.R,by rw [List.length_map];have:=I2.l0;omega,by rw [List.length_map];have:=I2.l6;omega,fun b H3 b0 b1 R3 k3=> ?_⟩;have I3:=I2.draw k3 R3;rw [List.length_map] at b1;clear I2 k2 R2;obtain ⟨a,rfl⟩:=Int.eq_ofNat_of_zero_le a0;obtain ⟨b,rfl⟩:=Int.eq_ofNat_of_zero_le b0;have at':∀(f:rQ->V) {n:Nat} {x:rQ} {l:List rQ},l[n]? = some x->qm (l.map f) (n:Int)=some (f x):=fun f {n x l} e=>bW (by rw [List.getElem?_map,e];rfl);obtain ⟨xa,ea⟩:∃xa,xs[a]? = some xa:=⟨_,List.getElem?_eq_getElem (by omega)⟩;have oa:=I3.x a xa ea;dsimp only [bV];refine ⟨_,rfl,_,rfl,_,_,_,_,rfl,rfl,aY.of I3.v8,at' (fun x=>V.ref x.W.o) ea, ?_⟩;dsimp only [bV];refine ⟨_,rfl,_,rfl,_,_,_,_,rfl,rfl,aY.of I3.est,at' (fun x=>V.ref x.L.st) ea, ?_⟩;dsimp only [bV];have two:∀{xs:List rQ} {k:Nat} {x:rQ},xs[k]? = some x->k<xs.length:=fun e=>(List.getElem?_eq_some_iff.mp e).1;refine g_ (fun σ Hx=>∃(fs:List (Addr×Addr×Addr)) (xs:List rQ) (τ:Tg),σ=[some (.ref sc),some (.ref r),some (.ref p),some nv,some (.ref hh),some (.ref tw),some (.ref st),some (.ref ol),some (.ref hl),some (.int (0+(n:Int))),some (.int dd),some (.int a),some (.int b),some (.ref xa.W.o),some (.ref xa.L.st),none]/\eY ak au p PL rs rws m nv ns r hh tw st ol hl (n+1) fs xs τ Hx/\a<xs.length/\b<xs.length/\fs.length<=n) (fun D' hD' Sw=> ?_) ?_
   ·have nothing:∀Hx,Same H3 Hx->D'.nx [some (.ref sc),some (.ref r),some (.ref p),some nv,some (.ref hh),some (.ref tw),some (.ref st),some (.ref ol),some (.ref hl),some (.int (0+(n:Int))),some (.int dd),some (.int a),some (.int b),some (.ref xa.W.o),some (.ref xa.L.st),none] Hx:=fun Hx sx=>hD' _ _ ⟨fs,xs,τ,rfl,(I3.same sx).mono (by omega),by omega,by omega,I3.fl⟩
    have l0:=I3.l0;have l6:=I3.l6;refine ⟨_,rfl,rfl,_,rfl, ?_⟩
    by_cases q0:dd=0
    ·rw [decide_eq_true (congrArg V.int q0)]
     refine dM ?_;refine ⟨_,rfl,tw,_,rfl,.inl (aY.of I3.v8),_,_,rfl,rfl,_,rfl, ?_⟩;rw [List.length_map]
     by_cases q6:xs.length<6
     rotate_left
     ·rw [decide_eq_false (by omega)]
      refine cD ?_;refine ⟨_,rfl,rfl,_,rfl, ?_⟩;rw [decide_eq_false (fun z=>by have:=V.int.inj z;omega)];refine cD ?_;refine ⟨_,rfl,rfl,_,rfl, ?_⟩;rw [decide_eq_false (fun z=>by have:=V.int.inj z;omega)];refine cD (cD ?_);refine ⟨_,rfl,_,_,rfl,rfl,_,rfl, ?_⟩;rw [decide_eq_false (by omega)];exact cD (cD (nothing _ (Same.refl _)))
     rw [decide_eq_true (by omega)];refine dM ?_;refine ⟨_,rfl,.inl ⟨rfl,_,aY.of I3.v8⟩,_,rfl,xa.W.o,xa.W.dx,_,rfl,oa.y.w.o,rfl,2*a+100,2*xs.length+100,τ,xa.W,xa.S,rfl,oa.y.w,oa.y.gd,by have:=oa.y.em;omega,by omega,fun τ4 W' H4 w4 Uk s4=> ?_⟩;have T4:=I3.T.made s4 Uk w4.un;have I4:=I3.mv (fun _ _ _=>Mv.tags s4 Uk) T4;refine ⟨tw,_,_,rfl,rfl,I4.v8,by rw [List.length_map,sizeLine_eq];omega, ?_⟩;have vm:lW 40 τ4 H4 (upd H4 tw (.lst ((xs.map fun x=>V.ref x.W.o)++[V.ref W'.o]))):=lW.set (by rw [I4.Fp];rfl) I4.v8 (by intro xs z;cases z);have JZ:(upd H4 tw (.lst ((xs.map fun x=>V.ref x.W.o)++[V.ref W'.o]))) tw=some (.lst ((xs.map fun x=>V.ref x.W.o)++[V.ref W'.o])):=ao;generalize (upd H4 tw (.lst ((xs.map fun x=>V.ref x.W.o)++[V.ref W'.o])))=H5 at vm JZ ⊢;have q5:∀j,j≠0->j<200->j≠40->Mv j τ4 H4 τ4 H5:=fun j _ _ n=>Mv.gC vm (fun z=>n z.symm) (by decide);have T5:=T4.stp vm;have w5:=w4.mv (Mv.gC (i:=2*xs.length+100) vm (by omega) (by decide)) T5.un;have la5:=(I4.x a xa ea).y.l.mv (q5 (2*a+101) (by omega) (by omega) (by omega));have S8:=b_ I4.est I4.Lb (q5 41 (by decide) (by decide) (by decide));have Ob:=b_ I4.J3 I4.tol (q5 42 (by decide) (by decide) (by decide));have hla:=oa.y.w.hn;refine ⟨_,rfl,.inl ⟨rfl,_,aY.of S8.1⟩,_,rfl,2*a+101,2*xs.length+101,τ4,xa.L,_,_,_,rfl,la5,hla,T5.un,fun L' τ6 H6 l6' KJ Bb s6=> ?_⟩;have T6:=T5.made s6 Bb KJ;have N6:=b_ S8.1 S8.2 (Mv.tags s6 Bb);refine ⟨st,_,_,rfl,rfl,N6.1,by rw [List.length_map,sizeLine_eq];omega, ?_⟩;have Zk:lW 41 τ6 H6 (upd H6 st (.lst ((xs.map fun x=>V.ref x.L.st)++[V.ref L'.st]))):=lW.set (by rw [N6.2];rfl) N6.1 (by intro xs z;cases z);have W4:(upd H6 st (.lst ((xs.map fun x=>V.ref x.L.st)++[V.ref L'.st]))) st=some (.lst ((xs.map fun x=>V.ref x.L.st)++[V.ref L'.st])):=ao;generalize (upd H6 st (.lst ((xs.map fun x=>V.ref x.L.st)++[V.ref L'.st])))=H7 at Zk W4 ⊢;have q7:∀j,j≠0->j<200->j≠41->Mv j τ6 H6 τ6 H7:=fun j _ _ n=>Mv.gC Zk (fun z=>n z.symm) (by decide);have T7:=T6.stp Zk;have w7:=(w5.mv (Mv.tags s6 Bb) KJ).mv (q7 (2*xs.length+100) (by omega) (by omega) (by omega)) T7.un;have l7:=l6'.mv (q7 (2*xs.length+101) (by omega) (by omega) (by omega));have Oa:=b_ (b_ Ob.1 Ob.2 (Mv.tags s6 Bb)).1 (b_ Ob.1 Ob.2 (Mv.tags s6 Bb)).2 (q7 42 (by decide) (by decide) (by decide));have Uq:∀j,j≠0->j<200->j≠40->j≠41->Mv j τ H3 τ6 H7:=fun j n0 n1 n2 n3=>((((Mv.tags s4 Uk).trans (q5 j n0 n1 n2)).trans (Mv.tags s6 Bb)).trans (q7 j n0 n1 n3));have oa7:=b_ oa.o oa.to (Uq (50+a) (by omega) (by omega) (by omega) (by omega));refine ⟨_,rfl,.inl ⟨rfl,_,aY.of Oa.1⟩,_,rfl,_,rfl,_,_,_,_,rfl,rfl,aY.of Oa.1,at' (fun x=>V.ref x.O) ea,xa.O,_,rfl,.inl (aY.of oa7.1),fun O' hO'=> ?_⟩;have s8:=aF (o:=HO.lst (xa.od.map fun k:Nat=>V.int k)) hO';have eO8:(upd H7 O' (.lst (xa.od.map fun k:Nat=>V.int k))) O'=some (.lst (xa.od.map fun k:Nat=>V.int k)):=ao;have T8:=T7.claim (t:=[50+xs.length]) s8 hO' ⟨_,eO8⟩;have q8:∀j,Mv j τ6 H7 (aM τ6 O' [50+xs.length]) (upd H7 O' (.lst (xa.od.map fun k:Nat=>V.int k))):=fun j=>Mv.claim s8 hO';have tO8:aM τ6 O' [50+xs.length] O'=[50+xs.length]:=bB;have w8:=w7.mv (q8 _) T8.un;have l8:=l7.mv (q8 (2*xs.length+101));have GF:=b_ Oa.1 Oa.2 (q8 42);have QX:∀j,j≠0->j<200->j≠40->j≠41->Mv j τ H3 (aM τ6 O' [50+xs.length]) (upd H7 O' (.lst (xa.od.map fun k:Nat=>V.int k))):=fun j n0 n1 n2 n3=>(Uq j n0 n1 n2 n3).trans (q8 j);have NZ:=b_ (b_ (b_ JZ I4.Fp (Mv.tags s6 Bb)).1 (b_ JZ I4.Fp (Mv.tags s6 Bb)).2 (q7 40 (by decide) (by decide) (by decide))).1 (b_ (b_ JZ I4.Fp (Mv.tags s6 Bb)).1 (b_ JZ I4.Fp (Mv.tags s6 Bb)).2 (q7 40 (by decide) (by decide) (by decide))).2 (q8 40);have N5:=b_ W4 N6.2 (q8 41);generalize (upd H7 O' (.lst (xa.od.map fun k:Nat=>V.int k)))=H8 at eO8 T8 w8 l8 GF QX NZ N5 ⊢;generalize aM τ6 O' [50+xs.length]=τ8 at T8 tO8 w8 l8 GF QX NZ N5;refine ⟨ol,_,_,rfl,rfl,GF.1,by rw [List.length_map,sizeLine_eq];omega, ?_⟩;have Zj:lW 42 τ8 H8 (upd H8 ol (.lst ((xs.map fun x=>V.ref x.O)++[V.ref O']))):=lW.set (by rw [GF.2];rfl) GF.1 (by intro xs z;cases z);have W5:(upd H8 ol (.lst ((xs.map fun x=>V.ref x.O)++[V.ref O']))) ol=some (.lst ((xs.map fun x=>V.ref x.O)++[V.ref O'])):=ao;generalize (upd H8 ol (.lst ((xs.map fun x=>V.ref x.O)++[V.ref O'])))=H9 at Zj W5 ⊢;have q9:∀j,j≠0->j<200->j≠42->Mv j τ8 H8 τ8 H9:=fun j _ _ n=>Mv.gC Zj (fun z=>n z.symm) (by decide);have T9:=T8.stp Zj;have LC:∀j,j≠0->j<200->j≠40->j≠41->j≠42->Mv j τ H3 τ8 H9:=fun j n0 n1 n2 n3 n4=>(QX j n0 n1 n2 n3).trans (q9 j n0 n1 n4);have W2:=b_ NZ.1 NZ.2 (q9 40 (by decide) (by decide) (by decide));have W3:=b_ N5.1 N5.2 (q9 41 (by decide) (by decide) (by decide));have eO9:=b_ eO8 tO8 (q9 (50+xs.length) (by omega) (by omega) (by omega));have w9:=w8.mv (q9 (2*xs.length+100) (by omega) (by omega) (by omega)) T9.un;have l9:=l8.mv (q9 (2*xs.length+101) (by omega) (by omega) (by omega));have g9:=I3.g.mv (LC 43 (by decide) (by decide) (by decide) (by decide) (by decide));have nv9:=I3.env.mv (LC 43 (by decide) (by decide) (by decide) (by decide) (by decide));have h9:=(I3.h.mv (LC 44 (by decide) (by decide) (by decide) (by decide) (by decide))).mono (show 60+n<=60+(n+1) by omega);have f9:=I3.f.mv (LC 43 (by decide) (by decide) (by decide) (by decide) (by decide));have o9:∀(k:Nat) (x:rQ),xs[k]? = some x->oF ak au τ8 H9 rws m ns (n+1) k x:=fun k x hx=>((I3.x k x hx).mono (by omega)).mv (fun j hj=>by have:=two hx;exact LC j (by omega) (by omega) (by omega) (by omega) (by omega)) T9.un;refine hD' _ _ ⟨fs,xs++[⟨W',xa.S,L',xa.cs,O',xa.od⟩],τ8,rfl,⟨T9,g9,nv9,h9,f9,by rw [List.map_append];exact W2.1,W2.2,by rw [List.map_append];exact W3.1,W3.2,by rw [List.map_append];exact W5,GF.2,by rw [List.length_append];omega,by rw [List.length_append,List.length_singleton];omega,by have:=I3.fl;omega,fun k x hx=> ?_⟩,by rw [List.length_append];omega,by rw [List.length_append];omega,I3.fl⟩;rcases fW hx with hx|⟨ek,rfl⟩
     ·exact o9 k x hx
     ·rw [ek]
      exact ⟨⟨w9,l9,oa.y.c,oa.y.em,oa.y.gd,oa.y.rl,oa.y.rw'⟩,eO9.1,eO9.2,oa.rn,oa.eS,by have:=oa.ol;show xa.od.length<=n+1;omega,by have:=oa.tl;show xa.S.ts.length<=n+1;omega⟩
    rw [decide_eq_false (fun z=>q0 (V.int.inj z))];refine cD (cD ?_);refine ⟨_,rfl,rfl,_,rfl, ?_⟩
    by_cases q1:dd=1
    ·rw [decide_eq_true (congrArg V.int q1)]
     refine dM ?_;refine ⟨_,rfl,_,rfl,r,hh,τ,60+n,rfl,I3.T,I3.h,by omega,fun Hx Tx hx q=>hD' _ _ ⟨fs,xs,τ,rfl, ?_,by omega,by omega,I3.fl⟩⟩;have a9:=b_ I3.v8 I3.Fp (q 40 (by decide));have b9:=b_ I3.est I3.Lb (q 41 (by decide));have c9:=b_ I3.J3 I3.tol (q 42 (by decide));exact ⟨Tx,I3.g.mv (q 40 (by decide)),I3.env.mv (q 40 (by decide)),hx.mono (by omega),I3.f.mv (q 43 (by decide)),a9.1,a9.2,b9.1,b9.2,c9.1,c9.2,l0,l6,by have:=I3.fl;omega,fun k x hk=>((I3.x k x hk).mono (by omega)).mv (fun j hj=>by have:=two hk;exact q j (by omega)) Tx.un⟩
    rw [decide_eq_false (fun z=>q1 (V.int.inj z))];refine cD ?_;refine ⟨_,rfl,rfl,_,rfl, ?_⟩
    by_cases q2:dd=2
    ·rw [decide_eq_true (congrArg V.int q2)]
     refine dM ?_;refine ⟨_,rfl,_,rfl,_,rfl,2*a+100,2*a+101,τ,xa.W,xa.S,xa.L,xa.cs,rws,m,r,rfl,oa.y,by omega,by have:=oa.tl;omega,I3.T,fun τ' Hx Tx q=>⟨_,rfl,cD ?_⟩⟩;refine ⟨_,rfl,_,_,rfl,rfl,_,rfl, ?_⟩;rw [decide_eq_false (by omega)];exact cD (cD (hD' _ _ ⟨fs,xs,τ',rfl,(I3.mv (fun j _ _=>q j) Tx).mono (by omega),by omega,by omega,I3.fl⟩))
    rw [decide_eq_false (fun z=>q2 (V.int.inj z))];refine cD (cD ?_);refine ⟨_,rfl,_,_,rfl,rfl,_,rfl, ?_⟩;rw [decide_eq_true (by omega)];refine dM ?_;refine ⟨_,rfl,_,rfl,_,rfl,_,rfl,_,rfl,_,rfl,_,_,_,_,rfl,rfl,aY.of I3.J3,at' (fun x=>V.ref x.O) ea,2*a+100,2*a+101,50+a,τ,xa.W,xa.S,xa.L,xa.cs,r,p,PL,xa.O,rs,rws,m,xa.od,rfl,oa.y,I3.T,I3.g,by omega,by omega,by omega,by omega,by omega,oa.to,oa.o,by have:=oa.ol;omega,by have:=oa.tl;omega,fun S' cs' od' Hx hc tl' y' T' eO' q=>⟨_,rfl,cD ?_⟩⟩;have tO':τ xa.O=[50+a]:=oa.to
    have on:oF ak au τ Hx rws m ns (n+1) a ⟨xa.W,S',xa.L,cs',xa.O,od'⟩:=by
     have o1:=oa.ol;have o2:=oa.tl;rcases hc with ⟨rfl,rfl⟩|⟨k,s',es,wt,rfl,rfl⟩
     ·exact ⟨y',eO',tO',oa.rn,oa.eS,by show xa.od.length<=n+1;omega,by show xa.S.ts.length<=n+1;omega⟩
     ·refine ⟨y',eO',tO',oa.rn.snoc (by rw [←oa.eS];exact es) wt, ?_,by show (xa.od++[k]).length<=n+1;rw [List.length_append,List.length_singleton];omega,by show (dY xa.S k).ts.length<=n+1;omega⟩
      show dY xa.S k=(xa.od++[k]).foldl dY (lE m ns rws);rw [List.foldl_append,←oa.eS];rfl
    exact hD' _ _ ⟨fs,xs.set a ⟨xa.W,S',xa.L,cs',xa.O,od'⟩,τ,rfl,(I3.mono (show n<=n+1 by omega)).set ea rfl rfl rfl (fun j n0 n1 n2 n3 n4=>q j n2 n3 n4) T' on,by rw [List.length_set];omega,by rw [List.length_set];omega,I3.fl⟩
   clear I3 oa ea at';rintro σ H4 ⟨fs,xs,τ,rfl,I4,a4,b4,fn⟩;have at':∀(f:rQ->V) {n:Nat} {x:rQ} {l:List rQ},l[n]? = some x->qm (l.map f) (n:Int)=some (f x):=fun f {n x l} e=>bW (by rw [List.getElem?_map,e];rfl);obtain ⟨ya,ea⟩:∃ya,xs[a]? = some ya:=⟨_,List.getElem?_eq_getElem a4⟩;obtain ⟨yb,eb⟩:∃yb,xs[b]? = some yb:=⟨_,List.getElem?_eq_getElem b4⟩;have l6:=I4.l6;refine ⟨_,rfl,_,rfl,_,_,_,_,rfl,rfl,aY.of I4.v8,at' (fun x=>V.ref x.W.o) eb,_,rfl,_,rfl,_,_,_,_,rfl,rfl,aY.of I4.est,at' (fun x=>V.ref x.L.st) eb,_,rfl,_,rfl,r,2,rfl,I4.T.R,by decide,by decide,fun z H5 z0 z1 R5 k5=> ?_⟩;have I5:=I4.draw k5 R5;have ob:=I5.x b yb eb;refine ⟨rfl,2*b+100,2*b+101,τ,yb.W,yb.S,yb.L,yb.cs,rws,m,hl,_,fs,rfl,ob.y,by omega,by have:=ob.tl;omega,by omega,by omega,I5.f,by omega,fun τ' fs' H6 f6 fl6 Li KJ Bb=>⟨_,rfl,cD ?_⟩⟩;have T6:=I5.T.Wi Li Bb KJ;have I6:=I5.mvf (fun j n0 n1 n2=>⟨fun x o e t=>⟨((Mv.gC (i:=j) Li (fun z=>n2 z.symm) (by decide)).keep x o e t).1,Bb x o e⟩,Li.tup⟩) T6 f6 (by omega);have oa:=I6.x a ya ea;have ob:=I6.x b yb eb;unfold zA;dsimp only;refine ⟨_,rfl,_,rfl,_,rfl,_,rfl,tw,st,xs.map fun x=>x.W.o,xs.map fun x=>x.L.st,a,b,2*a+100,2*a+101,2*b+100,2*b+101,τ',ya.W,yb.W,ya.S,yb.S,ya.L,yb.L,ya.cs,yb.cs,rws,m,rfl,by rw [List.map_map];exact I6.v8,by rw [List.map_map];exact I6.est,by rw [List.getElem?_map,ea];rfl,by rw [List.getElem?_map,eb];rfl,by rw [List.getElem?_map,ea];rfl,by rw [List.getElem?_map,eb];rfl,oa.y,ob.y,fun H7 s7=>⟨_,rfl,cD ?_⟩⟩;exact ⟨_,_,_,_,_,_,fs',xs,τ',rfl,I6.same s7⟩
  ·rintro σ Hc ⟨x9,x10,x11,x12,Fe,Fd,fs,xs,τ,rfl,I⟩
   have l6:=I.l6;have at':∀(f:rQ->V) {n:Nat} {x:rQ} {l:List rQ},l[n]? = some x->qm (l.map f) (n:Int)=some (f x):=fun f {n x l} e=>bW (by rw [List.getElem?_map,e];rfl);refine g_ (fun σ Hx=>∃(x9 x10 x11 x12 Fe Fd Vd:Option V) (τ:Tg),σ=[some (.ref sc),some (.ref r),some (.ref p),some nv,some (.ref hh),some (.ref tw),some (.ref st),some (.ref ol),some (.ref hl),x9,x10,x11,x12,Fe,Fd,Vd]/\eY ak au p PL rs rws m nv ns r hh tw st ol hl 80 fs xs τ Hx) (fun D' hD' Sw=> ?_) ?_
   ·refine ⟨_,rfl,tw,_,rfl,.inl (aY.of I.v8),_,rfl,by rw [List.length_map];omega,by rw [List.length_map];omega, ?_⟩
    rw [List.length_map,Int.toNat_natCast];refine nQ (lo:=0) (n:=xs.length) (fun n σ Hx=>∃(x9 x10 x11 x12 Fe Fd Vd:Option V) (τ:Tg),σ=[some (.ref sc),some (.ref r),some (.ref p),some nv,some (.ref hh),some (.ref tw),some (.ref st),some (.ref ol),some (.ref hl),x9,x10,x11,x12,Fe,Fd,Vd]/\eY ak au p PL rs rws m nv ns r hh tw st ol hl 80 fs xs τ Hx) ⟨_,_,_,_,_,_,_,_,rfl,I⟩ ?_ (fun σ Hx h=>hD' _ _ h);clear I;rintro k' σ Hx hk ⟨x9,x10,x11,x12,Fe,Fd,Vd,τ,rfl,I⟩;rw [Int.zero_add];obtain ⟨x,ex⟩:∃x,xs[k']? = some x:=⟨_,List.getElem?_eq_getElem hk⟩;have I:=I.mv (fun j _ l=>Ng l) (Nf I.T);have ox:=I.x k' x ex;dsimp only [bV];refine ⟨_,rfl,_,rfl,_,rfl,_,rfl,_,_,_,_,rfl,rfl,aY.of I.J3,at' (fun x=>V.ref x.O) ex,300,Ab τ,p,PL,x.O,rs,rws,m,nv,ns,x.od,rfl,I.g,by omega,by omega,I.env,I.T.un,by decide,fun y _ _=>Jx y,ox.o,by have:=ox.ol;omega,ox.rn,fun W' τ1 H1 w1 G9 s1=> ?_⟩;have T1:=I.T.made s1 G9 w1.un;have I1:=I.mv (fun j _ _=>Mv.tags s1 G9) T1;have o1:=I1.x k' x ex;dsimp only [bV];refine ⟨_,rfl,_,rfl,_,_,_,_,rfl,rfl,aY.of I1.v8,at' (fun x=>V.ref x.W.o) ex,_,rfl,_,rfl,_,_,_,_,rfl,rfl,aY.of I1.est,at' (fun x=>V.ref x.L.st) ex,2*k'+100,2*k'+101,τ1,x.W,x.S,x.L,x.cs,rfl,o1.y.w,o1.y.l,o1.y.c,by have:=o1.tl;omega,by have:=o1.y.em;omega,o1.y.sy (by have:=o1.tl;omega),fun H2 s2=>⟨_,rfl,cD ?_⟩⟩;have I2:=I1.same s2;have o2:=I2.x k' x ex;have w2:=w1.same s2;rw [←o2.eS] at w2;refine ⟨_,rfl,_,rfl,_,_,_,_,rfl,rfl,aY.of I2.v8,at' (fun x=>V.ref x.W.o) ex,_,rfl,x.W.o,W'.o,x.W.dx,W'.dx,_,_,rfl,rfl,o2.y.w.o,w2.o,2*k'+100,300,τ1,τ1,x.W,W',x.S,x.S,rfl,o2.y.w,w2,o2.y.gd,o2.y.gd,fun H3 s3=>⟨_,rfl, ?_⟩⟩;rw [zp o2.y.gd o2.y.w.pW];exact ⟨_,rfl,cD ⟨_,_,_,_,_,_,_,τ1,rfl,I2.same s3⟩⟩
   ·rintro σ Hx ⟨x9,x10,x11,x12,Fe,Fd,Vd,τ,rfl,I⟩
    have hd':=I.f;have fl:=I.fl;refine ⟨_,rfl,hl,rfl,⟨_,aY.of hd'.ea⟩,fun D hD=> ?_⟩;refine eE (K:=K) (xs:=fs.map fun q=>V.ref q.1) (fun i σ He=>(∃u v:Option V,σ=[u,v])/\Same Hx He/\He D=some (.lst ((List.replicate i true).map V.bl))) ⟨⟨none,none,rfl⟩,aF hD,ao⟩ (fun i σ He _ ⟨_,se,_⟩=>aY.of (se _ _ hd'.ea)) ?_ ?_
    ·rintro i x σ He hi ⟨⟨u,v,rfl⟩,se,eD⟩
     rw [List.getElem?_map] at hi
     obtain ⟨q,eq,rfl⟩:∃q,fs[i]? = some q/\x = .ref q.1:=by
      cases e:fs[i]? with
      | none=>rw [e] at hi;cases hi
      | some q=>rw [e] at hi;exact ⟨q,rfl,(Option.some.inj hi).symm⟩
     obtain ⟨h1,X,h2,h3,h4,h5⟩:=hd'.ef q (List.mem_of_getElem? eq);have il:=(List.getElem?_eq_some_iff.mp eq).1;refine ⟨q.1,_,rfl,cu.of (se _ _ h1),rfl,_,_,rfl,_,_,rfl,rfl, ?_⟩;dsimp only [bV,oJ];rw [if_pos rfl];have d4:=(h4.mv (j:=0) (Mv.of_same se)).dat;have d5:=(h5.mv (j:=0) (Mv.of_same se)).dat;refine ⟨_,rfl,_,rfl,_,_,d4,d5,qC X,qC X, ?_⟩;rw [if_neg Bool.false_ne_true,Cw (qC X)];refine ⟨_,eD,(by rw [List.length_map,List.length_replicate,sizeLine_eq];omega),⟨_,_,rfl⟩,se.newly hD, ?_⟩;rw [ao,List.replicate_succ',List.map_append];rfl
    ·rintro σ He ⟨⟨u,v,rfl⟩,se,eD⟩
     refine ⟨D,_,rfl,aY.of eD, ?_⟩;rw [show (List.replicate (fs.map fun q=>V.ref q.1).length true).all id=true by simp];exact k _
end
theorem len0 {us:List Value} (h:us.length=0):us=[]:=List.eq_nil_of_length_eq_zero h
theorem Ck {us:List Value} {n:Nat} (h:us.length=n+1):∃a vs,us=a::vs/\vs.length=n:=by
 cases us with
 | nil=>cases h
 | cons a t=>exact ⟨a,t,rfl,Nat.succ.inj h⟩
theorem uY {K:PySem.W.Frag} {T:Addr} {tc:Value} {td:Option Addr} {tn:Nat} {Pb:Array (Option Value)} (d:K.lookup T=some ⟨tc,td,.seq #[.none] tn,Pb⟩) {kV doc pm:Value} {an:Option Addr} {cdv ct:Value}:Binds K (PySem.W.fnOf "__init__" "Works.__init__" (dF bY) (eX bY) (aN bY) (.ref T) kV doc pm an cdv ct) ["self","program","cells"] []:=by
 intro s us KX hl;have hl:us.length=3:=by simpa using hl
 obtain ⟨_,_,rfl,h1⟩:=Ck hl;obtain ⟨_,_,rfl,h2⟩:=Ck h1;obtain ⟨_,_,rfl,h3⟩:=Ck h2;cases len0 h3;exact PySem.W.binds_K KX rfl d rfl rfl rfl
theorem uX {K:PySem.W.Frag} {T:Addr} {tc:Value} {td:Option Addr} {tn:Nat} {Pb:Array (Option Value)} (d:K.lookup T=some ⟨tc,td,.seq #[.none] tn,Pb⟩) {kV doc pm:Value} {an:Option Addr} {cdv ct:Value}:Binds K (PySem.W.fnOf "__init__" "Works.__init__" (dF bY) (eX bY) (aN bY) (.ref T) kV doc pm an cdv ct) ["self","program","cells"] [.none]:=by
 intro s us KX hl;have hl:us.length=2:=by simpa using hl
 obtain ⟨_,_,rfl,h1⟩:=Ck hl;obtain ⟨_,_,rfl,h2⟩:=Ck h1;cases len0 h2;exact PySem.W.binds_K KX rfl d rfl rfl rfl
theorem uW {K:PySem.W.Frag} {T:Addr} {tc:Value} {td:Option Addr} {tn:Nat} {Pb:Array (Option Value)} (d:K.lookup T=some ⟨tc,td,.seq #[.none] tn,Pb⟩) {kV doc pm:Value} {an:Option Addr} {cdv ct:Value} (s:Shared) (us:List Value) (z:Value) (KX:K.In s.heap) (hl:(us++[z]).length=(["self","program","cells"]:List Str).length):BindsTo s (PySem.W.fnOf "__init__" "Works.__init__" (dF bY) (eX bY) (aN bY) (.ref T) kV doc pm an cdv ct) ⟨us,[("cells",z)]⟩ ((["self","program","cells"]:List Str).zip (us++[z])):=by
 have hl:us.length=2:=by simpa using hl
 obtain ⟨_,_,rfl,h1⟩:=Ck hl;obtain ⟨_,_,rfl,h2⟩:=Ck h1;cases len0 h2;exact PySem.W.binds_K KX rfl d rfl rfl rfl
theorem all_mk {l:PySem.W.OpenLaw} {w:World} {K:PySem.W.Frag} {h:Heap} {mg:Str->Option Value} {fa Qj rQ au ak bN aX cR dZ:Addr} (X:K.In h) (G:h.Ns mainGlobals mg) (hfa:mg "law" = some (.ref fa))
 (za:KC K "Hand" au)
 (fM:KC K "Works" ak)
 (wI:TV K au ["rows","at","in_boxes","sayings","state"])
 (sV:TV K ak ["program","numbers","hands","turns"])
 (X3:XcI K)
 (qt:PySem.W.findIn K (.ref ak) "__ne__" = some (some (.builtin "object.__ne__")))
 (qu:PySem.W.findIn K (.ref ak) "__class__" = some (some (.builtin "object.__class__")))
 (nD:PySem.W.mroIn K ak (.type "object")=some true)
 (mG:Qq K "NoNumber" bN)
 (qx:Qq K "NoHand" aX)
 (wK:Qq K "Over" cR)
 (j9:Qq K "NoteError" dZ)
 (fZ:lV K cR aX false)
 (gb:lV K aX cR false)
 (fG:lV K bN dZ true)
 (dB:lV K aX dZ true)
 (dW:lV K cR dZ true)
 (Vc:XcI K)
 (mF:YK K bN)
 (qw:YK K aX)
 (wJ:YK K cR)
 {JL:Tok} (yF:PySem.W.nsIn K mainGlobals "BOXES" = some (some (.str "abcdefgh" JL)))
 {JK:Tok} (yE:PySem.W.nsIn K mainGlobals "ROUND" = some (some (.int 1000 JK)))
 {pF:Tok} (gJ:PySem.W.nsIn K mainGlobals "MOST_UNTOUCHING" = some (some (.int 60 pF)))
 (q0:fJ K "is_whole" oO)
 (q1:fJ K "is_below" oR)
 (q2:jf K au "__init__" "Hand.__init__" mU)
 (q3:fJ K "cell_of" qI)
 (q4:jf K au "value_of" "Hand.value_of" gq)
 (q5:jf K au "holds" "Hand.holds" kW)
 (q6:jf K au "take" "Hand.take" mR)
 (q7:jf K au "do" "Hand.do" qM)
 (q8:jf K au "lead_on" "Hand.lead_on" jq)
 (q9:fJ K "check_numbers" iH)
 (FQ:jf K ak "touch_by" "Works.touch_by" gR)
 (q11:jf K ak "hand_of" "Works.hand_of" iJ)
 (PJ:jf K ak "turn" "Works.turn" kJ)
 {aas abE:Option Addr} {Zn:Array (Option Value)} {aat aaO abz aar Xa abB:Value} {Zb:Value} {Za:Option Addr} {Y9:Nat} {Vg:Array (Option Value)} (a13:PySem.W.findIn K (.ref ak) "__init__" = some (some (.ref Qj)))
 (Qe:K.lookup Qj=some ⟨aat,aas,.func (PySem.W.fnOf "__init__" "Works.__init__" (dF bY) (eX bY) (aN bY) (.ref rQ) aaO abz aar abE Xa abB),Zn⟩)
 (Km:PySem.W.codeIn K Xa "Works.__init__" = true)
 (k13:PySem.W.keepIn K (.ref Qj)=true)
 (n13:PySem.W.isFn K (.ref Qj)=true)
 (sI:K.lookup rQ=some ⟨Zb,Za,.seq #[.none] Y9,Vg⟩)
 (q14:fJ K "_law_reel" xH)
 (q15:fJ K "_law_draw" xO)
 (QZ:fJ K "_law_alike" pU)
 (q17:fJ K "_law_plain" uf)
 (q18:fJ K "_law_worth" uc)
 (q19:fJ K "_law_row" Bx)
 (q20:fJ K "_law_program" oY)
 (V1:fJ K "_law_now" xJ)
 (q22:fJ K "_law_own" BJ)
 (q23:fJ K "_law_led" BK)
 (q24:fJ K "_law_begun" uh)
 (q25:fJ K "_law_gone" xM)
 (q26:fJ K "_law_waiting" oU)
 (q27:fJ K "_law_numbers" oZ)
 (q28:fJ K "_law_works" ud)
 (q29:fJ K "_law_first" ug)
 (Z_:jf K ak "cells" "Works.cells" jL)
 (Z9:jf K ak "boxes" "Works.boxes" jM)
 (Z8:jf K ak "said" "Works.said" kO)
 (Z7:jf K ak "how" "Works.how" mQ)
 (Z6:jf K ak "counts" "Works.counts" jk)
 (Z5:jf K ak "__len__" "Works.__len__" iK)
 (Z4:jf K au "another" "Hand.another" jr)
 (Uq:jf K ak "twin" "Works.twin" kI)
 (QX:jf K au "picture" "Hand.picture" jo)
 (LC:jf K ak "picture" "Works.picture" iI)
 (Z2:jf K ak "__eq__" "Works.__eq__" jm)
 (Z1:fJ K "_law_all" BL)
 (Z0:fJ K "_law_same" xG)
 (V0:fJ K "_law_handed" qK)
 (ZX:fJ K "_law_anew" xQ)
 (ZW:fJ K "_law_spoilt" qJ)
 (ZV:fJ K "_law_copied" qL)
 (ZS:fJ K "_law_turn" xu)
 (ZR:fJ K "_law_look" xK)
 (ZQ:fJ K "_law_door" xP)
 (ZP:fJ K "_law_refused" oX)
 (ZM:fJ K "_law_same_as" oW)
 (ZL:fJ K "law" Ij)
 (zb:Kv K ["all","bool","int","isinstance","len","list","max","min","range","str","sum","tuple","zip"]):
 ∃fd:FuncData,(∀(s:Shared) (v:Value),BindsTo s fd ⟨[v],[]⟩ [("script",v)]) /\ ∀base:Heap,K.In base->base.Ns mainGlobals mg->bU l.prog w K mg base gF 11 fa fd ["script"] (Ds K):=by
 obtain ⟨fl,fdl,al,Fl⟩:=ZL;cases hfa.symm.trans (PySem.W.mg_of X G al);obtain ⟨z0,z1,z2,z3,z4,z5,z6,z7,z8,z9,z10,z11,z12,_⟩:=zb.mg X G;have Bt:mC mg:=⟨z0,z1,z2,z3,z4,z5,z6,z7,z8,z9,z10,z11,z12⟩;obtain ⟨n0,n1,n2,n3,n4,_⟩:=wI;have aL:dO K au:=⟨za.cls,n0,n1,n2,n3,n4⟩;obtain ⟨n0,n1,n2,n3,_⟩:=sV;have aK:cM K ak:=⟨fM.cls,n0,n1,n2,n3⟩;have yV:YQ K ak:=⟨qt,nD⟩;have sO:YT K mg ak "Works" :=⟨PySem.W.mg_of X G fM.a,qu,X3.cg,X3.ct,nD⟩;have fO:Gv mg "BOXES" (.str "abcdefgh"):=⟨_,PySem.W.mg_of X G yF,⟨_,rfl⟩⟩;have gO:Gv mg "ROUND" (.int 1000):=⟨_,PySem.W.mg_of X G yE,⟨_,rfl⟩⟩;have eZ:Gv mg "MOST_UNTOUCHING" (.int 60):=⟨_,PySem.W.mg_of X G gJ,⟨_,rfl⟩⟩;have gY:=mG.r X G mF Vc;have fY:=qx.r X G qw Vc;have jQ:=wK.r X G wJ Vc;have jE:=j9.o X G fG;have F13:OD K "__init__" "Works.__init__" bY [.none] Qj _:=⟨⟨_,_,_,_,_,_,_,_,_,_,_,_,_,_,rfl,Qe,Km,sI⟩,k13⟩;refine ⟨fdl,Fl.bind1 (by kernel_rfl),fun base _ _=> ?_⟩;have Y:Ue l.prog w K mg base:=⟨_,X,G⟩;have A0:=Y.fn q0 fun F=>zV F Bt;have A1:=Y.fn q1 fun F=>zW F A0;have A2:=Y.ma za q2 (sp:=rZ au K) fun F=>Jg F aL fO;have A3:=Y.fn q3 fun F=>Gi F;have abK:=Y.me q4 (sp:=tE au 0 K) fun F=>Mp F;have abJ:=Y.me q4 fun F=>DY (n:=0) F abK aL fO gO;have A4:=Y.me q4 fun F=>DY (n:=1) F abJ aL fO gO;have A5:=Y.me q5 (sp:=wV au K) fun F=>Jf F A4 aL;have A6:=Y.me q6 (sp:=wR au K) fun F=>Ms F aL fO;have A7:=Y.me q7 (sp:=QM au K) fun F=>V5 F A4 A6 A5 aL;have A8:=Y.me q8 (sp:=wU au K) fun F=>MF F A3 A7 aL eZ Bt;have A9:=Y.fnX q9 (sp:=oK bN K) fun F=>zX F A1 gO Bt gY;have A10:=Y.me FQ (sp:=qy ak au K) fun F=>B_ F A3 A4 A6 aK aL;have A11:=Y.Wh q11 (sp:=jR ak au aX K) fun F=>Gf F A1 aK Bt fY;have A12:=Y.Wh PJ (sp:=tH ak au aX cR K) fun F=>Mr F A11 A10 A8 aK aL jQ;have G13:=Jc F13 aK aL A9 A2 A8 Bt;have A13:sS l.prog w K mg base 7 ak "Works" ["self","program","cells"] [] (gG ak au bN K):=⟨Qj,_,_,G13,⟨fM.ms,a13,n13,fM.kp⟩,PySem.W.mg_of X G fM.a,uY sI,.nil⟩;have Qt:sS l.prog w K mg base 7 ak "Works" ["self","program","cells"] [.non] (gG ak au bN K):=⟨Qj,_,_,G13,⟨fM.ms,a13,n13,fM.kp⟩,PySem.W.mg_of X G fM.a,uX sI,.cons rfl .nil⟩;have XJ:yX l.prog w K mg base 7 ak "Works" ["self","program","cells"] "cells" (gG ak au bN K):=⟨Qj,_,G13,⟨fM.ms,a13,n13,fM.kp⟩,PySem.W.mg_of X G fM.a,uW sI⟩;have A14:=Y.fn q14 fun F=>Jd F Bt;have A15:=Y.fn q15 fun F=>Ji F Bt;have Xv:=Y.fn QZ (sp:=kj 0 K) fun F=>Gj F;have Xu:=Y.fn QZ fun F=>nJ (n:=0) F Xv Bt;have Xq:=Y.fn QZ fun F=>nJ (n:=1) F Xu Bt;have Xp:=Y.fn QZ fun F=>nJ (n:=2) F Xq Bt;have A16:=Y.fn QZ fun F=>nJ (n:=3) F Xp Bt;have A17:=Y.fn q17 fun F=>Je F A15;have A18:=Y.fn q18 fun F=>Ja F A15 A17;have A19:=Y.fn q19 fun F=>Rn F A15 A18 Bt;have A20:=Y.fn q20 fun F=>Mu F A15 A19 Bt;have Xn:=Y.fn V1 (sp:=vO 0 K) fun F=>Mx F;have Xm:=Y.fn V1 fun F=>D_ (n:=0) F Xn;have A21:=Y.fn V1 fun F=>D_ (n:=1) F Xm;have A22:=Y.fn q22 fun F=>Rp F A21;have A23:=Y.fn q23 fun F=>Rq F A22 Bt;have A24:=Y.fn q24 fun F=>Jl F A23 Bt;have A25:=Y.fn q25 fun F=>MK F A21 A23 Bt;have A26:=Y.fn q26 fun F=>BZ F Bt;have A27:=Y.fn q27 fun F=>Mw F A15 Bt;have A28:=Y.fn q28 (sp:=wN ak au K) fun F=>Jb F Qt.calm XJ Bt;have A29:=Y.fn q29 fun F=>Jh F A24;have A30:=Y.me Z_ (sp:=pP ak au K) fun F=>Jj F aK Bt;have A31:=Y.Wh Z9 (sp:=jG aO.bs ak au aX K) fun F=>Jk F A11 aK aL Bt;have A32:=Y.Wh Z8 (sp:=jG aO.sy ak au aX K) fun F=>Mt F A11 aK aL Bt;have A33:=Y.Wh Z7 (sp:=zB ak au aX K) fun F=>Rt F A11 aK aL;have A34:=Y.me Z6 (sp:=mK ak au K) fun F=>Gg F aK Bt;have A35:=Y.me Z5 (sp:=wO ak au K) fun F=>Ml F aK Bt;have A36:=Y.me Z4 (sp:=qz au K) fun F=>Ca F aL A2 Bt;have A37:=Y.me Uq (sp:=wQ ak au K) fun F=>Mq F aK aL A13.calm A36 Bt;have A38:=Y.me QX (sp:=Bo au K) fun F=>MJ F aL Bt;have A39:=Y.me LC (sp:=Ie ak au K) fun F=>Ro F aK aL A38 A30 A34 Bt;have A40:=Y.me Z2 (sp:=vN ak au K) fun F=>Rm F aK sO A39 Bt;have A41:=Y.fn Z1 (sp:=zF ak au K) fun F=>Ru F A16 A30 A31.calm A32.calm A33.calm A34 A35 aK Bt;have A42:=Y.fn Z0 fun F=>Gd F Bt;have A43:=Y.fn V0 (sp:=tQ ak au K) fun F=>Ge F A13.calm Qt.calm Bt;have A44:=Y.fn ZX (sp:=Bq ak au K) fun F=>MP F A28 A12.calm aK Bt;have A45:=Y.fn ZW fun F=>zU F A15 Bt;have A46:=Y.fn ZV fun F=>Gh F Bt;have A47:=Y.fn ZS (sp:=tG ak au K) fun F=>Ga F A15 A26 A25 A16 A12.calm aK Bt;have A48:=Y.fn ZR (sp:=Bm ak au K) fun F=>Mz F A16 A30 A31.calm A32.calm A33.calm A34 A35 aK Bt;have A49:=Y.fnX ZQ (sp:=Bp ak au aX cR K) fun F=>MN F A12 A31 A32 A33 aK;have A50:=Y.fn ZP (sp:=mJ ak au K) fun F=>yd F A15 A37 A40 A49 A41 fY jQ jE dB dW gb fZ aK Bt;have A51:=Y.fn ZM (sp:=tM ak au K) fun F=>Gb F A42 A40;exact Rr Fl A14 A15 A20 A27 A43 A29 A46 A45 A50 A47 A48 A51 A44 A41 A37 A40 yV aK Bt
theorem walk {l:PySem.W.OpenLaw} {q:Program} {loose:List Str} {XP:(Str->Option Value)->Heap->Prop} {YP:World->Heap->Prop} {d:DefRec} {K:Params->PySem.W.Frag} (hn:l.most=some 63) (hdf:d.params.defaults=[])
 (hY:∀(w:World) (h:Heap),YP w h->(K w.params).In h)
 (F:∀(w:World) (mg:Str->Option Value) (fa:Addr) (h:Heap),(K w.params).In h->h.Ns mainGlobals mg->mg d.name=some (.ref fa) ->
   ∃fd:FuncData,(∀(s:Shared) (u:Value),BindsTo s fd ⟨[u],[]⟩ [("script",u)]) /\ ∀base:Heap,(K w.params).In base->base.Ns mainGlobals mg->bU l.prog w (K w.params) mg base gF 11 fa fd ["script"] (Ds (K w.params))):
 PySem.W.WalkO q loose XP YP l.row.toRowW d [] (fun f vs=>PySem.call f vs):=
 L2.La (n:=63) (k:=11) (x:= "script") (CX:=fun _=>gF) (sp:=fun w=>Ds (K w.params)) hn (by decide) hdf ⟨rfl,by decide,by decide⟩ hY F (fun _ _ a ns hl _ hS=>⟨a,ns,rfl,hS,hl,fun _=>rfl⟩) fun _ _ _ _ _ z=>z
end Prf
namespace PySem.W.Fast
def tw3018097107401272447:=()
def tw15773081284297155921:=()
def tw6243652872691680821:=()
def tw9641023407076132418:=()
def tw15734145420325271969:=()
def tw426888273615256193:=()
def tw5410291395552343908:=()
def tw10938913194446176877:=()
def tw13438199389884729478:=()
def tw7077016163521666914:=()
def tw11015968114867803740:=()
def tw16415260707526075060:=()
def tw5924979425734245106:=()
def tw14207968367834336540:=()
def tw1233319196248636783:=()
def tw4665762480689998643:=()
def tw10666170471529502403:=()
def tw17810616529450618853:=()
def tw5272611990540230119:=()
def tw7677839005414451309:=()
def tw3224195505044914492:=()
def tw67328181894519668:=()
def tw6190869324093846648:=()
def tw2390986558843196789:=()
def tw721973833311001164:=()
def tw10993894319703117727:=()
def tw11182426594145428396:=()
def tw5328560442272492683:=()
def tw8066638703827262184:=()
def tw2397570616431442733:=()
def tw11627790245820827341:=()
def tw9644760229748751162:=()
def tw56764614794577601:=()
def tw2006870790353295008:=()
def tw17538785242999626895:=()
def tw5711400553664654650:=()
def tw8211800170491784849:=()
def tw1423548071628509218:=()
def tw13337239195620453527:=()
def tw6784098533954402542:=()
def tw17463931962459510324:=()
def tw12432038998950297602:=()
def tw4564628863224299695:=()
def tw15065468369648085276:=()
def tw14607612448515550534:=()
def tw3952959452581505722:=()
def tw3239506710500104977:=()
def tw14233939986735031480:=()
def tw15641644585665379317:=()
def tw12478789328274472782:=()
def tw436304475573332357:=()
def tw15093981399026238318:=()
def tw9569367206380545565:=()
def tw11731583431655181712:=()
def tw15714332393733518952:=()
def tw2028400449673100122:=()
def tw162018370288693828:=()
def tw15384530185055517653:=()
def tw10333490692730602210:=()
def tw8978128506941046309:=()
def tw6220045037990431404:=()
def tw15833801072680847851:=()
def tw14502402653980766146:=()
def tw16336695132995968597:=()
def tw8381190685897589978:=()
def tw11783190852624611275:=()
def tw9350592795562092433:=()
def tw14636370595117665084:=()
def tw4195632606208079729:=()
def tw7184952915336685994:=()
def tw5474947820841034953:=()
def tw15428555867649335044:=()
def tw2042115789754679457:=()
def tw5393907618553585012:=()
def tw8899464337417096170:=()
def tw12470292822109086656:=()
def tw12307150703351832933:=()
def tw459511558615942548:=()
def tw11033555108113883932:=()
def tw11214230288106469724:=()
def tw5266101327501263765:=()
def tw11354429051033659978:=()
def tw8680898373608283012:=()
def tw9859747968712270153:=()
def tw7722742753460769444:=()
def tw16365996862085354368:=()
def tw1003801489621725927:=()
def tw17586435345688383013:=()
def tw1411320901615111362:=()
def tw15424489927724088482:=()
def tw4478924887908768995:=()
def tw4501325598875944770:=()
def tw9513150436532787698:=()
def tw14261753843850985444:=()
def tw12374708257634642422:=()
def tw69581764434333074:=()
def tw17722785489185269359:=()
def tw12089028977821552199:=()
def tw5143991713701030596:=()
def tw10210277614631486081:=()
def tw1215056957731892624:=()
def tw4695405942034945664:=()
def tw8803103420790084729:=()
def tw2091619193120185672:=()
def tw11877337012019843415:=()
def tw512618772840681027:=()
def tw1816064414155574024:=()
def tw18112794701871499699:=()
def tw17250267233057406217:=()
def tw1633818279086044898:=()
def tw683160624205380014:=()
def tw10765768516702925337:=()
def tw15713164789195523426:=()
def tw13197030208574804854:=()
def tw13422991182655854760:=()
def tw14762097862750828764:=()
def tw1232854391228372287:=()
def tw1438296384554585261:=()
def tw10375202077807444289:=()
def tw17624402380815198585:=()
def tw9869192435579108221:=()
def tw11149587304927609506:=()
def tw13686299634324396634:=()
def tw2409960000103297906:=()
def tw4229431942596331135:=()
def tw4409225553349311695:=()
def tw8113389552880770333:=()
def tw10207083227645799073:=()
def tw14073826373114072910:=()
def tw3682654713143788072:=()
def tw12152948163469086953:=()
def tw2192943523227212968:=()
def tw14052710109040154998:=()
def tw17296658791263074108:=()
def tw5421583164385102170:=()
def tw12737267625358575683:=()
def tw12319605100843159888:=()
def tw17842165898942748622:=()
def tw6204359858365777249:=()
def tw1423947918994747154:=()
def tw16146808440491118044:=()
def tw18184561669374746845:=()
def tw8881812041739487691:=()
def tw9507141736226660921:=()
def tw5919479899994222344:=()
def tw7581565223624898769:=()
def tw8457494972716809015:=()
def tw9475857804880711217:=()
def tw8647117629931196978:=()
def tw4585572663036302932:=()
def tw11042797603916601169:=()
def tw2251115979212278118:=()
def tw14572061207124906535:=()
def tw15246504460685354801:=()
def tw6814278401170996713:=()
def tw9436758771014231252:=()
def tw1633909974032152828:=()
def tw4884237400117305999:=()
def tw13491937275909639132:=()
def tw5300737609773923635:=()
def tw3973241208944415709:=()
def tw626776605807093995:=()
def tw4815545130895427858:=()
def tw5396232205603099252:=()
def tw12435264976091283240:=()
def tw3188384377124530839:=()
def tw12078152461389512261:=()
def tw9316636865518001987:=()
def tw10100437666827048947:=()
def tw17570242522174591587:=()
def tw1872443733630423234:=()
def tw9563552967767947862:=()
def tw10396646961608960965:=()
def tw12908385812876006097:=()
def tw934755202731715843:=()
def tw10267239434699881395:=()
def tw116666761343977355:=()
def tw9948643168446529172:=()
def tw8516581210245405799:=()
def tw1155915550633215923:=()
def tw3961991962890574150:=()
def tw6224718379657709352:=()
def tw2164489247749388668:=()
def tw5253467829234692871:=()
def tw12229353948426588618:=()
def tw5470964415957594657:=()
def tw5322825976442751350:=()
def tw7726081258770824369:=()
def tw7946994288000438751:=()
def tw13172474780647107223:=()
def tw18111705169480946752:=()
def tw11605078926620499016:=()
def tw14341890652302682128:=()
def tw9239323631380807597:=()
def tw12712676520584235244:=()
def tw7048857683377349040:=()
def tw8100266455940321585:=()
def tw4417489595930535790:=()
def tw15845596273957960404:=()
def tw51262215659543877:=()
def tw7273223734848352345:=()
def tw3594463465399902172:=()
def tw12548697002046330523:=()
def tw2904738397741620190:=()
def tw15006055841046206279:=()
def tw12160289524154157841:=()
def tw2542771344734647954:=()
def tw10432044189241925689:=()
def tw640198657937971909:=()
def tw12932611234979436873:=()
def tw2748732026652896444:=()
def tw17946202626424189861:=()
def tw17564590520496846386:=()
def tw5331332954895566542:=()
def tw15500966592548796222:=()
def tw1619328805539272369:=()
def tw3150278772835714491:=()
def tw333471571063776530:=()
def tw6182914063838654173:=()
def tw15580280626145038520:=()
def tw5810913238379171334:=()
def tw465191149581654075:=()
def tw11640649382679883242:=()
def tw1822618204120908703:=()
def tw2112387071058352352:=()
def tw17231892003195306430:=()
def tw13047531847656817071:=()
def tw14165424830339281186:=()
def tw1554397349890662109:=()
def tw17649547636839921856:=()
def tw16543924360731381080:=()
def tw16872589340408183297:=()
def tw4306234345843159707:=()
def tw14109445314667403249:=()
def tw324426154919852107:=()
def tw14328407928379280688:=()
def tw1618915373765476723:=()
def tw6920035009459864832:=()
def tw7719068945231085540:=()
def tw2408378163249721276:=()
def tw6114237368711712427:=()
def tw8419552576910635985:=()
def tw13627396826684791484:=()
def tw12482797624029843079:=()
def tw11780943856101392533:=()
def tw14275612587430856501:=()
def tw9152922302881080580:=()
def tw13690829757479274744:=()
def tw4707387479037886753:=()
def tw2660356237931038989:=()
def tw12434919491741644142:=()
def tw15332493400870258691:=()
def tw14447310021747876434:=()
def tw6730440492824027797:=()
def tw180796867957292566:=()
def tw7369483885230755105:=()
def tw4259914133608421162:=()
def tw4138627714906880653:=()
def tw9560518102209989373:=()
def tw17344426059640411554:=()
def tw8859155529896078784:=()
def tw4422453827563981718:=()
def tw13783332415736037553:=()
def tw17959013017699878229:=()
def tw15582156990545422504:=()
def tw7721936446433486167:=()
def tw17815478614750709106:=()
def tw12573763018503150881:=()
def tw14954693436364064205:=()
def tw12056786426236449598:=()
def tw12191002703407535382:=()
def tw872615805552994120:=()
def tw8482994975981817174:=()
def tw10058100446265072775:=()
def tw18205352225599344441:=()
def tw16675622352568171192:=()
def tw9813824803682528296:=()
def tw12270875814193555975:=()
def tw7012389357756032599:=()
def tw14912907034575956198:=()
def tw17943000831417563341:=()
def tw18404999421173518086:=()
def tw5095930263560897356:=()
def tw2658505823607737004:=()
def tw3304263799531356267:=()
def tw2208040020273419235:=()
def tw2797743097236817315:=()
def tw11576397929063682185:=()
def tw5621888736547225710:=()
def tw11441460617464785051:=()
def tw14271345837170428630:=()
def tw17130592646051383582:=()
def tw12644379265898594957:=()
def tw7366083607835657229:=()
def tw15797924273944698051:=()
def tw9217402937616860683:=()
def tw7510317454970605350:=()
def tw11138132230517169043:=()
def tw5879215452217619886:=()
def tw5000846375219544894:=()
def tw3978539214732596242:=()
def tw17744450947579856103:=()
def tw8352568995665682090:=()
def tw300650118921723679:=()
def tw16540372995256146574:=()
def tw6860242400542619855:=()
def tw5793379408492708874:=()
def tw8455633056770871773:=()
def tw4050375090042379729:=()
def tw10411006659268311304:=()
def tw7583318558190811886:=()
def tw2066112418232058423:=()
def tw3083200204381959990:=()
def tw12665134399120691568:=()
def tw14473611550272679975:=()
def tw11458957142753900561:=()
def tw15466489091533719277:=()
def tw1522333079712391151:=()
def tw12129137103860049166:=()
def tw267379022377128665:=()
def tw107333817671988907:=()
def tw5192062711359518498:=()
def tw840611369202299598:=()
def tw17834315639059235127:=()
def tw9036018460322511077:=()
def tw8963443025059669607:=()
def tw9391652284945294529:=()
def tw3882577113230770315:=()
def tw9394173218986963818:=()
def tw8717645121034154831:=()
def tw3682186737681719091:=()
def tw3007712202769670399:=()
def tw2334510757102356474:=()
def tw3226094708916823885:=()
def tw7732699133376878777:=()
def tw5279260908364450269:=()
def tw17956416876304731973:=()
def tw9442947560285720821:=()
def tw7543772477816087588:=()
def tw6067119368065922866:=()
def tw4940704273436634298:=()
def tw7219721256534283589:=()
def tw9677271353073881382:=()
def tw9375716687082835197:=()
def tw9574290995220199500:=()
def tw2212501097490553199:=()
def tw5213518638313078799:=()
def tw17353860935130850121:=()
def tw115910748181583257:=()
def tw3028196396003257437:=()
def tw14955462339401635100:=()
def tw4756745293930191591:=()
def tw448719236199133136:=()
def tw6435351107795859918:=()
def tw7941202256834118445:=()
def tw7280407587816874737:=()
def tw8387287209523537442:=()
def tw6318612371161054276:=()
def tw12743405176491420216:=()
def tw9301082754787958002:=()
def tw11964495045277131715:=()
def tw12122356916398656629:=()
def tw1594085875015397179:=()
def tw6635594741720257248:=()
def tw12614967481617849959:=()
def tw15560706202615075996:=()
def tw4074151992902210025:=()
def tw9862258860315465980:=()
def tw15824305982483329372:=()
def tw6998821869393730091:=()
def tw2637016408599311043:=()
def tw7168515366543901513:=()
def tw139552659239388180:=()
def tw17222109520807339604:=()
def tw13406032467268580542:=()
def tw15401568163877009636:=()
def tw3595419607217888709:=()
def tw13811806200323921505:=()
def tw4821757661906864810:=()
def tw10329509589346046133:=()
def tw9420430593651953741:=()
def tw6855083480617109164:=()
def tw5937798282440552436:=()
def tw6930522812842824779:=()
def tw5349248908383769420:=()
def tw6665195693626140679:=()
def tw17871853622269890897:=()
def tw5510316276827374911:=()
def tw13826368510892586588:=()
def tw17022561512612521204:=()
def tw18303611526489518484:=()
def tw14070580719515174836:=()
def tw11821059885964703500:=()
def tw13920599967464402557:=()
def tw3417874267254659244:=()
def tw2209889745527922087:=()
def tw8453849883966903986:=()
def tw8759640130020054469:=()
def tw7259817156914823248:=()
def tw9602523067567987772:=()
def tw14880211248943564002:=()
def tw4571024162043458861:=()
def tw2395667022250115587:=()
def tw16403666951076813035:=()
def tw9460793119115109628:=()
def tw4494869883706121656:=()
def tw8012571041830676833:=()
def tw1624399269161559837:=()
def tw1988338605565536839:=()
def tw4843814591079210208:=()
def tw8644974970991695058:=()
def tw7067646877059159272:=()
def tw8331353996209321753:=()
def tw12463306369150682400:=()
def tw6156854347603023057:=()
def tw17151432374874966815:=()
def tw10580891067156025999:=()
def tw961587550391273143:=()
def tw18320859588176573405:=()
def tw1970167267517384756:=()
def tw10634492418036733897:=()
def tw14867392837536944328:=()
def tw6988209021528323154:=()
def tw10081310515159467694:=()
def tw14133749555319528285:=()
def tw17108499135842426466:=()
def tw6557305717992030178:=()
def tw17915130884346176524:=()
def tw5294383046875798824:=()
def tw10577574036256316478:=()
def tw6506530191149122109:=()
def tw6681604460216525363:=()
def tw2419673330747009371:=()
def tw15378535594466948686:=()
def tw7638897390602752940:=()
def tw6637908526065808787:=()
def tw14572539320834149543:=()
def tw7585509661213657255:=()
def tw11392710122649483341:=()
def tw365614242337775179:=()
def tw2198140313145518899:=()
def tw14785409302969206727:=()
def tw2303764337306995516:=()
def tw8022965015849445748:=()
def tw3937763888142114369:=()
def tw5734820920939110657:=()
def tw12150685126181829412:=()
def tw8902751824185128785:=()
def tw2572951733060390442:=()
def tw4429507529071905705:=()
def tw83572958647989865:=()
def tw7264378884441007893:=()
def tw14436353226338532733:=()
def tw4503661057455252615:=()
def tw5207209122901775351:=()
def tw10943912267739869726:=()
def tw14970484126362030895:=()
def tw11649538994202876062:=()
def tw16202204809718497171:=()
def tw14663066950754578185:=()
def tw10704063369956647877:=()
def tw9132671415644462220:=()
def tw4009540706949070970:=()
def tw3800004804959088724:=()
end PySem.W.Fast
open PySem PySem.W PyProof.Rows
set_option maxRecDepth 100000 in
set_option maxHeartbeats 0 in
theorem PySem.Challenge.cw_fewnotes_k13_twins_by_turns_holds : PySem.Challenge.rw_fewnotes_k13_twins_by_turns.Holds := by
 w_on;o_law;k_head;(case hw=>w_witness2)
 k_fill
 refine Prf.walk (l:=PySem.Challenge.rw_fewnotes_k13_twins_by_turns) rfl rfl (fun w h Y=>PySem.W.kIn_of Y) ?F
 case F=>
  intro w mg fa h KX G hmg
  replace hmg:mg (Str.ofString "law")=some (.ref fa):=hmg
  refine' Prf.all_mk KX G hmg ?za ?fM ?wI ?sV ?X3 ?qt ?qu ?nD ?mG ?qx ?wK ?j9 ?fZ ?gb ?fG ?dB ?dW ?Vc ?mF ?qw ?wJ ?yF ?yE ?gJ ?q0 ?q1 ?q2 ?q3 ?q4 ?q5 ?q6 ?q7 ?q8 ?q9 ?FQ ?q11 ?PJ ?a13 ?Qe ?Km ?k13 ?n13 ?sI ?q14 ?q15 ?QZ ?q17 ?q18 ?q19 ?q20 ?V1 ?q22 ?q23 ?q24 ?q25 ?q26 ?q27 ?q28 ?q29 ?Z_ ?Z9 ?Z8 ?Z7 ?Z6 ?Z5 ?Z4 ?Uq ?QX ?LC ?Z2 ?Z1 ?Z0 ?V0 ?ZX ?ZW ?ZV ?ZS ?ZR ?ZQ ?ZP ?ZM ?ZL ?zb
  (case za|fM=>constructor<;>k_is)
  (case wI=>refine' ⟨?_, ?_, ?_, ?_, ?_,trivial⟩<;>k_is)
  (case sV=>refine' ⟨?_, ?_, ?_, ?_,trivial⟩<;>k_is)
  (case X3=>constructor<;>k_is)
  (case qt|qu|nD=>k_is)
  (case mG|qx|wK|j9=>constructor;k_is;rfl;k_is;k_is)
  (case fZ|gb|fG|dB|dW=>constructor;rfl;k_is)
  (case Vc=>constructor<;>k_is)
  (case mF|qw|wJ=>constructor;k_is;k_is;k_is;k_is;k_is;k_is;k_exc)
  (case yF|yE|gJ=>k_is)
  (case q0|q1=>apply L2.J5<;>k_is)
  (case q2=>apply L2.Oe<;>k_is)
  (case q3=>apply L2.J5<;>k_is)
  (case q4|q5|q6|q7|q8=>apply L2.Oe<;>k_is)
  (case q9=>apply L2.J5<;>k_is)
  (case FQ|q11|PJ=>apply L2.Oe<;>k_is)
  (case a13|Qe|Km|k13|n13|sI=>k_is)
  (case q14|q15|QZ|q17|q18|q19|q20|V1|q22|q23|q24|q25|q26|q27|q28|q29=>apply L2.J5<;>k_is)
  (case Z_|Z9|Z8|Z7|Z6|Z5|Z4|Uq|QX|LC|Z2=>apply L2.Oe<;>k_is)
  (case Z1|Z0|V0|ZX|ZW|ZV|ZS|ZR|ZQ|ZP|ZM|ZL=>apply L2.J5<;>k_is)
  (case zb=>refine' ⟨?_, ?_, ?_, ?_, ?_, ?_, ?_, ?_, ?_, ?_, ?_, ?_, ?_,trivial⟩<;>k_is)
#print axioms PySem.Challenge.cw_fewnotes_k13_twins_by_turns_holds
