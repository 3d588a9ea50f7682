import PyProof.Rows.All
import Wide.All
import OpenK.AllK
import Wide.FinOn
import Lean
import PyProof.EqAt
import PyProof.EqKinds
import PyProof.TupleCall
import PyProof.EqLayable
import PyProof.ExcArgsOwn
import PyProof.ExcAttrAll.Exception
import PyProof.RulesAs
import PyProof.ExcBaseAll.ValueError
import PyProof.NsDelKeeps
import KE.KRevSl
import OpenK.KOps
import OpenK.KWalk
import PyProof.TupleIter
import PyProof.ZipIter
import PyProof.InstNe
import PyProof.FactsAll.object_2
import PyProof.DictUpdate
import PyProof.DictTruth
import PyProof.DictDisplay
import KE.KEqDict
import KE.KSortedM
import PySem.Challenge.RW_fewnotes_k14_alike_works
set_option Elab.async false
set_option linter.all false
set_option maxRecDepth 100000
namespace L2
open PySem PySem.Spec PyProof.Rows
abbrev Key:=Sum Int Str
def Qm:Key->Value->Bool
 | .inl k,v=>Value.isInt k v
 | .inr x,v=>Value.isStrOf x v
def aeL (w:World):Key->Int
 | .inl k=>hashInt k
 | .inr x=>hashStr w x
theorem eF:∀{k:Key} {v:Value},Qm k v=true->(∃i t,k=Sum.inl i/\v=Value.int i t)\/(∃x t,k=Sum.inr x/\v=Value.str x t)
 | .inl i,v,h=>by
   obtain ⟨t,e⟩:=Value.isInt_shape (k:=i) (v:=v) h;exact .inl ⟨i,t,rfl,e⟩
 | .inr x,v,h=>by
   obtain ⟨t,e⟩:=Value.isStrOf_shape (x:=x) (v:=v) h;exact .inr ⟨x,t,rfl,e⟩
theorem Sx (a b:Int):decide ((Sum.inl a:Key)=Sum.inl b)=(a==b):=by
 by_cases e:a=b
 ·subst e;simp
 ·have h:¬(Sum.inl a:Key)=Sum.inl b:=fun q=>e (Sum.inl.inj q)
  rw [decide_eq_false h];exact (beq_eq_false_iff_ne.mpr e).symm
theorem Ss (a b:Str):decide ((Sum.inr a:Key)=Sum.inr b)=decide (a=b):=by
 by_cases e:a=b
 ·subst e;simp
 ·have h:¬(Sum.inr a:Key)=Sum.inr b:=fun q=>e (Sum.inr.inj q)
  rw [decide_eq_false h,decide_eq_false e]
theorem Sw (a:Int) (b:Str):decide ((Sum.inl a:Key)=Sum.inr b)=false:=decide_eq_false (fun q=>nomatch q)
theorem Sv (a:Str) (b:Int):decide ((Sum.inr a:Key)=Sum.inl b)=false:=decide_eq_false (fun q=>nomatch q)
def Gd (prog:Program) (w:World):PySem.KeyKind prog w Key where
 is:=Qm
 hash:=aeL w
 inj:=fun v a b ha hb=>by
  rcases eF ha with ⟨i,t,rfl,rfl⟩|⟨x,t,rfl,rfl⟩
  ·rcases eF hb with ⟨j,u,rfl,e⟩|⟨y,u,rfl,e⟩
   ·injection e with e1 _;rw [e1]
   ·exact nomatch e
  ·rcases eF hb with ⟨j,u,rfl,e⟩|⟨y,u,rfl,e⟩
   ·exact nomatch e
   ·injection e with e1 _;rw [e1]
 byValue:=fun k v h=>by
  rcases eF h with ⟨i,t,rfl,rfl⟩|⟨x,t,rfl,rfl⟩<;>rfl
 pyHash:=fun hv h=>by
  rcases eF hv with ⟨i,t,rfl,rfl⟩|⟨x,t,rfl,rfl⟩
  ·exact wpAny_pyHash_int h
  ·exact wpAny_pyHash_str h
 eqBool:=fun hu hv h=>by
  rcases eF hu with ⟨i,t,rfl,rfl⟩|⟨x,t,rfl,rfl⟩
  ·rcases eF hv with ⟨j,u,rfl,rfl⟩|⟨y,u,rfl,rfl⟩
   ·rw [Sx] at h;exact wpAny_eqBool_int h
   ·rw [Sw] at h;exact SeqAt.EqAt.int_str i t y u _ _ _ _ h
  ·rcases eF hv with ⟨j,u,rfl,rfl⟩|⟨y,u,rfl,rfl⟩
   ·rw [Sv] at h;exact SeqAt.EqAt.str_int x t j u _ _ _ _ h
   ·rw [Ss] at h;exact wpAny_eqBool_str h
 «strs» :=fun k x t v h=>by
  rcases eF h with ⟨i,u,rfl,e⟩|⟨y,u,rfl,e⟩
  ·exact nomatch e
  ·injection e with e1 _
   subst e1;cases v<;>rfl
end L2
namespace L2
open PySem PySem.Spec PyProof.Rows
inductive V where
 | non|bl (b:Bool)|int (i:Int)|str (x:Str)|Ie (b:Array UInt8)|flt (b:UInt64)|ref (a:Addr)|ty (n:String)
 deriving DecidableEq
def RelV:V->Value->Prop
 | .non,u=>u=Value.none
 | .bl b,u=>u=Value.bool b
 | .int i,u=>∃t,u=Value.int i t
 | .str x,u=>∃t,u=Value.str x t
 | .Ie b,u=>∃t,u=Value.bytes b t
 | .flt b,u=>∃t,u=Value.float b t
 | .ref a,u=>u=Value.ref a
 | .ty n,u=>u=Value.type n
abbrev Vals:List V->List Value->Prop:=Paired RelV
theorem Vals.length {xs:List V} {us:List Value} (r:Vals xs us):xs.length=us.length:=Paired.length r
theorem Vals.get:∀{xs:List V} {us:List Value} {i:Nat} {x:V},Vals xs us->xs[i]? = some x -> ∃u,us[i]? = some u/\RelV x u
 | _,_,_,_,.nil,e=>by simp at e
 | _,_,0,_,.cons r _,e=>by simp at e;subst e;exact ⟨_,rfl,r⟩
 | _,_,i+1,x,.cons _ t,e=>by
   obtain ⟨u,h1,h2⟩:=Vals.get (i:=i) (x:=x) t (by simpa using e);exact ⟨u,by simpa using h1,h2⟩
theorem Vals.set {x:V} {u:Value} (r:RelV x u):∀{xs:List V} {us:List Value} (i:Nat),Vals xs us->Vals (xs.set i x) (us.set i u)
 | _,_,_,.nil=> .nil
 | _,_,0,.cons _ t=> .cons r t
 | _,_,i+1,.cons q t=> .cons q (Vals.set r i t)
theorem Vals.append {xs ys:List V} {us ws:List Value} (h:Vals xs us) (s:Vals ys ws):Vals (xs++ys) (us++ws):=by
 induction h with
 | nil=>exact s
 | cons r t ih=>exact .cons r ih
theorem Vals.take:∀{xs:List V} {us:List Value} (n:Nat),Vals xs us->Vals (xs.take n) (us.take n)
 | _,_,0,_=> .nil
 | _,_,_+1,.nil=> .nil
 | _,_,n+1,.cons r t=> .cons r (Vals.take n t)
theorem Vals.drop:∀{xs:List V} {us:List Value} (n:Nat),Vals xs us->Vals (xs.drop n) (us.drop n)
 | _,_,0,r=>r
 | _,_,_+1,.nil=> .nil
 | _,_,n+1,.cons _ t=>Vals.drop n t
def xU:Option V->Option Value->Prop
 | some v,some u=>RelV v u
 | none,none=>True
 | _,_=>False
def KV {κ:Type}:List (κ×V)->List (κ×Value)->Prop:=Paired fun (p:κ×V) (q:κ×Value)=>p.1=q.1/\RelV p.2 q.2
def kV:Key->V
 | .inl i=> .int i
 | .inr x=> .str x
inductive HO where
 | lst (xs:List V)
 | tup (xs:List V)
 | dK (kvs:List (Key×V))|dT (kvs:List (List Key×V))
 | set (S:Int->Bool) (n:Nat)
 | ins (C dx:Addr) (fs:List (Str×V))
 | own (x:Addr)
 | xd (fs:List (Str×V))
 | met (f x:Addr)
 | rng (lo hi:Int)
 | xJ (o:Obj) (u:HO)
 | Qd (ps:Array Value)
 | ext (φ:Heap->Prop)
abbrev Hp:=Addr->Option HO
def upd (H:Hp) (a:Addr) (o:HO):Hp:=fun b=>if b=a then some o else H b
theorem ak {H:Hp} {a:Addr} {o:HO}:upd H a o a=some o:=by unfold upd;rw [if_pos rfl]
theorem aG {H:Hp} {a b:Addr} {o:HO} (h:b≠a):upd H a o b=H b:=by unfold upd;rw [if_neg h]
theorem cj {H:Hp} {a b:Addr} {o u:HO} (h:H a=some o) (h':H b=some u) (d:o≠u):a≠b:=by
 intro e;subst e;rw [h] at h';exact d (Option.some.inj h')
theorem aB {H:Hp} {a b:Addr} {o:HO} (h:H a=some o) (h':H b=none):a≠b:=by
 intro e;subst e;rw [h] at h';cases h'
section
variable (P:Program) (w:World)
def eY (H:Hp) (h:Heap) (a:Addr):HO->Prop
 | .lst xs=>xs.length<=sizeLine /\ ∃(its:List Value) (n:Nat),Vals xs its/\h.get? a=some {cls:= .type "list",data:= .seq its.toArray n}
 | .tup xs=>xs.length<=sizeLine /\ ∃its:List Value,Vals xs its/\IsTup h a its.toArray
 | .dK kvs=>kvs.length<=sizeLine/\(a==sysModules)=false /\ ∃vs,KV kvs vs/\h.DictOf (Gd P w) a vs
 | .dT kvs=>kvs.length<=sizeLine/\(a==sysModules)=false /\ ∃xs:List (List Key×Addr×Value),
    Paired (fun (p:List Key×V) (q:List Key×Addr×Value)=>p.1=q.1/\H q.2.1=some (.tup (p.1.map kV))/\RelV p.2 q.2.2) kvs xs /\
    ∃o es ep,h.get? a=some o/\o.ExactDict/\o.data = .dict es ep/\es.toList=xs.map (entryOfKey (tupleKind (Gd P w)))/\(xs.map (·.1)).Nodup
 | .set S n=>h.SetOf (intKind P w) a S n
 | .ins C dx fs=>H dx=some (.own a)/\fs.length<=1000/\dx≠a/\h.get? a=some (PySem.W.instObj C dx) /\
    ∃mA,h.Ns1 dx mA/\(∀f,xU (fs.lookup f) (mA f))/\PySem.Within mA (fs.map (·.1))
 | .own _=>∃o,h.get? a=some o
 | .xd fs=>∃mA,h.Ns1 a mA /\ ∀f,xU (fs.lookup f) (mA f)
 | .rng lo hi=>∃t u v,h.get? a=some {cls:= .type "range",data:= .fields #[.int lo t,.int hi u,.int 1 v]}
 | .xJ o u=>h.get? a=some o/\eY H h a u
 | .Qd ps=>h.get? a=some {cls:= .none,data:= .fields ps}
 | .met f x=>h.get? a=some (PySem.W.methodObj (.ref f) (.ref x))
 | .ext φ=>φ h/\(∃o,h.get? a=some o) /\ ∀h1 h2:Heap,φ h1->(∀o,h1.get? a=some o->h2.get? a=some o)->φ h2
def rB (H:Hp) (h:Heap):Prop:=∀a o,H a=some o->eY P w H h a o
end
section
variable {P:Program} {w:World} {H H':Hp} {h h':Heap} {a:Addr} {o:HO}
theorem eY.lt (x:eY P w H h a o):a<h.objs.size:=by
 cases o with
 | lst xs=>obtain ⟨_,_,_,_,e⟩:=x;exact Heap.lt_size e
 | tup xs=>obtain ⟨_,_,_,p⟩:=x;exact p.lt
 | dK kvs=>obtain ⟨_,_,_,_,o,_,_,e,_⟩:=x;exact Heap.lt_size e
 | dT kvs=>obtain ⟨_,_,_,_,o,_,_,e,_⟩:=x;exact Heap.lt_size e
 | set S n=>obtain ⟨o,_,_,_,e,_⟩:=x;exact Heap.lt_size e
 | ins C dx fs=>obtain ⟨_,_,_,e,_⟩:=x;exact Heap.lt_size e
 | own y=>obtain ⟨_,e⟩:=x;exact Heap.lt_size e
 | xd fs=>obtain ⟨_,⟨_,_,_,e,_⟩,_⟩:=x;exact Heap.lt_size e
 | rng lo hi=>obtain ⟨_,_,_,e⟩:=x;exact Heap.lt_size e
 | xJ ob u=>obtain ⟨e,_⟩:=x;exact Heap.lt_size e
 | Qd ps=>exact Heap.lt_size (show h.get? a=some _ from x)
 | met f y=>exact Heap.lt_size (show h.get? a=some _ from x)
 | ext φ=>obtain ⟨_,⟨_,e⟩,_⟩:=x;exact Heap.lt_size e
theorem Paired.ad5 {α β:Type} {F G:α->β->Prop}:∀{l₁:List α} {l₂:List β},Paired F l₁ l₂->(∀a b,F a b->G a b)->Paired G l₁ l₂
 :=by
 intro l₁ l₂ h f
 induction h with
 | nil=>exact .nil
 | cons r t ih=>exact .cons (f _ _ r) ih
theorem eY.stay (x:eY P w H h a o) (k:∀b u,(b=a\/H b=some (.own a))->h.get? b=some u->h'.get? b=some u)
 (ho:∀b,H b=some (.own a)->H' b=some (.own a)) (ht:∀b xs,H b=some (.tup xs)->H' b=some (.tup xs)):eY P w H' h' a o:=by
 induction o with
 | lst xs=>obtain ⟨z,its,n,r,e⟩:=x;exact ⟨z,its,n,r,k _ _ (.inl rfl) e⟩
 | tup xs=>obtain ⟨z,its,r,ob,e,c⟩:=x;exact ⟨z,its,r,ob,k _ _ (.inl rfl) e,c⟩
 | dK kvs=>obtain ⟨z,y,vs,r,ob,es,ep,e,c⟩:=x;exact ⟨z,y,vs,r,ob,es,ep,k _ _ (.inl rfl) e,c⟩
 | dT kvs=>
   obtain ⟨z,y,xs,r,ob,es,ep,e,c⟩:=x;exact ⟨z,y,xs,Paired.ad5 r fun p q z=>⟨z.1,ht _ _ z.2.1,z.2.2⟩,ob,es,ep,k _ _ (.inl rfl) e,c⟩
 | set S n=>obtain ⟨ob,es,ep,t,e,c⟩:=x;exact ⟨ob,es,ep,t,k _ _ (.inl rfl) e,c⟩
 | ins C dx fs=>
   obtain ⟨d,z,ne,e,mA,⟨od,es,ep,e2,c⟩,r⟩:=x;exact ⟨ho _ d,z,ne,k _ _ (.inl rfl) e,mA,⟨od,es,ep,k _ _ (.inr d) e2,c⟩,r⟩
 | own y=>obtain ⟨ob,e⟩:=x;exact ⟨ob,k _ _ (.inl rfl) e⟩
 | xd fs=>obtain ⟨mA,⟨od,es,ep,e,c⟩,r⟩:=x;exact ⟨mA,⟨od,es,ep,k _ _ (.inl rfl) e,c⟩,r⟩
 | rng lo hi=>obtain ⟨t,u,v,e⟩:=x;exact ⟨t,u,v,k _ _ (.inl rfl) e⟩
 | xJ ob u ih=>obtain ⟨e,q⟩:=x;exact ⟨k _ _ (.inl rfl) e,ih q⟩
 | Qd ps=>
   have e:h.get? a=some {cls:= .none,data:= .fields ps}:=x;show h'.get? a=some {cls:= .none,data:= .fields ps};exact k a _ (.inl rfl) e
 | met f y=>
   have e:h.get? a=some (PySem.W.methodObj (.ref f) (.ref y)):=x;show h'.get? a=some (PySem.W.methodObj (.ref f) (.ref y));exact k a _ (.inl rfl) e
 | ext φ=>obtain ⟨p,⟨o,e⟩,st⟩:=x;exact ⟨st _ _ p fun o q=>k _ _ (.inl rfl) q,⟨o,k _ _ (.inl rfl) e⟩,st⟩
theorem rB.lt (x:rB P w H h) (e:H a=some o):a<h.objs.size:=(x a o e).lt
theorem rB.fresh (x:rB P w H h) (e:h.objs.size<=a):H a=none:=by
 cases q:H a with
 | none=>rfl
 | some u=>exact absurd (Nat.lt_of_lt_of_le (x.lt q) e) (Nat.lt_irrefl _)
theorem rB.kept (x:rB P w H h) (k:∀b u,h.get? b=some u->h'.get? b=some u):rB P w H h':=fun a o e=>
 (x a o e).stay (fun b u _ q=>k b u q) (fun _ q=>q) fun _ _ q=>q
theorem rB.laid (x:rB P w H h) (k:∀b u,h.get? b=some u->h'.get? b=some u) (hp:h.objs.size<=a) (new:eY P w (upd H a o) h' a o):rB P w (upd H a o) h':=fun b u e=>by
 have hn:=x.fresh hp
 by_cases hb:b=a
 ·subst hb;rw [ak] at e;cases e;exact new
 ·rw [aG hb] at e
  exact (x b u e).stay (fun c v _ q=>k c v q) (fun c q=>by rw [aG (aB q hn)];exact q) fun c xs q=>by rw [aG (aB q hn)];exact q
end
def Rd (H:Hp) (a:Addr) (u:HO):Prop:=H a=some u \/ ∃o,H a=some (.xJ o u)
theorem Rd.ok {P:Program} {w:World} {H:Hp} {h:Heap} {a:Addr} {u:HO} (r:Rd H a u) (x:rB P w H h):eY P w H h a u:=by
 rcases r with r|⟨o,r⟩
 ·exact x a u r
 ·obtain ⟨_,q⟩:=x a _ r
  exact q
def Mut:Option HO->Prop
 | some (.lst _)=>True
 | some (.dK _)=>True
 | some (.dT _)=>True
 | some (.set _ _)=>True
 | some (.ins _ _ _)=>True
 | some (.ext _)=>True
 | _=>False
section
variable {P:Program} {w:World} {H:Hp} {h h':Heap} {x e:Addr} {o':HO}
theorem rB.write (ok:rB P w H h) (mu:Mut (H x)) (he:e=x\/H e=some (.own x)) (k:∀b u,b≠e->h.get? b=some u->h'.get? b=some u) (heo:∃u,h'.get? e=some u)
 (new:eY P w (upd H x o') h' x o'):rB P w (upd H x o') h':=fun b u q=>by
 have V1:∀c y,H c=some (.own y)->c≠x:=fun c y r z=>by subst z;rw [r] at mu;exact mu
 have adT:∀c xs,H c=some (.tup xs)->c≠x:=fun c xs r z=>by subst z;rw [r] at mu;exact mu
 by_cases hb:b=x
 ·subst hb;rw [ak] at q;cases q;exact new
 ·rw [aG hb] at q
  by_cases hbe:b=e
  ·have q':H b=some (.own x):=by
    rcases he with z|z
    ·exact absurd (hbe.trans z) hb
    ·rw [hbe];exact z
   rw [q] at q';cases q';obtain ⟨v,hv⟩:=heo;exact ⟨v,by rw [hbe];exact hv⟩
  ·refine (ok b u q).stay (fun c v hc r=>k c v ?_ r) (fun c r=>by rw [aG (V1 c b r)];exact r) fun c xs r=>by rw [aG (adT c xs r)];exact r
   rcases hc with rfl|hc
   ·exact hbe
   ·rintro rfl
    rcases he with z|z
    ·exact V1 c b hc z
    ·rw [hc] at z;cases z;exact hb rfl
end
structure Un (fs ex:List Addr) (H H':Hp) (h h':Heap):Prop where
 keep:∀b o,h.get? b=some o->H b=none->b∉fs->b∉ex->h'.get? b=some o
 slot:∀b o,h.get? b=some o->H b=none->b∈fs->b∉ex -> ∃sl,h'.get? b=some {o with slots:=sl}
 free:∀b o,h.get? b=some o->H b=none->b∉ex->H' b=none
 there:∀b o,h.get? b=some o->b∉ex -> ∃o',h'.get? b=some o'
 tups:∀b xs,H b=some (.tup xs)->H' b=some (.tup xs)
 wz:∀b o u,H b=some (.xJ o u)->H' b=some (.xJ o u)
 xg:∀b ps,H b=some (.Qd ps) -> ∃more,H' b=some (.Qd (ps++more))
section
variable {fs fs' ex ex':List Addr} {H H1 H2:Hp} {h h1 h2 h':Heap} {a x e:Addr} {o:HO}
theorem Un.any (u:Un fs ex H H1 h h1) {b:Addr} {ob:Obj} (q:h.get? b=some ob) (n:H b=none) (hx:b∉ex):∃sl,h1.get? b=some {ob with slots:=sl}:=by
 by_cases hb:b∈fs
 ·exact u.slot b ob q n hb hx
 ·exact ⟨ob.slots,u.keep b ob q n hb hx⟩
theorem Un.kept (k:∀b u,h.get? b=some u->h'.get? b=some u):Un fs ex H H h h':=
 ⟨fun b ob q _ _ _=>k b ob q,fun b ob q _ _ _=>⟨ob.slots,k b ob q⟩,fun _ _ _ n _=>n,fun b ob q _=>⟨ob,k b ob q⟩,fun _ _ q=>q,fun _ _ _ q=>q,fun _ ps q=>⟨#[],by rw [q];simp⟩⟩
theorem Un.refl:Un fs ex H H h h:=Un.kept fun _ _ q=>q
theorem Un.laid (k:∀b u,h.get? b=some u->h'.get? b=some u) (hp:h.objs.size<=a) (hn:H a=none):Un fs ex H (upd H a o) h h' where
 keep:=fun b u q _ _ _=>k b u q
 slot:=fun b u q _ _ _=>⟨u.slots,k b u q⟩
 free:=fun b u q n _=>by rw [aG (Nat.ne_of_lt (Nat.lt_of_lt_of_le (Heap.lt_size q) hp))];exact n
 there:=fun b u q _=>⟨u,k b u q⟩
 tups:=fun b xs q=>by rw [aG (aB q hn)];exact q
 wz:=fun b u xs q=>by rw [aG (aB q hn)];exact q
 xg:=fun b ps q=>⟨#[],by rw [aG (aB q hn),q];simp⟩
theorem Un.write (mu:Mut (H x)) (he:e=x\/H e=some (.own x)) (k:∀b u,b≠e->h.get? b=some u->h'.get? b=some u) (heo:∃u,h'.get? e=some u):Un fs ex H (upd H x o) h h':=by
 have hx:∀b,H b=none->b≠x:=fun b n z=>by subst z;rw [n] at mu;exact mu
 have hb:∀b,H b=none->b≠e:=fun b n z=>by
  subst z;rcases he with r|r
  ·exact hx b n r
  ·rw [n] at r;cases r
 have hm:∀b u,H b=some u -> ¬Mut (some u)->b≠x:=fun b u q nm z=>by subst z;rw [q] at mu;exact nm mu
 refine ⟨fun b u q n _ _=>k b u (hb b n) q,fun b u q n _ _=>⟨u.slots,k b u (hb b n) q⟩,fun b u q n _=>by rw [aG (hx b n)];exact n,fun b u q _=> ?_,
  fun b xs q=>by rw [aG (hm b _ q fun z=>z)];exact q,fun b u xs q=>by rw [aG (hm b _ q fun z=>z)];exact q,fun b ps q=>⟨#[],by rw [aG (hm b _ q fun z=>z),q];simp⟩⟩
 by_cases hbe:b=e
 ·subst hbe;exact heo
 ·exact ⟨u,k b u hbe q⟩
end
def Ip (h:Heap) (H:Hp):List Addr:=(List.range h.objs.size).filter fun a=>(H a).isSome
def zL (h:Heap) (H:Hp):Heap:=PySem.W.hideAll h (Ip h H)
theorem HN (h:Heap) (H:Hp):(zL h H).objs.size=h.objs.size:=PySem.W.hideAll_size _ _
theorem KN {h:Heap} {H:Hp} {b:Addr} {o:Obj} (e:h.get? b=some o) (n:H b=none):(zL h H).get? b=some o:=
 PySem.W.hideAll_get _ e fun hm=>by
  have q:(H b).isSome=true:=(List.mem_filter.mp hm).2;rw [n] at q;simp at q
theorem Og {h:Heap} {H:Hp} {b:Addr} {o:Obj} (e:(zL h H).get? b=some o):h.get? b=some o/\H b=none:=by
 have e':h.get? b=some o:=PySem.W.of_hideAll (Ip h H) e;refine ⟨e', ?_⟩;cases q:H b with
 | none=>rfl
 | some x=>
   have hm:b∈Ip h H:=List.mem_filter.mpr ⟨List.mem_range.mpr (Heap.lt_size e'),by simp [q]⟩;have z:(zL h H).get? b=none:=PySem.W.hideAll_none (Ip h H) hm;rw [z] at e;cases e
def Pz (g h:Heap) (L:Addr):List (Addr×Obj):=(List.range h.objs.size).filterMap fun a=>if a=L\/(g.get? a).isSome=true then none else (h.get? a).map fun o=>(a,o)
def rest (g h:Heap) (L d:Addr):List (Addr×Obj):=(Pz g h L).filter fun p=>decide (p.1≠d)
end L2
namespace L2
open PySem PySem.Spec PyProof.Rows
structure Mod (K:PySem.W.Frag) (mg:Str->Option Value) (base:Heap):Prop where
 CQ:K.In base
 glob:base.Ns mainGlobals mg
 blt:∃mb,base.Ns builtinsNs mb /\ ∀x:Str,x ≠ "__name__" -> mb x=bootBuiltins x
 nolimit:base.NoLimit
structure Cx where
 prog:Program
 w:World
 K:PySem.W.Frag
 mg:Str->Option Value
 base:Heap
 A:Around
 N:List Str
 s₀:Shared
 H₀:Hp
 env:Env
 outer:List Env
 stack:List Env
 ex:List Addr
 fn:Str->Bool
 calm:Bool
 pn:List (Addr×Obj)
 xe:Value->Shared->Prop
def frs (l:List Env):List Addr:=l.filterMap (·.frame)
abbrev Cx.fs (X:Cx):List Addr:=frs X.outer
def Vis (sc:Scope) (x:Str):Prop:=sc.names.lookup x=some .local\/sc.names.lookup x=some .cell\/sc.names.lookup x=some .free
def Loc (sc:Scope) (x:Str):Prop:=sc.names.lookup x=some .local\/sc.names.lookup x=some .cell
def Look (env:Env) (h:Heap) (m:Str->Option Value) (x:Str) (u:Value):Prop:=
 (env.kindOf x=some .local/\m x=some u)\/((env.kindOf x=some .cell\/env.kindOf x=some .free) /\ ∃c,env.cells.lookup x=some c/\h.IsCell c (some u))
structure Cx.Ok (X:Cx):Prop where
 mod:Mod X.K X.mg X.base
 kind:X.env.scope.kind = .function
 glob:X.env.globals=mainGlobals
 blt:X.env.builtins=builtinsNs
 above:X.s₀.heap.objs.size<=X.env.locals
 inj:∀x y c,X.env.cells.lookup x=some c->X.env.cells.lookup y=some c->x=y
 has:∀x,(X.env.kindOf x=some .cell\/X.env.kindOf x=some .free) -> ∃c,X.env.cells.lookup x=some c
 cab:∀x c,X.fn x=true->X.env.cells.lookup x=some c->X.s₀.heap.objs.size<=c
 hd:X.calm=true->X.A.handled=none
 frames:X.A.frames=some X.stack
 stk:X.stack=X.outer\/(X.stack=X.env::X.outer/\X.env.frame=some X.env.locals)
 exf:∀b∈X.ex,b≠X.env.locals /\ ∀x c,X.env.cells.lookup x=some c->c≠b
 bs:∀b o,X.base.get? b=some o->X.s₀.heap.get? b=some o/\X.H₀ b=none
 Ls:X.base.objs.size<=X.s₀.heap.objs.size
 Kf:∀b o,X.base.get? b=some o->b∉X.ex
 O1:∀b∈X.ex,b∉X.fs
 qQ:X.s₀.heap.FunFrames X.base X.outer
 Qq:∀b∈X.fs,X.H₀ b=none
structure Inv (X:Cx) (pins:List (Addr×Obj)) (σ:List (Option V)) (H:Hp) (s:Shared):Prop where
 ok:X.Ok
 os:s.os=X.s₀.os
 bare:AllBare s.gens
 base:Un X.fs X.ex X.H₀ H X.s₀.heap s.heap
 loc:∃m,s.heap.Ns X.env.locals m /\ ∀(i:Nat) (x:Str) (v:V),X.N[i]? = some x->σ[i]? = some (some v)->Vis X.env.scope x -> ∃u,RelV v u/\Look X.env s.heap m x u
 cell:∀x c,X.env.cells.lookup x=some c -> ∃v,s.heap.IsCell c v
 free:H X.env.locals=none
 n_:∀x c,X.env.cells.lookup x=some c->H c=none
 pin:∀p∈X.pn++pins,s.heap.get? p.1=some p.2/\H p.1=none/\p.1≠X.env.locals/\p.1∉X.fs /\ ∀v,p.2.data ≠ .cell v
 hok:rB X.prog X.w H s.heap
 len:σ.length=X.N.length
section
variable {X:Cx} {pins:List (Addr×Obj)} {σ:List (Option V)} {H H':Hp} {s:Shared} {h':Heap}
theorem Cx.Ok.adX (ok:X.Ok) {b:Addr} {o:Obj} (e:X.base.get? b=some o):b∉X.fs:=fun hb=>by
 have:=(ok.qQ.mem hb).1;rw [e] at this;cases this
theorem Inv.bs (I:Inv X pins σ H s):∀b o,X.base.get? b=some o->s.heap.get? b=some o/\H b=none:=fun b o e=>
 ⟨I.base.keep b o (I.ok.bs b o e).1 (I.ok.bs b o e).2 (I.ok.adX e) (I.ok.Kf b o e),I.base.free b o (I.ok.bs b o e).1 (I.ok.bs b o e).2 (I.ok.Kf b o e)⟩
theorem Inv.bk (I:Inv X pins σ H s):∀b o,X.base.get? b=some o->s.heap.get? b=some o:=fun b o e=>(I.bs b o e).1
theorem Inv.mod (I:Inv X pins σ H s):Mod X.K X.mg X.base:=I.ok.mod
theorem Inv.pA (I:Inv X pins σ H s):X.K.In s.heap:=I.ok.mod.CQ.keeps I.bk
theorem Inv.fr (I:Inv X pins σ H s):∃m,Fr X.base X.env.locals s.heap m:=
 let ⟨m,hn,_⟩:=I.loc
 ⟨m,hn,I.bk,Nat.le_trans I.ok.Ls I.ok.above⟩
theorem Inv.lt (I:Inv X pins σ H s):X.env.locals<s.heap.objs.size:=let ⟨_,hn,_⟩:=I.loc;hn.lt
theorem Inv.sz (I:Inv X pins σ H s):X.s₀.heap.objs.size<=s.heap.objs.size:=Nat.le_trans I.ok.above (Nat.le_of_lt I.lt)
theorem Inv.adW (I:Inv X pins σ H s) {a:Addr} (h:s.heap.objs.size<=a):a∉X.fs:=fun hb=>by
 obtain ⟨_,o,ho,_⟩:=I.ok.qQ.mem hb;exact absurd (Nat.lt_of_lt_of_le (Heap.lt_size ho) (Nat.le_trans I.sz h)) (Nat.lt_irrefl _)
theorem Inv.Tp (I:Inv X pins σ H s):∀x c,X.env.cells.lookup x=some c->c≠X.env.locals:=fun x c e z=>by
 obtain ⟨v,o,ho,hd⟩:=I.cell x c e;obtain ⟨m,⟨o',es,ep,ho',hd',_⟩,_⟩:=I.loc;rw [z,ho'] at ho;cases ho;rw [hd'] at hd;cases hd
theorem Inv.qQ (I:Inv X pins σ H s):s.heap.FunFrames X.base X.outer:=by
 have all:∀(l:List Env),(∀b∈frs l,b∈X.fs)->X.s₀.heap.FunFrames X.base l->s.heap.FunFrames X.base l:=by
  intro l
  induction l with
  | nil=>intro _ _;trivial
  | cons env r ih=>
    intro hs hl;obtain ⟨hk,⟨L,o,hf,hn,ho,hd⟩,hr⟩:=hl;have hL:L∈X.fs:=hs L (by unfold frs;rw [List.filterMap_cons,hf];exact List.mem_cons_self);obtain ⟨sl,e⟩:=I.base.slot L o ho (I.ok.Qq L hL) hL fun z=>I.ok.O1 L z hL;exact ⟨hk,⟨L,_,hf,hn,e,hd⟩,ih (fun b hb=>hs b (by unfold frs;rw [List.filterMap_cons,hf];exact List.mem_cons_of_mem _ hb)) hr⟩
 exact all X.outer (fun _ hb=>hb) I.ok.qQ
theorem Inv.stack (I:Inv X pins σ H s):s.heap.FunFrames X.base X.stack:=by
 rcases I.ok.stk with e|⟨e,hf⟩
 ·rw [e];exact I.qQ
 ·rw [e]
  obtain ⟨m,hn,_⟩:=I.loc;refine .cons (by rw [I.ok.kind];decide) hf hn ?_ I.qQ;exact Heap.get?_none_of_le (Nat.le_trans I.ok.Ls I.ok.above)
theorem Inv.vq (I:Inv X pins σ H s):∀b∈frs X.stack,b∈X.env.locals::X.fs:=fun b hb=>by
 rcases I.ok.stk with e|⟨e,hf⟩
 ·rw [e] at hb;exact List.mem_cons_of_mem _ hb
 ·rw [e] at hb
  unfold frs at hb;rw [List.filterMap_cons,hf] at hb;exact hb
theorem Inv.yM (I:Inv X pins σ H s):∀b∈frs X.stack,H b=none:=fun b hb=>by
 rcases List.mem_cons.mp (I.vq b hb) with e|hb
 ·rw [e];exact I.free
 ·obtain ⟨_,o,ho,_⟩:=I.ok.qQ.mem hb
  exact I.base.free b o ho (I.ok.Qq b hb) fun z=>I.ok.O1 b z hb
theorem Inv.step {g':Array GenState} {t':Nat} {d':Drawn} {ch:List Addr} (I:Inv X pins σ H s)
 (hch:∀b∈ch,(b∈X.ex\/X.s₀.heap.objs.size<=b)/\b≠X.env.locals/\(∀x c,X.env.cells.lookup x=some c->c≠b) /\ ∀p∈X.pn++pins,p.1≠b)
 (keep:∀b o,b≠X.env.locals->b∉X.fs->b∉ch->s.heap.get? b=some o->H b=none->h'.get? b=some o)
 (slot:∀b o,b≠X.env.locals->b∈X.fs->b∉ch->s.heap.get? b=some o->H b=none -> ∃sl,h'.get? b=some {o with slots:=sl}) (free:∀b o,b∉ch->s.heap.get? b=some o->H b=none->H' b=none)
 (there:∀b o,b∉ch->s.heap.get? b=some o -> ∃o',h'.get? b=some o')
 (tups:∀b xs,H b=some (.tup xs)->H' b=some (.tup xs)) (wz:∀b o u,H b=some (.xJ o u)->H' b=some (.xJ o u)) (xg:∀b ps,H b=some (.Qd ps) -> ∃more,H' b=some (.Qd (ps++more)))
 (ns:∀m,s.heap.Ns X.env.locals m->h'.Ns X.env.locals m) (hok:rB X.prog X.w H' h') (hg:AllBare g'):
 Inv X pins σ H' {s with heap:=h',gens:=g',drawn:=d',toks:=t'}:=by
 have Y7:∀b o,X.s₀.heap.get? b=some o->b≠X.env.locals:=fun b o e=>Nat.ne_of_lt (Nat.lt_of_lt_of_le (Heap.lt_size e) I.ok.above)
 have Y8:∀b o,X.s₀.heap.get? b=some o->b∉X.ex->b∉ch:=fun b o e hx hb=>by
  rcases (hch b hb).1 with z|z
  ·exact hx z
  ·exact absurd (Nat.lt_of_lt_of_le (Heap.lt_size e) z) (Nat.lt_irrefl _)
 have cellK:∀x c,X.env.cells.lookup x=some c -> ∀v,s.heap.IsCell c v->h'.IsCell c v:=fun x c e v ⟨o,ho,hd⟩=>by
  have V5:c∉ch:=fun z=>(hch c z).2.2.1 x c e rfl
  by_cases hc:c∈X.fs
  ·obtain ⟨sl,q⟩:=slot c o (I.Tp x c e) hc V5 ho (I.n_ x c e)
   exact ⟨_,q,hd⟩
  ·exact ⟨o,keep c o (I.Tp x c e) hc V5 ho (I.n_ x c e),hd⟩
 refine ⟨I.ok,I.os,hg,⟨fun b o e n hb hx=> ?_,fun b o e n hb hx=> ?_,fun b o e n hx=> ?_,fun b o e hx=> ?_,fun b xs e=>tups b xs (I.base.tups b xs e),fun b o xs e=>wz b o xs (I.base.wz b o xs e),fun b ps e=> ?_⟩, ?_,fun x c e=> ?_, ?_,fun x c e=> ?_,fun p hp=> ?_,hok,I.len⟩
 ·exact keep b o (Y7 b o e) hb (Y8 b o e hx) (I.base.keep b o e n hb hx) (I.base.free b o e n hx)
 ·obtain ⟨sl,e1⟩:=I.base.slot b o e n hb hx
  obtain ⟨sl',e2⟩:=slot b _ (Y7 b o e) hb (Y8 b o e hx) e1 (I.base.free b o e n hx);exact ⟨sl',e2⟩
 ·obtain ⟨o',e1⟩:=I.base.there b o e hx
  exact free b o' (Y8 b o e hx) e1 (I.base.free b o e n hx)
 ·obtain ⟨o',e1⟩:=I.base.there b o e hx
  exact there b o' (Y8 b o e hx) e1
 ·obtain ⟨m1,e1⟩:=I.base.xg b ps e
  obtain ⟨m2,e2⟩:=xg b _ e1;exact ⟨m1++m2,by rw [e2,Array.append_assoc]⟩
 ·obtain ⟨m,hn,hl⟩:=I.loc
  refine ⟨m,ns m hn,fun i x v e1 e2 e3=> ?_⟩;obtain ⟨u,r,l⟩:=hl i x v e1 e2 e3;refine ⟨u,r, ?_⟩;rcases l with l|⟨k,c,e,z⟩
  ·exact .inl l
  ·exact .inr ⟨k,c,e,cellK x c e _ z⟩
 ·obtain ⟨v,z⟩:=I.cell x c e
  exact ⟨v,cellK x c e v z⟩
 ·obtain ⟨m,⟨o,_,_,ho,_⟩,_⟩:=I.loc
  exact free _ o (fun z=>(hch _ z).2.1 rfl) ho I.free
 ·obtain ⟨v,o,ho,hd⟩:=I.cell x c e
  exact free c o (fun z=>(hch c z).2.2.1 x c e rfl) ho (I.n_ x c e)
 ·obtain ⟨e,n,ne,nf,d⟩:=I.pin p hp
  have V5:p.1∉ch:=fun z=>(hch p.1 z).2.2.2 p hp rfl;exact ⟨keep p.1 p.2 ne nf V5 e n,free p.1 p.2 V5 e n,ne,nf,d⟩
theorem Inv.un {t':Nat} (I:Inv X pins σ H s) (u:Un X.fs [] H H' s.heap h') (hok:rB X.prog X.w H' h'):Inv X pins σ H' {s with heap:=h',toks:=t'}:=by
 obtain ⟨m,⟨o,es,ep,ho,r⟩,_⟩:=id I.loc;obtain ⟨sl,hL⟩:=u.any ho I.free (by simp)
 exact I.step (g':=s.gens) (d':=s.drawn) (ch:=[]) (fun _ z=>nomatch z) (fun b o _ hb _ e n=>u.keep b o e n hb (by simp)) (fun b o _ hb _ e n=>u.slot b o e n hb (by simp)) (fun b o _ e n=>u.free b o e n (by simp)) (fun b o _ e=>u.there b o e (by simp)) u.tups u.wz u.xg (fun m' hm=>by
  obtain ⟨o',es',ep',ho',r'⟩:=hm;rw [ho] at ho';cases ho';exact ⟨_,es',ep',hL,r'⟩) hok I.bare
theorem Inv.call {g':Array GenState} {t':Nat} {d':Drawn} {ch:List Addr} (I:Inv X pins σ H s) (u:Un (frs X.stack) ch H H' s.heap h') (hok:rB X.prog X.w H' h') (hg:AllBare g')
 (hch:∀b∈ch,(b∈X.ex\/X.s₀.heap.objs.size<=b)/\b≠X.env.locals/\(∀x c,X.env.cells.lookup x=some c->c≠b) /\ ∀p∈X.pn++pins,p.1≠b):
 Inv X pins σ H' {s with heap:=h',gens:=g',drawn:=d',toks:=t'}:=by
 obtain ⟨m,⟨o,es,ep,ho,r⟩,_⟩:=id I.loc;obtain ⟨sl,hL⟩:=u.any ho I.free fun z=>(hch _ z).2.1 rfl
 exact I.step (ch:=ch) hch (fun b o hL hb hc e n=>u.keep b o e n (fun z=>(List.mem_cons.mp (I.vq b z)).elim hL hb) hc) (fun b o _ _ hc e n=>u.any e n hc) (fun b o hc e n=>u.free b o e n hc) (fun b o hc e=>u.there b o e hc) u.tups u.wz u.xg (fun m' hm=>by
  obtain ⟨o',es',ep',ho',r'⟩:=hm;rw [ho] at ho';cases ho';exact ⟨_,es',ep',hL,r'⟩) hok hg
theorem Inv.turned {t':Nat} {it:Addr} (I:Inv X pins σ H s) (k:∀b o,b≠it->s.heap.get? b=some o->h'.get? b=some o) (hn:H it=none) (hL:it≠X.env.locals)
 (h1:it∈X.ex\/X.s₀.heap.objs.size<=it) (h2:∀x c,X.env.cells.lookup x=some c->c≠it) (h3:∀p∈X.pn++pins,p.1≠it):Inv X pins σ H {s with heap:=h',toks:=t'}:=by
 have V4:∀b u,H b=some u->b≠it:=fun b u e z=>by rw [z,hn] at e;cases e
 refine I.step (g':=s.gens) (d':=s.drawn) (ch:=[it]) (fun b hb=> ?_) (fun b o _ _ hc e _=>k b o (fun z=>hc (by simp [z])) e) (fun b o _ _ hc e _=>⟨o.slots,k b o (fun z=>hc (by simp [z])) e⟩) (fun _ _ _ _ n=>n)
  (fun b o hc e=>⟨o,k b o (fun z=>hc (by simp [z])) e⟩) (fun _ _ e=>e) (fun _ _ _ e=>e) (fun b ps e=>⟨#[],by rw [e];simp⟩) (fun m hm=> ?_) (fun b u e=> ?_) I.bare
 ·have e:b=it:=by simpa using hb
  subst e;exact ⟨h1,hL,h2,h3⟩
 ·obtain ⟨o,es,ep,ho,r⟩:=hm
  exact ⟨o,es,ep,k _ o (Ne.symm hL) ho,r⟩
 ·refine (I.hok b u e).stay (fun c v hc q=>k c v ?_ q) (fun _ q=>q) fun _ _ q=>q
  rcases hc with z|z
  ·rw [z];exact V4 b u e
  ·exact V4 c _ z
theorem Inv.tok (I:Inv X pins σ H s) (t:Nat):Inv X pins σ H {s with toks:=t}:=I.un (h':=s.heap) (t':=t) Un.refl I.hok
theorem Inv.kept {t':Nat} (I:Inv X pins σ H s) (k:∀b u,s.heap.get? b=some u->h'.get? b=some u):Inv X pins σ H {s with heap:=h',toks:=t'}:=I.un (Un.kept k) (I.hok.kept k)
theorem Inv.laid {a:Addr} {o:HO} {t':Nat} (I:Inv X pins σ H s) (k:∀b u,s.heap.get? b=some u->h'.get? b=some u) (hp:s.heap.objs.size<=a) (new:eY X.prog X.w (upd H a o) h' a o):
 Inv X pins σ (upd H a o) {s with heap:=h',toks:=t'}:=I.un (Un.laid k hp (I.hok.fresh hp)) (I.hok.laid k hp new)
theorem Inv.write {x e:Addr} {o:HO} {t':Nat} (I:Inv X pins σ H s) (mu:Mut (H x)) (he:e=x\/H e=some (.own x)) (k:∀b u,b≠e->s.heap.get? b=some u->h'.get? b=some u) (heo:∃u,h'.get? e=some u)
 (new:eY X.prog X.w (upd H x o) h' x o):Inv X pins σ (upd H x o) {s with heap:=h',toks:=t'}:=I.un (Un.write mu he k heo) (I.hok.write mu he k heo new)
theorem Inv.FJ {FN:List (Addr×Obj)} (I:Inv X pins σ H s) (h:∀p∈FN,s.heap.get? p.1=some p.2/\H p.1=none/\p.1≠X.env.locals/\p.1∉X.fs /\ ∀v,p.2.data ≠ .cell v):Inv X FN σ H s:=
 ⟨I.ok,I.os,I.bare,I.base,I.loc,I.cell,I.free,I.n_,fun p hp=>(List.mem_append.mp hp).elim (fun z=>I.pin p (List.mem_append_left _ z)) (h p),I.hok,I.len⟩
theorem Bu {N:List Str} (hN:N.Nodup) {i j:Nat} {x:Str} (a:N[i]? = some x) (b:N[j]? = some x):i=j:=by
 obtain ⟨h1,e1⟩:=List.getElem?_eq_some_iff.mp a;obtain ⟨h2,e2⟩:=List.getElem?_eq_some_iff.mp b;exact (List.getElem_inj hN).mp (e1.trans e2.symm)
theorem xZ {M:Model} {A:Around} {E:Value->Shared->Prop} {i:Nat} {x:Str} {v:V} {u:Value} {Q:Unit->Shared->Prop} (I:Inv X pins σ H s) (hN:X.N.Nodup) (hi:X.N[i]? = some x) (hx:Loc X.env.scope x) (r:RelV v u)
 (h:∀s',Inv X pins (σ.set i (some v)) H s'->(∃a,Heap.SameBut a s.heap s'.heap/\(a=X.env.locals\/X.env.cells.lookup x=some a))->Q () s') (hf:X.fn x=true\/X.env.scope.names.lookup x=some .local:=by first |exact .inl rfl|exact .inr rfl|assumption):wpAny M A (storeName X.env x u) Q E s:=by
 obtain ⟨m,hn,hl⟩:=id I.loc;have hcls:(X.env.scope.kind == .class||(X.env.scope.kind == .module&&X.env.locals != X.env.globals))=false:=by rw [I.ok.kind];rfl
 have ajv:i<σ.length:=by rw [I.len];exact (List.getElem?_eq_some_iff.mp hi).1
 have Tp:=I.Tp
 have tracked:∀{a:Addr} {h':Heap},(∃o,s.heap.get? a=some o/\H a=none)->Heap.SameBut a s.heap h'->rB X.prog X.w H h':=fun {a h'} ha hs b ob e=>by
  obtain ⟨_,_,hfree⟩:=ha;refine (I.hok b ob e).stay (fun c w' hc q=>(hs.2 c ?_).trans q) (fun _ q=>q) fun _ _ q=>q;rintro rfl;rcases hc with rfl|hc
  ·rw [hfree] at e;cases e
  ·rw [hfree] at hc;cases hc
 rcases hx with hk|hk
 ·refine wpAny_storeName_local hk hn (fun h' hn' hs=> ?_) hcls
  obtain ⟨oL,_,_,hoL,_⟩:=id hn;refine h _ ⟨I.ok,I.os,I.bare,⟨fun b o e n hb hx=> ?_,fun b o e n hb hx=> ?_,I.base.free,fun b o e hx=> ?_,I.base.tups,I.base.wz,I.base.xg⟩,⟨_,hn',fun j y v' e1 e2 e3=> ?_⟩,fun y c e=> ?_,I.free,I.n_,fun p hp=> ?_,tracked ⟨oL,hoL,I.free⟩ hs,by simpa using I.len⟩ ⟨_,hs,.inl rfl⟩
  ·exact (hs.2 b (Nat.ne_of_lt (Nat.lt_of_lt_of_le (Heap.lt_size e) I.ok.above))).trans (I.base.keep b o e n hb hx)
  ·obtain ⟨sl,e1⟩:=I.base.slot b o e n hb hx
   exact ⟨sl,(hs.2 b (Nat.ne_of_lt (Nat.lt_of_lt_of_le (Heap.lt_size e) I.ok.above))).trans e1⟩
  ·obtain ⟨o',e1⟩:=I.base.there b o e hx
   exact ⟨o',(hs.2 b (Nat.ne_of_lt (Nat.lt_of_lt_of_le (Heap.lt_size e) I.ok.above))).trans e1⟩
  ·by_cases hj:j=i
   ·subst hj
    rw [hi] at e1;cases e1;rw [List.getElem?_set_self ajv] at e2;cases e2;exact ⟨u,r,.inl ⟨hk,by simp⟩⟩
   ·rw [List.getElem?_set_ne (Ne.symm hj)] at e2
    obtain ⟨u',r',q⟩:=hl j y v' e1 e2 e3;refine ⟨u',r', ?_⟩;rcases q with ⟨k,e⟩|⟨k,c,e,z⟩
    ·refine .inl ⟨k, ?_⟩
     have:y≠x:=fun e=>hj (Bu hN e1 (e▸hi));simp [this,e]
    ·exact .inr ⟨k,c,e,z.sameBut hs (Tp y c e)⟩
  ·obtain ⟨w',z⟩:=I.cell y c e
   exact ⟨w',z.sameBut hs (Tp y c e)⟩
  ·obtain ⟨e,n,ne,nf,d⟩:=I.pin p hp
   exact ⟨(hs.2 p.1 ne).trans e,n,ne,nf,d⟩
 ·have hfn:X.fn x=true:=by
   rcases hf with z|z
   ·exact z
   ·rw [z] at hk;cases hk
  obtain ⟨c,hc⟩:=I.ok.has x (.inl hk);obtain ⟨w',z⟩:=I.cell x c hc;refine wpAny_storeName_cell I.ok.kind hk hc z (fun h' hc' hs=> ?_);obtain ⟨oc,hoc,afw⟩:=id z;refine h {s with heap:=h'} ⟨I.ok,I.os,I.bare,⟨fun b o e n hb hx=> ?_,fun b o e n hb hx=> ?_,I.base.free,fun b o e hx=> ?_,I.base.tups,I.base.wz,I.base.xg⟩,⟨m,hn.sameBut hs (Ne.symm (Tp x c hc)),fun j y v' e1 e2 e3=> ?_⟩,fun y c' e=> ?_,I.free,I.n_,fun p hp=> ?_,tracked ⟨oc,hoc,I.n_ x c hc⟩ hs,by simpa using I.len⟩ ⟨c,hs,.inr hc⟩
  ·exact (hs.2 b (Nat.ne_of_lt (Nat.lt_of_lt_of_le (Heap.lt_size e) (I.ok.cab x c hfn hc)))).trans (I.base.keep b o e n hb hx)
  ·obtain ⟨sl,e1⟩:=I.base.slot b o e n hb hx
   exact ⟨sl,(hs.2 b (Nat.ne_of_lt (Nat.lt_of_lt_of_le (Heap.lt_size e) (I.ok.cab x c hfn hc)))).trans e1⟩
  ·obtain ⟨o',e1⟩:=I.base.there b o e hx
   exact ⟨o',(hs.2 b (Nat.ne_of_lt (Nat.lt_of_lt_of_le (Heap.lt_size e) (I.ok.cab x c hfn hc)))).trans e1⟩
  ·by_cases hj:j=i
   ·subst hj
    rw [hi] at e1;cases e1;rw [List.getElem?_set_self ajv] at e2;cases e2;exact ⟨u,r,.inr ⟨.inl hk,c,hc,hc'⟩⟩
   ·rw [List.getElem?_set_ne (Ne.symm hj)] at e2
    obtain ⟨u',r',q⟩:=hl j y v' e1 e2 e3;refine ⟨u',r', ?_⟩;rcases q with q|⟨k,c',e,z'⟩
    ·exact .inl q
    ·refine .inr ⟨k,c',e,z'.sameBut hs ?_⟩
     rintro rfl;exact hj (Bu hN e1 (I.ok.inj _ _ _ e hc▸hi))
  ·by_cases hcc:c'=c
   ·subst hcc;exact ⟨_,hc'⟩
   ·obtain ⟨w2,z2⟩:=I.cell y c' e
    exact ⟨w2,z2.sameBut hs hcc⟩
  ·obtain ⟨e,n,ne,nf,d⟩:=I.pin p hp
   refine ⟨(hs.2 p.1 ?_).trans e,n,ne,nf,d⟩;intro q;rw [q,hoc] at e;have q':oc=p.2:=Option.some.inj e;exact d w' (by rw [←q'];exact afw)
theorem vp {M:Model} {A:Around} {E:Value->Shared->Prop} {i:Nat} {x:Str} {v:V} {u:Value} {Q:Unit->Shared->Prop} (I:Inv X pins σ H s) (hN:X.N.Nodup) (hi:X.N[i]? = some x) (hx:Loc X.env.scope x) (r:RelV v u)
 (h:∀s',Inv X pins (σ.set i (some v)) H s'->Q () s') (hf:X.fn x=true\/X.env.scope.names.lookup x=some .local:=by first |exact .inl rfl|exact .inr rfl|assumption):wpAny M A (storeName X.env x u) Q E s:=
 xZ I hN hi hx r (fun s' I' _=>h s' I') hf
theorem Inv.call' {s':Shared} {ch:List Addr} (I:Inv X pins σ H s) (ho:s'.os=s.os) (u:Un (frs X.stack) ch H H' s.heap s'.heap) (hok:rB X.prog X.w H' s'.heap) (hg:AllBare s'.gens)
 (hch:∀b∈ch,(b∈X.ex\/X.s₀.heap.objs.size<=b)/\b≠X.env.locals/\(∀x c,X.env.cells.lookup x=some c->c≠b) /\ ∀p∈X.pn++pins,p.1≠b):Inv X pins σ H' s':=by
 obtain ⟨h',g',d',t',o'⟩:=s';have e:o'=s.os:=ho;subst e;exact I.call (g':=g') (t':=t') (d':=d') u hok hg hch
end
abbrev XK:=Value->Option Addr->Hp->Prop
abbrev St:=List (Option V)
abbrev VK:=V->Hp->Prop
abbrev TE:=St->Hp->VK->Prop
abbrev TT:=St->Hp->(Bool->Hp->Prop)->Prop
abbrev TA:=St->Hp->(List V->Hp->Prop)->Prop
structure Ends where
 nx:St->Hp->Prop
 rt:VK
 bk:St->Hp->Prop:=fun _ _=>False
 ct:St->Hp->Prop:=fun _ _=>False
abbrev TS:=Ends->St->Hp->Prop
def EP (X:Cx) (pins:List (Addr×Obj)) (σ:St) (Q:VK) (u:Value) (s':Shared):Prop:=∃v H',Inv X pins σ H' s'/\RelV v u/\Q v H'
def TP (X:Cx) (pins:List (Addr×Obj)) (σ:St) (Q:Bool->Hp->Prop) (b:Bool) (s':Shared):Prop:=∃H',Inv X pins σ H' s'/\Q b H'
def AP (X:Cx) (pins:List (Addr×Obj)) (σ:St) (Q:List V->Hp->Prop) (us:List Value) (s':Shared):Prop:=∃vs H',Inv X pins σ H' s'/\Vals vs us/\Q vs H'
def SP (X:Cx) (pins:List (Addr×Obj)) (D:Ends) (f:Flow) (s':Shared):Prop:=
 match f with
 | .next=>∃σ' H',Inv X pins σ' H' s'/\D.nx σ' H'
 | .brk=>∃σ' H',Inv X pins σ' H' s'/\D.bk σ' H'
 | .cont=>∃σ' H',Inv X pins σ' H' s'/\D.ct σ' H'
 | .ret u=>∃v σ' H',Inv X pins σ' H' s'/\RelV v u/\D.rt v H'
def PE (X:Cx) (e:Expr) (t:TE):Prop:=
 ∀(pins:List (Addr×Obj)) (s:Shared) (σ:St) (H:Hp) (Q:VK),Inv X pins σ H s->t σ H Q->wpAny (model X.prog X.w) X.A (eval e X.env) (EP X pins σ Q) X.xe s
def PT (X:Cx) (e:Expr) (t:TT):Prop:=
 ∀(pins:List (Addr×Obj)) (s:Shared) (σ:St) (H:Hp) (Q:Bool->Hp->Prop),Inv X pins σ H s->t σ H Q->wpAny (model X.prog X.w) X.A (isTrue e X.env (eval e X.env)) (TP X pins σ Q) X.xe s
def PW (X:Cx) (e:Expr) (t:TT):Prop:=
 ∀(whole:Sem Value) (pins:List (Addr×Obj)) (s:Shared) (σ:St) (H:Hp) (Q:Bool->Hp->Prop),Inv X pins σ H s->t σ H Q->wpAny (model X.prog X.w) X.A (isTrue e X.env whole) (TP X pins σ Q) X.xe s
theorem PW.pt {X:Cx} {e:Expr} {t:TT} (h:PW X e t):PT X e t:=h _
def PA (X:Cx) (es:List Expr) (t:TA):Prop:=
 ∀(pos:Pos) (pins:List (Addr×Obj)) (s:Shared) (σ:St) (H:Hp) (Q:List V->Hp->Prop),Inv X pins σ H s->t σ H Q->wpAny (model X.prog X.w) X.A (spliced (backTo pos (starEach es X.env))) (AP X pins σ Q) X.xe s
def PS (X:Cx) (st:Stmt) (t:TS):Prop:=
 ∀(pins:List (Addr×Obj)) (s:Shared) (σ:St) (H:Hp) (D:Ends),Inv X pins σ H s->t D σ H->wpAny (model X.prog X.w) X.A (exec st X.env) (SP X pins D) X.xe s
def Eu (X:Cx) (st:List Stmt) (t:TS):Prop:=
 ∀(pins:List (Addr×Obj)) (s:Shared) (σ:St) (H:Hp) (D:Ends),Inv X pins σ H s->t D σ H->wpAny (model X.prog X.w) X.A (execs st X.env) (SP X pins D) X.xe s
theorem dZ {α:Type} {t:Sem α} {Q Q':α->Shared->Prop} {M:Model} {A:Around} {E:Value->Shared->Prop} {s:Shared} (h:wpAny M A t Q E s) (hQ:∀a s,Q a s->Q' a s):wpAny M A t Q' E s:=wpAny_mono h hQ fun _ _ x=>x
end L2
namespace L2
open PySem PySem.Spec PyProof.Rows
section
variable {X:Cx}
def pU (i:Nat):TE:=fun σ H Q=>∃v,σ[i]? = some (some v)/\Q v H
def tC (v:V):TE:=fun _ H Q=>Q v H
theorem Rn {i:Nat} {x:Str} {pos:Pos} (hN:X.N[i]? = some x) (hv:Vis X.env.scope x) (hd:(x==("__debug__" :Str))=false:=by decide) (hcd:(x==("__classdict__" :Str))=false:=by decide):PE X (.Name x pos) (pU i):=by
 intro pins s σ H Q I h;obtain ⟨v,e,h⟩:=h;obtain ⟨m,hn,hl⟩:=I.loc;obtain ⟨u,r,l⟩:=hl i x v hN e hv;have fin:EP X pins σ Q u s:=⟨v,H,I,r,h⟩;rcases l with ⟨hk,hm⟩|⟨hk,c,hc,hcell⟩
 ·exact wpAny_Name (wpAny_loadName_local I.ok.kind hk hn hm fin) hd
 ·rcases hk with hk|hk
  ·exact wpAny_Name (wpAny_loadName_cell I.ok.kind hk hc hcell fin) hd
  ·exact wpAny_Name (wpAny_loadName_free I.ok.kind hk hc hcell fin hcd) hd
theorem aq {i j pos}:PE X (.Constant (.int i) j pos) (tC (.int i)):=fun _ _ _ H _ I h=>wpAny_Constant_int ⟨.int i,H,I.tok _,⟨_,rfl⟩,h⟩
theorem nH {b j pos}:PE X (.Constant (.bool b) j pos) (tC (.bl b)):=fun _ _ _ H _ I h=>Constant_bool ⟨.bl b,H,I,rfl,h⟩
theorem gG {j pos}:PE X (.Constant .none j pos) (tC .non):=fun _ _ _ H _ I h=>Constant_none ⟨.non,H,I,rfl,h⟩
theorem aW {x j pos}:PE X (.Constant (.str x) j pos) (tC (.str x)):=fun _ _ _ H _ I h=>Calls.Constant_str ⟨.str x,H,I.tok _,⟨_,rfl⟩,h⟩
def Gl (X:Cx) (x:Str):Prop:=X.env.kindOf x=some .globalImplicit
theorem oX {E:Value->Shared->Prop} {pins:List (Addr×Obj)} {s:Shared} {σ:St} {H:Hp} {x:Str} {u:Value} {pos:Pos} {Q:Value->Shared->Prop} (I:Inv X pins σ H s) (hg:Gl X x) (hm:X.mg x=some u) (h:Q u s)
 (hd:(x==("__debug__" :Str))=false:=by decide):wpAny (model X.prog X.w) X.A (eval (.Name x pos) X.env) Q E s:=
 Calls.Name_function_global I.ok.kind hg (Calls.loadGlobal_global (by rw [I.ok.glob];exact I.mod.glob.keeps I.bk) hm h) hd
theorem vY {E:Value->Shared->Prop} {pins:List (Addr×Obj)} {s:Shared} {σ:St} {H:Hp} {x:Str} {u:Value} {pos:Pos} {Q:Value->Shared->Prop} (I:Inv X pins σ H s) (hg:Gl X x) (hm:X.mg x=none) (hv:bootBuiltins x=some u) (h:Q u s)
 (hn:x ≠ "__name__" :=by decide) (hd:(x==("__debug__" :Str))=false:=by decide):wpAny (model X.prog X.w) X.A (eval (.Name x pos) X.env) Q E s:=by
 obtain ⟨mb,h1,h2⟩:=I.mod.blt;exact Calls.Name_function_global I.ok.kind hg (Calls.loadGlobal_builtin (by rw [I.ok.glob];exact I.mod.glob.keeps I.bk) hm (by rw [I.ok.blt];exact h1.keeps I.bk) ((h2 x hn).trans hv) h) hd
theorem jY {x:Str} {v:V} {u:Value} {pos:Pos} (hg:Gl X x) (hm:X.mg x=some u) (r:RelV v u) (hd:(x==("__debug__" :Str))=false:=by decide):PE X (.Name x pos) (tC v):=
 fun _ _ _ H _ I h=>oX I hg hm ⟨v,H,I,r,h⟩ hd
theorem zu {x:Str} {v:V} {u:Value} {pos:Pos} (hg:Gl X x) (hm:X.mg x=none) (hv:bootBuiltins x=some u) (r:RelV v u) (hn:x ≠ "__name__" :=by decide) (hd:(x==("__debug__" :Str))=false:=by decide):PE X (.Name x pos) (tC v):=
 fun _ _ _ H _ I h=>vY I hg hm hv ⟨v,H,I,r,h⟩ hn hd
variable {a b:Expr} {ta tb:TE} {pos:Pos}
def tB (t:TE):TT:=fun σ H Q=>t σ H fun x H1=>∃c,x = .bl c/\Q c H1
theorem nD {e:Expr} {t:TE} (h:PE X e t) (he:∀whole,isTrue e X.env whole=(do let v ←whole;standAt e.pos;holding [v] (truthy v)):=by intro _;rfl):PT X e (tB t):=by
 intro pins s σ H Q I hw;refine isTrue_plain (dZ (h pins s σ H _ I hw) fun v s1 ⟨x,H1,I1,r1,q1⟩=> ?_) (he _);obtain ⟨d,rfl,q⟩:=q1;cases r1;exact wpAny_truthy_bool ⟨H1,I1,q⟩
variable {tA YC:TT} {rest:List Expr}
def aaT (t u:TT):TT:=fun σ H Q=>t σ H fun c H1=>if c=true then u σ H1 Q else Q false H1
def tOr (t u:TT):TT:=fun σ H Q=>t σ H fun c H1=>if c=true then Q true H1 else u σ H1 Q
def aaO (t:TT):TT:=fun σ H Q=>t σ H fun c H1=>Q (!c) H1
theorem iZ (ha:PT X a tA):PW X (.BoolOp .And [a] pos) tA:=by
 intro wh pins s σ H Q I h;refine isTrue_and (dZ (ha pins s σ H Q I h) fun c s1 e=> ?_);cases c with
 | true=>exact isTrue_and_nil e
 | false=>exact e
theorem sE (ha:PT X a tA):PW X (.BoolOp .Or [a] pos) tA:=by
 intro wh pins s σ H Q I h;refine isTrue_or (dZ (ha pins s σ H Q I h) fun c s1 e=> ?_);cases c with
 | false=>exact isTrue_or_nil e
 | true=>exact e
theorem jJ (ha:PT X a tA) (hb:PW X (.BoolOp .And (b::rest) pos) YC):PW X (.BoolOp .And (a::b::rest) pos) (aaT tA YC):=by
 intro wh pins s σ H Q I h;refine isTrue_and (dZ (ha pins s σ H _ I h) fun c s1 ⟨H1,I1,q1⟩=> ?_);cases c with
 | true=>exact hb wh pins s1 σ H1 Q I1 q1
 | false=>exact ⟨H1,I1,q1⟩
theorem vL (ha:PT X a tA) (hb:PW X (.BoolOp .Or (b::rest) pos) YC):PW X (.BoolOp .Or (a::b::rest) pos) (tOr tA YC):=by
 intro wh pins s σ H Q I h;refine isTrue_or (dZ (ha pins s σ H _ I h) fun c s1 ⟨H1,I1,q1⟩=> ?_);cases c with
 | true=>exact ⟨H1,I1,q1⟩
 | false=>exact hb wh pins s1 σ H1 Q I1 q1
theorem pY (ha:PT X a tA):PT X (.UnaryOp .Not a pos) (aaO tA):=by
 intro pins s σ H Q I h;exact isTrue_not (ha pins s σ H (fun c H1=>Q (!c) H1) I h)
def Vl (ta tb:TE):TE:=fun σ H Q=>ta σ H fun x H1=>∃c,x = .bl c/\if c=true then tb σ H1 Q else Q (.bl false) H1
def Vf (ta:TE):TE:=fun σ H Q=>ta σ H fun x H1=>∃c,x = .bl c/\Q (.bl (!c)) H1
theorem sG {op} {t:TE} (h:PE X a t):PE X (.BoolOp op [a] pos) t:=fun pins s σ H Q I hw=>BoolOp_one (h pins s σ H Q I hw)
theorem sJ (ha:PE X a ta) (hb:PE X (.BoolOp .And (b::rest) pos) tb):PE X (.BoolOp .And (a::b::rest) pos) (Vl ta tb):=by
 intro pins s σ H Q I h;refine BoolOp_and (dZ (ha pins s σ H _ I h) fun v s1 ⟨x,H1,I1,r1,q1⟩=> ?_);obtain ⟨c,rfl,q1⟩:=q1;cases r1;refine wpAny_truthy_bool ?_;cases c with
 | true=>exact hb pins s1 σ H1 Q I1 q1
 | false=>exact ⟨.bl false,H1,I1,rfl,q1⟩
theorem JG (ha:PE X a ta):PE X (.UnaryOp .Not a pos) (Vf ta):=by
 intro pins s σ H Q I h;refine UnaryOp_ (dZ (ha pins s σ H _ I h) fun v s1 ⟨x,H1,I1,r1,q1⟩=> ?_);obtain ⟨c,rfl,q1⟩:=q1;cases r1;exact not_of (wpAny_truthy_bool ⟨.bl (!c),H1,I1,rfl,q1⟩)
def tIf (t:TT) (ta tb:TE):TE:=fun σ H Q=>t σ H fun c H1=>if c=true then ta σ H1 Q else tb σ H1 Q
theorem jK {c:Expr} (hc:PT X c tA) (ha:PE X a ta) (hb:PE X b tb):PE X (.IfExp c a b pos) (tIf tA ta tb):=by
 intro pins s σ H Q I h;refine wpAny_IfExp (dZ (hc pins s σ H _ I h) fun d s1 ⟨H1,I1,q1⟩=> ?_);cases d with
 | true=>exact ha pins s1 σ H1 Q I1 q1
 | false=>exact hb pins s1 σ H1 Q I1 q1
end
end L2
namespace L2
open PySem PySem.Spec PyProof.Rows
def bC (K:PySem.W.Frag) (H:Hp) (a:Addr) (xs:List V):Prop:=
 Rd H a (.lst xs) \/
  ∃(o:Obj) (its:Array Value) (n:Nat),K.lookup a=some o/\o.cls = .type "list" /\ o.dict=none/\o.data = .seq its n/\its.size<=sizeLine/\Vals xs its.toList
def cA (K:PySem.W.Frag) (H:Hp) (a:Addr) (xs:List V):Prop:=
 Rd H a (.tup xs) \/
  ∃(o:Obj) (its:Array Value) (n:Nat),K.lookup a=some o/\o.cls = .type "tuple" /\ o.data = .seq its n/\its.size<=sizeLine/\Vals xs its.toList
def aiw:Value->Option V
 | .none=>some .non
 | .bool b=>some (.bl b)
 | .int i _=>some (.int i)
 | .str x _=>some (.str x)
 | .bytes b _=>some (.Ie b)
 | .float b _=>some (.flt b)
 | .ref a=>some (.ref a)
 | .type n=>some (.ty n)
 | _=>none
theorem RelV.abs {x:V} {u:Value} (r:RelV x u):aiw u=some x:=by
 cases x with
 | non=>cases r;rfl
 | bl _=>cases r;rfl
 | int _=>obtain ⟨t,rfl⟩:=r;rfl
 | str _=>obtain ⟨t,rfl⟩:=r;rfl
 | Ie _=>obtain ⟨t,rfl⟩:=r;rfl
 | flt _=>obtain ⟨t,rfl⟩:=r;rfl
 | ref _=>cases r;rfl
 | ty _=>cases r;rfl
theorem RelV.inj {x y:V} {u:Value} (r:RelV x u) (q:RelV y u):x=y:=Option.some.inj (r.abs.symm.trans q.abs)
theorem Vals.inj {xs ys:List V} {us:List Value} (h:Vals xs us) (h':Vals ys us):xs=ys:=by
 induction h generalizing ys with
 | nil=>cases h';rfl
 | cons r t ih=>cases h' with
   | cons r' t'=>rw [r.inj r',ih t']
section
variable {X:Cx} {pins:List (Addr×Obj)} {σ:St} {H:Hp} {s:Shared} {a:Addr} {xs ys:List V}
theorem bC.of {K:PySem.W.Frag} (h:H a=some (.lst xs)):bC K H a xs:= .inl (.inl h)
theorem cA.of {K:PySem.W.Frag} (h:H a=some (.tup xs)):cA K H a xs:= .inl (.inl h)
theorem Inv.list (I:Inv X pins σ H s) (h:bC X.K H a xs):∃its:List Value,Vals xs its/\PlainL s.heap a its.toArray/\xs.length<=sizeLine:=by
 rcases h with h|⟨o,its,n,hk,hc,hd,hs,hz,r⟩
 ·obtain ⟨z,its,n,r,e⟩:=h.ok I.hok
  exact ⟨its,r,⟨_,n,e,rfl,rfl,rfl⟩,z⟩
 ·refine ⟨its.toList,r,⟨o,n,I.pA a o hk,hc,hd,by simpa using hs⟩, ?_⟩
  have e:=r.length;simp only [Array.length_toList] at e;omega
theorem Inv.tuple (I:Inv X pins σ H s) (h:cA X.K H a xs):∃its:List Value,Vals xs its/\IsTup s.heap a its.toArray/\xs.length<=sizeLine:=by
 rcases h with h|⟨o,its,n,hk,hc,hs,hz,r⟩
 ·obtain ⟨z,its,r,p⟩:=h.ok I.hok
  exact ⟨its,r,p,z⟩
 ·refine ⟨its.toList,r,⟨o,I.pA a o hk,hc,n,by simpa using hs⟩, ?_⟩
  have e:=r.length;simp only [Array.length_toList] at e;omega
theorem Inv.vV (I:Inv X pins σ H s) (h:bC X.K H a xs) (h':bC X.K H a ys):xs=ys:=by
 obtain ⟨its,r,⟨o,n,e,_,_,d⟩,_⟩:=I.list h;obtain ⟨its',r',⟨o',n',e',_,_,d'⟩,_⟩:=I.list h';rw [e] at e';cases e';rw [d] at d';injection d' with d1 _
 have:its=its':=by simpa using congrArg Array.toList d1
 subst this;exact r.inj r'
end
abbrev Cx.wish (X:Cx) (E:Value->Shared->Prop):Cx:={X with xe:=E}
abbrev Cx.Y6 (X:Cx):Cx:=X.wish fun _ _=>False
theorem Cx.Ok.wish {X:Cx} (ok:X.Ok) (E:Value->Shared->Prop):(X.wish E).Ok:=
 ⟨ok.mod,ok.kind,ok.glob,ok.blt,ok.above,ok.inj,ok.has,ok.cab,ok.hd,ok.frames,ok.stk,ok.exf,ok.bs,ok.Ls,ok.Kf,ok.O1,ok.qQ,ok.Qq⟩
theorem Cx.Ok.m8 {X:Cx} {E:Value->Shared->Prop} (ok:(X.wish E).Ok):X.Ok:=
 ⟨ok.mod,ok.kind,ok.glob,ok.blt,ok.above,ok.inj,ok.has,ok.cab,ok.hd,ok.frames,ok.stk,ok.exf,ok.bs,ok.Ls,ok.Kf,ok.O1,ok.qQ,ok.Qq⟩
section
variable {X:Cx} {pins:List (Addr×Obj)} {σ:St} {H:Hp} {s:Shared} {E:Value->Shared->Prop}
theorem Inv.wish (I:Inv X pins σ H s) (E:Value->Shared->Prop):Inv (X.wish E) pins σ H s:=⟨I.ok.wish E,I.os,I.bare,I.base,I.loc,I.cell,I.free,I.n_,I.pin,I.hok,I.len⟩
theorem Inv.m8 (I:Inv (X.wish E) pins σ H s):Inv X pins σ H s:=⟨I.ok.m8,I.os,I.bare,I.base,I.loc,I.cell,I.free,I.n_,I.pin,I.hok,I.len⟩
theorem SP.m8 {D:Ends} {f:Flow} {s':Shared} (h:SP (X.wish E) pins D f s'):SP X pins D f s':=by
 cases f with
 | next=>obtain ⟨σ',H',I,q⟩:=h;exact ⟨σ',H',I.m8,q⟩
 | brk=>obtain ⟨σ',H',I,q⟩:=h;exact ⟨σ',H',I.m8,q⟩
 | cont=>obtain ⟨σ',H',I,q⟩:=h;exact ⟨σ',H',I.m8,q⟩
 | ret u=>obtain ⟨v,σ',H',I,r,q⟩:=h;exact ⟨v,σ',H',I.m8,r,q⟩
theorem Eu.Y6 {st:List Stmt} {t:TS} (h:Eu X.Y6 st t):Eu X st t:=fun pins s σ H D I hw=>
 wpAny_mono (h pins s σ H D (I.wish _) hw) (fun _ _ q=>q.m8) fun _ _ z=>False.elim z
end
section
variable {X:Cx} {st:Stmt} {rest:List Stmt} {t u:TS} {e:Expr} {te:TE} {pos:Pos}
def Fp:TS:=fun D σ H=>D.nx σ H
def Jq (t u:TS):TS:=fun D σ H=>t {D with nx:=u D} σ H
theorem bB:Eu X [] Fp:=fun _ _ σ H _ I h=>wpAny_execs_nil ⟨σ,H,I,h⟩
theorem aC (h1:PS X st t) (h2:Eu X rest u):Eu X (st::rest) (Jq t u):=by
 intro pins s σ H D I h;refine wpAny_execs_cons (dZ (h1 pins s σ H {D with nx:=u D} I h) fun f s1 q=> ?_);cases f with
 | next=>
   obtain ⟨σ',H',I',q⟩:=q;exact h2 pins s1 σ' H' D I' q
 | ret v=>exact q
 | brk=>exact q
 | cont=>exact q
theorem aH (h1:PS X st t):Eu X [st] t:=by
 intro pins s σ H D I h;refine wpAny_execs_cons (dZ (h1 pins s σ H D I h) fun f s1 q=> ?_);cases f with
 | next=>exact wpAny_execs_nil q
 | ret v=>exact q
 | brk=>exact q
 | cont=>exact q
theorem Inv.quiet {pins:List (Addr×Obj)} {σ:St} {H:Hp} {s:Shared} (I:Inv X pins σ H s):interactive X.env=false:=by simp [interactive,I.ok.kind]
def Qg (te:TE):TS:=fun D σ H=>te σ H fun _ H1=>D.nx σ H1
theorem dh (he:PE X e te) (hs:swapsWith e none pos.line X.env=pure false:=by rfl):PS X (.Expr e pos) (Qg te):=by
 intro pins s σ H D I h;exact wpAny_Expr_any (dZ (he pins s σ H _ I h) fun v s1 ⟨x,H1,I1,r1,q1⟩=>⟨σ,H1,I1,q1⟩) I.quiet hs
def Vd (te:TE):TS:=fun D σ H=>te σ H D.rt
theorem bA (he:PE X e te):PS X (.Return (some e) pos) (Vd te):=by
 intro pins s σ H D I h;exact wpAny_Return_some (dZ (he pins s σ H _ I h) fun v s1 ⟨x,H1,I1,r1,q1⟩=>⟨x,σ,H1,I1,r1,q1⟩)
def Vc:TS:=fun D _ H=>D.rt .non H
theorem Nj:PS X (.Return none pos) Vc:=fun _ _ σ H _ I h=>wpAny_Return_none ⟨.non,σ,H,I,rfl,h⟩
def Vi (c:TT) (t u:TS):TS:=fun D σ H=>c σ H fun b H1=>if b=true then t D σ H1 else u D σ H1
theorem bU {c:Expr} {a b:List Stmt} {tc:TT} (hc:PT X c tc) (ha:Eu X a t) (hb:Eu X b u):PS X (.If c a b pos) (Vi tc t u):=by
 intro pins s σ H D I h;refine wpAny_If (dZ (hc pins s σ H _ I h) fun d s1 ⟨H1,I1,q1⟩=> ?_);cases d with
 | true=>exact ha pins s1 σ H1 D I1 q1
 | false=>exact hb pins s1 σ H1 D I1 q1
end
abbrev TG:=V->St->Hp->(St->Hp->Prop)->Prop
abbrev Qu:=List V->St->Hp->(St->Hp->Prop)->Prop
def PG (X:Cx) (target:Expr) (t:TG):Prop:=
 ∀(pins:List (Addr×Obj)) (s:Shared) (σ:St) (H:Hp) (v:V) (u:Value) (Q:St->Hp->Prop),Inv X pins σ H s->RelV v u->t v σ H Q ->
  wpAny (model X.prog X.w) X.A (assign target X.env u) (fun _ s'=>∃σ' H',Inv X pins σ' H' s'/\Q σ' H') X.xe s
def Yp (X:Cx) (ts:List Expr) (t:Qu):Prop:=
 ∀(pins:List (Addr×Obj)) (s:Shared) (σ:St) (H:Hp) (vs:List V) (us:List Value) (Q:St->Hp->Prop),Inv X pins σ H s->Vals vs us->t vs σ H Q ->
  wpAny (model X.prog X.w) X.A (assignInOrder ((assignEach ts X.env).map (·.2)) us) (fun _ s'=>∃σ' H',Inv X pins σ' H' s'/\Q σ' H') X.xe s
abbrev TY:=V->V->V->Hp->(Hp->Prop)->Prop
def Yo (X:Cx) (t:TY):Prop:=
 ∀(pins:List (Addr×Obj)) (s:Shared) (σ:St) (H:Hp) (o i v:V) (ov iv u:Value) (Q:Hp->Prop),Inv X pins σ H s->RelV o ov->RelV i iv->RelV v u->t o i v H Q ->
  wpAny (model X.prog X.w) X.A (setItem ov iv u) (fun _ s'=>∃H',Inv X pins σ H' s'/\Q H') X.xe s
abbrev TIp:=V->V->Hp->VK->Prop
def PIp (X:Cx) (op:Operator) (t:TIp):Prop:=
 ∀(pins:List (Addr×Obj)) (s:Shared) (σ:St) (H:Hp) (x y:V) (v u:Value) (Q:VK),Inv X pins σ H s->RelV x v->RelV y u->t x y H Q ->
  wpAny (model X.prog X.w) X.A (inplaceOp op v u) (EP X pins σ Q) X.xe s
section
variable {X:Cx} {pos:Pos}
def dO (i:Nat):TG:=fun v σ H Q=>Q (σ.set i (some v)) H
theorem bG {i:Nat} {x:Str} (hN:X.N.Nodup) (hi:X.N[i]? = some x) (hx:Loc X.env.scope x) (hf:X.fn x=true\/X.env.scope.names.lookup x=some .local:=by first |exact .inl rfl|exact .inr rfl|assumption):PG X (.Name x pos) (dO i):=by
 intro pins s σ H v u Q I r h;exact wpAny_assign_Name (vp I hN hi hx r (fun s' I'=>⟨_,H,I',h⟩) hf)
def afK:Qu:=fun vs σ H Q=>vs=[]/\Q σ H
def Wz (t:TG) (u:Qu):Qu:=fun vs σ H Q=>∃v r,vs=v::r/\t v σ H fun σ' H'=>u r σ' H' Q
theorem jA:Yp X [] afK:=by
 intro pins s σ H vs us Q I r h;obtain ⟨e,h⟩:=h;subst e;cases r;exact assignInOrder_nil ⟨σ,H,I,h⟩
theorem cL {e:Expr} {es:List Expr} {t:TG} {u:Qu} (h1:PG X e t) (h2:Yp X es u)
 (hs:(assignEach (e::es) X.env).map (·.2)=assign e X.env::(assignEach es X.env).map (·.2):=by rfl):Yp X (e::es) (Wz t u):=by
 intro pins s σ H vs us Q I r h;obtain ⟨v,vr,e1,h⟩:=h;subst e1;cases r with
 | cons r rr=>
   rw [hs];refine assignInOrder_cons (dZ (h1 pins s σ H _ _ _ I r h) fun _ s1 ⟨σ1,H1,I1,q1⟩=> ?_);exact h2 pins s1 σ1 H1 _ _ Q I1 rr q1
def Wy (K:PySem.W.Frag) (n:Nat) (t:Qu):TG:=fun v σ H Q=>∃a xs,v = .ref a/\cA K H a xs/\xs.length=n/\t xs σ H Q
theorem Rm {es:List Expr} {k:Nat} {t:Qu} {n:Nat} (hc:X.calm=true) (h:Yp X es t)
 (hn:(assignEach es X.env).length=n:=by rfl) (hst:(assignEach es X.env).findIdx? (·.1)=none:=by rfl):PG X (.Tuple es k pos) (Wy X.K n t):=by
 intro pins s σ H v u Q I r hw;obtain ⟨a,xs,e1,hq,hl,hw⟩:=hw;subst e1;cases r;obtain ⟨its,rv,ht,hz⟩:=I.tuple hq;refine assign_Tuple_tuple (I.ok.hd hc) ht (by simp [hn,←hl,rv.length]) hst fun h' hx=> ?_;have I1:Inv X pins σ H {s with heap:=h'}:=I.kept (t':=s.toks) fun b o e=>hx b o (Nat.ne_of_lt (Heap.lt_size e)) e;exact h pins _ σ H xs _ Q I1 (by simpa using rv) hw
def SX (to ti:TE) (t:TY):TG:=fun v σ H Q=>to σ H fun o H1=>ti σ H1 fun i H2=>t o i v H2 fun H3=>Q σ H3
theorem fX {o i:Expr} {to ti:TE} {t:TY} (ho:PE X o to) (hi:PE X i ti) (hs:Yo X t)
 (ha:∀v,assign (.Subscript o i pos) X.env v=(do
   let ov ←holding [v] (eval o X.env)
   let iv ←holding [v,ov] (eval i X.env)
   standAt pos
   holding [v,ov,iv] (setItem ov iv v)
   release [v,ov,iv] []):=by intro _;rfl):PG X (.Subscript o i pos) (SX to ti t):=by
 intro pins s σ H v u Q I r h;rw [ha];refine wpAny_bind (wpAny_holding (dZ (ho pins s σ H _ I h) fun ov s1 ⟨x,H1,I1,r1,q1⟩=> ?_));refine wpAny_bind (wpAny_holding (dZ (hi pins s1 σ H1 _ I1 q1) fun iv s2 ⟨y,H2,I2,r2,q2⟩=> ?_));refine wpAny_bind (wpAny_standAt (wpAny_bind (wpAny_holding (dZ (hs pins s2 σ H2 x y v ov iv u _ I2 r1 r2 r q2) fun _ s3 ⟨H3,I3,q3⟩=> ?_))));exact wpAny_release ⟨σ,H3,I3,q3⟩
def Jt (te:TE) (g:TG):TS:=fun D σ H=>te σ H fun x H1=>g x σ H1 D.nx
theorem dz {tg e:Expr} {te:TE} {g:TG} (he:PE X e te) (hg:PG X tg g) (hs:swapsWithSole [tg] e pos.line X.env=pure false:=by rfl) (hw:swappedStores [tg] e X.env=pure none:=by rfl)
 (h1:(assignEach [tg] X.env).map (·.2)=[assign tg X.env]:=by rfl):PS X (.Assign [tg] e pos) (Jt te g):=by
 intro pins s σ H D I h;refine wpAny_Assign_stores (dZ (he pins s σ H _ I h) fun v s1 ⟨x,H1,I1,r1,q1⟩=> ?_) hs hw;rw [h1];exact dZ (hg pins s1 σ H1 x v _ I1 r1 q1) fun _ s2 q=>q
theorem aY {i:Nat} {x:Str} {e:Expr} {te:TE} {pos':Pos} (hN:X.N.Nodup) (hi:X.N[i]? = some x) (hx:Loc X.env.scope x) (he:PE X e te) (hs:swapsWith e (some (.Name x pos')) pos.line X.env=pure false:=by rfl) (hf:X.fn x=true\/X.env.scope.names.lookup x=some .local:=by first |exact .inl rfl|exact .inr rfl|assumption):
 PS X (.Assign [.Name x pos'] e pos) (Jt te (dO i)):=by
 intro pins s σ H D I h;refine wpAny_Assign_Name (dZ (he pins s σ H _ I h) fun v s1 ⟨y,H1,I1,r1,q1⟩=> ?_) hs;exact vp I1 hN hi hx r1 (fun s2 I2=>⟨_,H1,I2,q1⟩) hf
def aaS (i:Nat) (te:TE) (ti:TIp):TS:=fun D σ H=>∃x,σ[i]? = some (some x)/\te σ H fun y H1=>ti x y H1 fun z H2=>D.nx (σ.set i (some z)) H2
theorem Ri {i:Nat} {x:Str} {e:Expr} {te:TE} {op:Operator} {ti:TIp} {pos':Pos} (hN:X.N.Nodup) (hi:X.N[i]? = some x) (hx:Loc X.env.scope x) (he:PE X e te) (ho:PIp X op ti) (hf:X.fn x=true\/X.env.scope.names.lookup x=some .local:=by first |exact .inl rfl|exact .inr rfl|assumption):
 PS X (.AugAssign (.Name x pos') op e pos) (aaS i te ti):=by
 intro pins s σ H D I h;obtain ⟨v,e1,h⟩:=h;obtain ⟨m,hn,hl⟩:=I.loc;have vis:Vis X.env.scope x:=by rcases hx with k|k;exact .inl k;exact .inr (.inl k)
 obtain ⟨u,r,l⟩:=hl i x v hi e1 vis;refine wpAny_AugAssign_Name ?_
 have go:wpAny (model X.prog X.w) X.A (eval e X.env) (fun w s₂=>wpAny (model X.prog X.w) X.A (inplaceOp op u w) (fun r s₃=>wpAny (model X.prog X.w) X.A (storeName X.env x r) (fun _=>SP X pins D .next) X.xe s₃) X.xe s₂) X.xe s:=by
  refine dZ (he pins s σ H _ I h) fun w s1 ⟨y,H1,I1,r1,q1⟩=> ?_;refine dZ (ho pins s1 σ H1 v y u w _ I1 r r1 q1) fun z s2 ⟨zv,H2,I2,r2,q2⟩=> ?_;exact vp I2 hN hi hx r2 (fun s3 I3=>⟨_,H2,I3,q2⟩) hf
 rcases l with ⟨hk,hm⟩|⟨hk,c,hc,hcell⟩
 ·exact wpAny_loadName_local I.ok.kind hk hn hm go
 ·rcases hk with hk|hk
  ·exact wpAny_loadName_cell I.ok.kind hk hc hcell go
  ·rcases hx with k|k
   ·have:X.env.scope.names.lookup x=some .free:=hk
    rw [k] at this;cases this
   ·have:X.env.scope.names.lookup x=some .free:=hk
    rw [k] at this;cases this
def ipI (f:Int->Int->Int):TIp:=fun x y H Q=>∃i j,x = .int i/\y = .int j/\Q (.int (f i j)) H
theorem Eh:PIp X .Add (ipI fun i j=>i+j):=by
 intro pins s σ H x y v u Q I r1 r2 h;obtain ⟨i,j,e1,e2,q⟩:=h;subst e1;subst e2;obtain ⟨t,rfl⟩:=r1;obtain ⟨t',rfl⟩:=r2;exact iadd_int ⟨.int _,H,I.tok _,⟨_,rfl⟩,q⟩
end
section
variable {X:Cx} {pos:Pos}
def QL (c:TT) (tb:TS):TS:=fun D σ H=>∃W:Nat->St->Hp->Prop,(∃m,W m σ H) /\ ∀m σ H,W m σ H ->
 c σ H fun b H1=>if b=true then ∃N:St->Hp->Prop,(∀σ' H',N σ' H' -> ∃m',m'<m/\W m' σ' H')/\tb {D with nx:=N,ct:=N,bk:=D.nx} σ H1 else D.nx σ H1
theorem Bk {c:Expr} {body:List Stmt} {tc:TT} {tb:TS} (hp:PassesOwn (model X.prog X.w) X.A X.env X.xe) (hc:PT X c tc) (hb:Eu X body tb):PS X (.While c body [] pos) (QL tc tb):=by
 intro pins s σ H D I h;obtain ⟨W,⟨m0,w0⟩,turn⟩:=h;refine wpAny_While (codeAny_whileLoop (fun n s'=>∃σ' H',Inv X pins σ' H' s'/\W n σ' H') ?_ m0 ⟨σ,H,I,w0⟩);rintro n s1 ⟨σ1,H1,I1,w1⟩;refine wpAny_passesOwn hp (dZ (hc pins s1 σ1 H1 _ I1 (turn n σ1 H1 w1)) fun b s2 ⟨H2,I2,q2⟩=> ?_);cases b with
 | true=>
   obtain ⟨N,hN,q2⟩:=q2;rw [if_pos rfl];refine wpAny_passesOwn hp (dZ (hb pins s2 σ1 H2 _ I2 q2) fun f s3 q3=> ?_);cases f with
   | next=>
     obtain ⟨σ3,H3,I3,n3⟩:=q3;obtain ⟨m',hm,w3⟩:=hN σ3 H3 n3;exact ⟨m',hm,σ3,H3,I3,w3⟩
   | cont=>
     obtain ⟨σ3,H3,I3,n3⟩:=q3;obtain ⟨m',hm,w3⟩:=hN σ3 H3 n3;exact ⟨m',hm,σ3,H3,I3,w3⟩
   | brk=>exact q3
   | ret v=>exact q3
 | false=>
   rw [if_neg Bool.false_ne_true];exact wpAny_execs_nil ⟨σ1,H2,I2,q2⟩
end
structure It where
 go:Nat->Hp->Prop
 Ub:Nat->Hp->V->Hp->Prop
 stop:Nat->Hp->Prop
def qm (X:Cx) (pins:List (Addr×Obj)) (H:Hp) (b:Addr):Prop:=
 H b=none/\b≠X.env.locals/\b∉X.fs/\(b∈X.ex\/X.s₀.heap.objs.size<=b)/\(∀x c,X.env.cells.lookup x=some c->c≠b) /\ ∀p∈X.pn++pins,p.1≠b
theorem Inv.HX {X:Cx} {pins:List (Addr×Obj)} {σ:St} {H H':Hp} {s:Shared} {b:Addr} (I:Inv X pins σ H s) (hb:s.heap.objs.size<=b) (hn:H' b=none):qm X pins H' b:=by
 refine ⟨hn,Nat.ne_of_gt (Nat.lt_of_lt_of_le I.lt hb),I.adW hb,.inr (Nat.le_trans I.sz hb),fun x c e z=> ?_,fun p hp z=> ?_⟩
 ·obtain ⟨v,q⟩:=I.cell x c e
  exact absurd (Nat.lt_of_lt_of_le q.lt (by rw [z];exact hb)) (Nat.lt_irrefl _)
 ·exact absurd (Nat.lt_of_lt_of_le (Heap.lt_size (I.pin p hp).1) (by rw [z];exact hb)) (Nat.lt_irrefl _)
structure Turn (P:Program) (w:World) (K:PySem.W.Frag) (tg:Expr) (J:It) (fp:List Addr) (it:Addr) (tn:Nat->Heap->Prop):Prop where
 mem:it∈fp
 obj:∀i h,tn i h -> ∀b∈fp,∃o,h.get? b=some o /\ ∀v,o.data ≠ .cell v
 keep:∀i h h',tn i h->(∀b∈fp,∀o,h.get? b=some o->h'.get? b=some o)->tn i h'
 item:∀(X:Cx),X.prog=P->X.w=w->X.K=K->X.calm=true -> ∀(i:Nat) (pins:List (Addr×Obj)) (s:Shared) (σ:St) (H:Hp) (E:Value->Shared->Prop),Inv X pins σ H s->(∀b∈fp,qm X pins H b)->tn i s.heap->J.go i H ->
  wpAny (model P w) X.A (pyNext (.ref it)) (fun r s1=>∃u,r=some u /\
   wpAny (model P w) X.A (letOwnedTupleGo tg (.ref it) u) (fun _ s2=>∃x H',Inv X pins σ H' s2/\RelV x u/\J.Ub i H x H'/\tn (i+1) s2.heap /\ ∀b∈fp,H' b=none) E s1) E s
 done:∀(X:Cx),X.prog=P->X.w=w->X.K=K->X.calm=true -> ∀(i:Nat) (pins:List (Addr×Obj)) (s:Shared) (σ:St) (H:Hp) (E:Value->Shared->Prop),Inv X pins σ H s->(∀b∈fp,qm X pins H b)->tn i s.heap->J.stop i H ->
  wpAny (model P w) X.A (pyNext (.ref it)) (fun r s1=>r=none/\Inv X pins σ H s1) E s
 self:∀(A:Around) (i:Nat) (s:Shared) (Q:Value->Shared->Prop) (E:Value->Shared->Prop),tn i s.heap->Q (.ref it) s->wpAny (model P w) A (pyIter (.ref it)) Q E s
abbrev TI:=St->Hp->(It->Hp->Prop)->Prop
def PIE (X:Cx) (pins:List (Addr×Obj)) (σ:St) (tg:Expr) (R:It->Hp->Prop) (itv:Value) (s2:Shared):Prop:=
 ∃(it:Addr) (fp:List Addr) (tn:Nat->Heap->Prop) (J:It) (H':Hp),itv = .ref it/\Inv X pins σ H' s2/\Turn X.prog X.w X.K tg J fp it tn/\tn 0 s2.heap/\(∀b∈fp,qm X pins H' b)/\R J H'
def PI (X:Cx) (tg iter:Expr) (wi:TI):Prop:=
 ∀(pins:List (Addr×Obj)) (s:Shared) (σ:St) (H:Hp) (R:It->Hp->Prop),Inv X pins σ H s->wi σ H R ->
  wpAny (model X.prog X.w) X.A (eval iter X.env) (fun v s1=>wpAny (model X.prog X.w) X.A (pyIter v) (PIE X pins σ tg R) X.xe s1) X.xe s
theorem Gj {M:Model} {A:Around} {E:Value->Shared->Prop} {s:Shared} {tg:Expr} {it:Addr} {u:Value} {o:Obj} {n:String} {vs:Array Value} {Q:Unit->Shared->Prop} (ho:s.heap.get? it=some o) (hc:o.cls = .type n) (hd:o.data = .fields vs)
 (hn:["enumerate","zip","dict_itemiterator","dict_reverseitemiterator","odict_iterator","itertools.zip_longest","itertools.pairwise"].contains n=false) (hQ:Q () s):wpAny M A (letOwnedTupleGo tg (.ref it) u) Q E s:=by
 unfold letOwnedTupleGo
 cases tg<;>first
  | exact wpAny_pure hQ
  | (cases u<;>first
      | exact wpAny_pure hQ
      | (refine wpAny_bind (wpAny_load ho ?_)
         rw [hc,hd];show wpAny M A (if (["enumerate","zip","dict_itemiterator","dict_reverseitemiterator","odict_iterator","itertools.zip_longest","itertools.pairwise"].contains n&&vs[0]? == some (rawInt _))=true then _ else _) Q E s;rw [if_neg (by intro h;rw [hn,Bool.false_and] at h;cases h)];exact wpAny_pure hQ))
def Mq (K:PySem.W.Frag) (a:Addr):It:=
 ⟨fun i H=>∃xs x,bC K H a xs/\xs[i]? = some x,fun i H x H'=>H'=H /\ ∀xs,bC K H a xs->xs[i]? = some x,fun i H=>∃xs,bC K H a xs/\xs.length<=i⟩
def PN (lo:Int) (n:Nat):It:=⟨fun i _=>i<n,fun i H x H'=>H'=H/\x = .int (lo+i),fun i _=>n<=i⟩
theorem GK {P:Program} {w:World} {K:PySem.W.Frag} {tg:Expr} (a it:Addr):Turn P w K tg (Mq K a) [it] it (fun i h=>h.IsListIter it a i) where
 mem:=by simp
 obj:=fun i h st b hb=>by
  have e:b=it:=by simpa using hb
  subst e;obtain ⟨o,e,c,d⟩:=st;exact ⟨o,e,fun v z=>by rw [d] at z;cases z⟩
 keep:=fun i h h' st k=>st.at fun o e=>k it (by simp) o e
 item:=by
  intro X hP hw hK hc i pins s σ H E I hf st hg;subst hP hw hK;obtain ⟨xs,x,hq,hx⟩:=hg;obtain ⟨its,rv,p,hz⟩:=I.list hq;obtain ⟨u,hu,ru⟩:=rv.get hx;obtain ⟨f0,f1,f2,f3,f4,f5⟩:=hf it (by simp);refine wpAny_pyNext_list_item st p.isList (x:=u) (by simpa using hu) fun h' st' sb=> ?_;have I1:Inv X pins σ H {s with heap:=h'}:=I.turned (t':=s.toks) (fun b o hb e=>(sb.2 b hb).trans e) f0 f1 f3 f4 f5;obtain ⟨o,e,c,d⟩:=id st';exact ⟨u,rfl,Gj (s:={s with heap:=h'}) e c d (by decide) ⟨x,H,I1,ru,⟨rfl,fun ys hy=>by rw [I.vV hy hq];exact hx⟩,st',fun b hb=>(hf b hb).1⟩⟩
 done:=by
  intro X hP hw hK hc i pins s σ H E I hf st hg;subst hP hw hK;obtain ⟨xs,hq,hx⟩:=hg;obtain ⟨its,rv,p,hz⟩:=I.list hq;obtain ⟨f0,f1,f2,f3,f4,f5⟩:=hf it (by simp);have hl:=rv.length;exact wpAny_pyNext_list_end (I.ok.hd hc) st p.isList (by simp;omega) fun h' eb=>⟨rfl,I.turned (t':=s.toks) (fun b o hb e=>eb b o hb e) f0 f1 f3 f4 f5⟩
 self:=fun _ _ _ _ _ st h=>wpAny_pyIter_listiter st h
theorem Dk {P:Program} {w:World} {K:PySem.W.Frag} {tg:Expr} (it:Addr) (lo:Int) (n:Nat):Turn P w K tg (PN lo n) [it] it (fun i h=>IsRangeIter h it (lo+(i:Nat)*1) ((n:Int) - (i:Nat)) 1) where
 mem:=by simp
 obj:=fun i h st b hb=>by
  have e:b=it:=by simpa using hb
  subst e
  exact ⟨_,st,fun v z=>by
   have z':Data.fields _=Data.cell v:=z;cases z'⟩
 keep:=fun i h h' st k=>k it (by simp) _ st
 item:=by
  intro X hP hw hK hc i pins s σ H E I hf st hg;subst hP hw hK;obtain ⟨f0,f1,f2,f3,f4,f5⟩:=hf it (by simp);have W:=Walks.range (prog:=X.prog) (w:=X.w) (I.ok.hd hc) it lo 1 n;refine W.item i s _ _ hg st fun v h' tk hv st' kk=> ?_;obtain ⟨t,rfl⟩:=hv;have I1:Inv X pins σ H {s with heap:=h',toks:=tk}:=I.turned (fun b o hb e=>kk b o (by simpa using hb) e) f0 f1 f3 f4 f5;refine ⟨_,rfl,Gj (s:={s with heap:=h',toks:=tk}) (n:= "range_iterator") st' rfl rfl (by decide) ⟨.int (lo+i),H,I1,⟨t, ?_⟩,⟨rfl,rfl⟩,st',fun b hb=>(hf b hb).1⟩⟩;rw [Int.mul_one]
 done:=by
  intro X hP hw hK hc i pins s σ H E I hf st hg;subst hP hw hK;obtain ⟨f0,f1,f2,f3,f4,f5⟩:=hf it (by simp);exact wpAny_pyNext_range_end (I.ok.hd hc) st (by have:n<=i:=hg;omega) fun h' eb=>⟨rfl,I.turned (t':=s.toks) (fun b o hb e=>eb b o hb e) f0 f1 f3 f4 f5⟩
 self:=fun _ _ _ _ _ st h=>wpAny_pyIter_rangeiter st h
end L2
namespace L2
open PySem PySem.Spec PyProof.Rows
section
variable {X:Cx} {tg:Expr}
def Qn (K:PySem.W.Frag) (tl:TE):TI:=fun σ H R=>tl σ H fun x H1=>∃a,x = .ref a/\(∃xs,bC K H1 a xs)/\R (Mq K a) H1
theorem Np {l:Expr} {tl:TE} (hl:PE X l tl):PI X tg l (Qn X.K tl):=by
 intro pins s σ H R I h;refine dZ (hl pins s σ H _ I h) fun v s1 ⟨x,H1,I1,r1,q1⟩=> ?_;obtain ⟨a,e,⟨xs,hq⟩,q⟩:=q1;subst e;cases r1;obtain ⟨its,rv,p,hz⟩:=I1.list hq;refine wpAny_pyIter_list p.isList ?_;refine ⟨s1.heap.objs.size,[s1.heap.objs.size],_,_,H1,rfl,I1.kept (t':=s1.toks) fun b o e=>Heap.get?_push_of_some _ e,GK a _,⟨_,Heap.get?_push_size _ rfl,rfl,rfl⟩,fun b hb=> ?_,q⟩;have e:b=s1.heap.objs.size:=by simpa using hb
 subst e;exact I1.HX (Nat.le_refl _) (I1.hok.fresh (Nat.le_refl _))
theorem JB {pins:List (Addr×Obj)} {σ:St} {H:Hp} {s:Shared} {R:It->Hp->Prop} {E:Value->Shared->Prop} {lo hi:Int} {t u v:Tok} {tk:Nat} (I:Inv X pins σ H s) (h1: -(2 ^ 62)<=lo) (h2:lo<2 ^ 62) (h3: -(2 ^ 62)<=hi) (h4:hi<2 ^ 62)
 (q:R (PN lo (hi - lo).toNat) H):wpAny (model X.prog X.w) X.A (pyIter (.ref s.heap.objs.size)) (PIE X pins σ tg R) E {s with heap:=s.heap.push {cls:= .type "range",data:= .fields #[.int lo t,.int hi u,.int 1 v]},toks:=tk}:=by
 refine wpAny_pyIter_range (IsRange.new ..) (small_one h1 h2 h3 h4) ?_;have I1:Inv X pins σ H {s with heap:=s.heap.push {cls:= .type "range",data:= .fields #[.int lo t,.int hi u,.int 1 v]},toks:=tk}:=I.kept fun b o e=>Heap.get?_push_of_some _ e
 refine ⟨(s.heap.push {cls:= .type "range",data:= .fields #[.int lo t,.int hi u,.int 1 v]}).objs.size,[(s.heap.push {cls:= .type "range",data:= .fields #[.int lo t,.int hi u,.int 1 v]}).objs.size],_,_,H,rfl,
  I1.kept (t':=tk) fun b o e=>Heap.get?_push_of_some _ e,Dk _ lo (hi - lo).toNat, ?_,fun b hb=> ?_,q⟩
 ·have e1:lo+((0:Nat):Int)*1=lo:=by simp
  have e2:(((hi - lo).toNat:Nat):Int) - ((0:Nat):Int)=Builtin.Range.rangeSize lo hi 1:=by rw [rangeSize_one];split<;>omega
  show IsRangeIter _ _ (lo+((0:Nat):Int)*1) ((((hi - lo).toNat:Nat):Int) - ((0:Nat):Int)) 1;rw [e1,e2];exact Heap.get?_push_size _ rfl
 ·have e:b=(s.heap.push {cls:= .type "range",data:= .fields #[.int lo t,.int hi u,.int 1 v]}).objs.size:=by simpa using hb
  subst e;exact I1.HX (Nat.le_refl _) (I1.hok.fresh (Nat.le_refl _))
def Wg (ta:TA):TI:=fun σ H R=>ta σ H fun vs H1=>∃j:Int,vs=[.int j] /\ -(2 ^ 62)<=j/\j<2 ^ 62/\R (PN 0 j.toNat) H1
theorem iK {a:Expr} {ta:TA} {p pos:Pos} (hg:Gl X "range") (hm:X.mg "range" = none) (ha:PA X [a] ta) (hs:starEach [a] X.env=[(false,eval a X.env)]:=by rfl):PI X tg (.Call (.Name "range" p) [a] [] pos) (Wg ta):=by
 intro pins s σ H R I h;refine Call_ (vY I hg hm boot_range (PyProof.Rows.callWith_type1 (dZ (ha pos pins s σ H _ I h) fun us s1 ⟨vs,H1,I1,r1,q1⟩=> ?_) hs rfl));obtain ⟨j,e,q1,q2,q⟩:=q1;subst e;cases r1 with
 | cons r rr=>
   cases rr;obtain ⟨t,rfl⟩:=r;exact call_range_1 (JB I1 (by omega) (by omega) q1 q2 (by simpa using q))
def aaQ (wi:TI) (g:TG) (tb:TS):TS:=fun D σ H=>wi σ H fun J H1=>∃W:Nat->Nat->St->Hp->Prop,(∃m,W 0 m σ H1) /\ ∀i m σ H,W i m σ H ->
 (J.stop i H/\D.nx σ H)\/(J.go i H /\ ∃N:St->Hp->Prop,(∀σ' H',N σ' H' -> ∃m',m'<m/\W (i+1) m' σ' H') /\ ∀x H',J.Ub i H x H'->g x σ H' fun σ2 H2=>tb {D with nx:=N,ct:=N,bk:=D.nx} σ2 H2)
def vO (fp:List Addr) (h:Heap):List (Addr×Obj):=fp.filterMap fun b=>(h.get? b).map fun o=>(b,o)
theorem mJ {fp:List Addr} {h:Heap} {b:Addr} {o:Obj} (hb:b∈fp) (e:h.get? b=some o):(b,o)∈vO fp h:=List.mem_filterMap.mpr ⟨b,hb,by rw [e];rfl⟩
theorem Hv {fp:List Addr} {h:Heap} {p:Addr×Obj} (hp:p∈vO fp h):p.1∈fp/\h.get? p.1=some p.2:=by
 obtain ⟨b,hb,e⟩:=List.mem_filterMap.mp hp;cases q:h.get? b with
 | none=>rw [q] at e;cases e
 | some o=>
   rw [q] at e;have e':(b,o)=p:=Option.some.inj e;subst e';exact ⟨hb,q⟩
theorem Inv.pinned {pins:List (Addr×Obj)} {σ:St} {H:Hp} {s:Shared} {fp:List Addr} (I:Inv X pins σ H s) (hf:∀b∈fp,qm X pins H b) (ho:∀b∈fp,∃o,s.heap.get? b=some o /\ ∀v,o.data ≠ .cell v):Inv X (pins++vO fp s.heap) σ H s:=
 I.FJ fun p hp=>(List.mem_append.mp hp).elim (fun z=>I.pin p (List.mem_append_right _ z)) fun z=>by
  obtain ⟨hb,e⟩:=Hv z;obtain ⟨f0,f1,f2,_⟩:=hf p.1 hb;obtain ⟨o,e',d⟩:=ho p.1 hb;rw [e] at e';cases e';exact ⟨e,f0,f1,f2,d⟩
theorem Inv.qy {pins pl:List (Addr×Obj)} {σ:St} {H:Hp} {s:Shared} (I:Inv X (pins++pl) σ H s):Inv X pins σ H s:=I.FJ fun p hp=>I.pin p (List.mem_append_right _ (List.mem_append_left _ hp))
theorem nF {iter:Expr} {body:List Stmt} {wi:TI} {g:TG} {tb:TS} {pos:Pos} (hp:PassesOwn (model X.prog X.w) X.A X.env X.xe) (hc:X.calm=true) (hi:PI X tg iter wi) (hg:PG X tg g) (hb:Eu X body tb)
 (hs:∀x,foldedSetIterable iter X.env x=pure x:=by intro _;rfl):PS X (.For tg iter body [] pos) (aaQ wi g tb):=by
 intro pins s σ H D I h;refine wpAny_For (dZ (hi pins s σ H _ I h) fun v s1 h1=>dZ h1 fun itv s2 h2=> ?_) hs;obtain ⟨it,fp,tn,J,H2,e,I2,T,st2,f2,W,⟨m0,w0⟩,turn⟩:=h2;subst e;have stat:∀{H':Hp},(∀b∈fp,H' b=none) -> ∀b∈fp,qm X pins H' b:=fun hn b hb=>⟨hn b hb,(f2 b hb).2⟩;refine codeAny_forLoop_any (fun n s'=>∃i σ' H',Inv X pins σ' H' s'/\tn i s'.heap/\(∀b∈fp,H' b=none)/\W i n σ' H') ?_ m0 ⟨0,σ,H2,I2,st2,fun b hb=>(f2 b hb).1,w0⟩;rintro n s3 ⟨i,σ3,H3,I3,st3,WD,w3⟩;rcases turn i n σ3 H3 w3 with ⟨stop,qn⟩|⟨go,N,hN,step⟩
 ·refine wpAny_passesOwn hp (dZ (T.done X rfl rfl rfl hc i pins s3 σ3 H3 X.xe I3 (stat WD) st3 stop) fun r s4 ⟨hr,I4⟩=> ?_)
  subst hr;exact wpAny_execs_nil ⟨σ3,H3,I4,qn⟩
 ·refine wpAny_passesOwn hp (dZ (T.item X rfl rfl rfl hc i pins s3 σ3 H3 X.xe I3 (stat WD) st3 go) fun r s4 ⟨u,hr,h4⟩=> ?_)
  subst hr;refine wpAny_passesOwn hp (dZ h4 fun _ s5 ⟨x,H5,I5,r5,y5,MJ,fr5⟩=> ?_);have I5':=I5.pinned (stat fr5) (T.obj _ _ MJ);refine wpAny_passesOwn hp (dZ (hg _ s5 σ3 H5 x u _ I5' r5 (step x H5 y5)) fun _ s6 ⟨σ6,H6,I6,q6⟩=> ?_);refine wpAny_passesOwn hp (dZ (hb _ s6 σ6 H6 _ I6 q6) fun f s7 q7=> ?_)
  have again:∀{σ7:St} {H7:Hp},Inv X (pins++vO fp s5.heap) σ7 H7 s7->N σ7 H7 -> ∃m,m<n /\ ∃i σ' H',Inv X pins σ' H' s7/\tn i s7.heap/\(∀b∈fp,H' b=none)/\W i m σ' H':=fun {σ7 H7} I7 n7=>by
   obtain ⟨m',hm,w7⟩:=hN σ7 H7 n7;refine ⟨m',hm,i+1,σ7,H7,I7.qy,T.keep _ _ _ MJ fun b hb o e=>(I7.pin (b,o) (List.mem_append_right _ (List.mem_append_right _ (mJ hb e)))).1,fun b hb=> ?_,w7⟩;obtain ⟨o,e,d⟩:=T.obj _ _ MJ b hb;exact (I7.pin (b,o) (List.mem_append_right _ (List.mem_append_right _ (mJ hb e)))).2.1
  cases f with
  | next=>obtain ⟨σ7,H7,I7,n7⟩:=q7;exact again I7 n7
  | cont=>obtain ⟨σ7,H7,I7,n7⟩:=q7;exact again I7 n7
  | brk=>obtain ⟨σ7,H7,I7,q7⟩:=q7;exact ⟨σ7,H7,I7.qy,q7⟩
  | ret v=>obtain ⟨x7,σ7,H7,I7,r7,q7⟩:=q7;exact ⟨x7,σ7,H7,I7.qy,r7,q7⟩
end
theorem oh {K:PySem.W.Frag} {a:Addr} {xs:List V} {g:TG} {tb:TS} {D:Ends} {σ:St} {H:Hp} (Pv:Nat->St->Hp->Prop) (h0:Pv 0 σ H) (hl:∀i σ H,i<=xs.length->Pv i σ H->bC K H a xs)
 (hs:∀i x σ H,xs[i]? = some x->Pv i σ H->g x σ H fun σ2 H2=>tb {D with nx:=Pv (i+1),ct:=Pv (i+1),bk:=D.nx} σ2 H2) (hd:∀σ H,Pv xs.length σ H->D.nx σ H):
 ∃W:Nat->Nat->St->Hp->Prop,(∃m,W 0 m σ H) /\ ∀i m σ H,W i m σ H ->
  ((Mq K a).stop i H/\D.nx σ H)\/((Mq K a).go i H /\ ∃N:St->Hp->Prop,(∀σ' H',N σ' H' -> ∃m',m'<m/\W (i+1) m' σ' H') /\ ∀x H',(Mq K a).Ub i H x H'->g x σ H' fun σ2 H2=>tb {D with nx:=N,ct:=N,bk:=D.nx} σ2 H2):=by
 refine ⟨fun i m σ H=>m=xs.length - i/\i<=xs.length/\Pv i σ H,⟨xs.length,by simp,Nat.zero_le _,h0⟩, ?_⟩;rintro i m σ H ⟨rfl,hi,p⟩;have q:=hl i σ H hi p
 by_cases hlt:i<xs.length
 ·refine .inr ⟨⟨xs,xs[i],q,by simp [hlt]⟩,Pv (i+1),fun σ' H' p'=>⟨xs.length - (i+1),by omega,rfl,hlt,p'⟩,fun x H' y=> ?_⟩
  obtain ⟨e,y⟩:=y;subst e;exact hs i x σ _ (y xs q) p
 ·have e:i=xs.length:=by omega
  subst e;exact .inl ⟨⟨xs,q,Nat.le_refl _⟩,hd σ H p⟩
theorem yt {lo:Int} {n:Nat} {g:TG} {tb:TS} {D:Ends} {σ:St} {H:Hp} (Pv:Nat->St->Hp->Prop) (h0:Pv 0 σ H)
 (hs:∀i σ H,i<n->Pv i σ H->g (.int (lo+i)) σ H fun σ2 H2=>tb {D with nx:=Pv (i+1),ct:=Pv (i+1),bk:=D.nx} σ2 H2) (hd:∀σ H,Pv n σ H->D.nx σ H):
 ∃W:Nat->Nat->St->Hp->Prop,(∃m,W 0 m σ H) /\ ∀i m σ H,W i m σ H ->
  ((PN lo n).stop i H/\D.nx σ H)\/((PN lo n).go i H /\ ∃N:St->Hp->Prop,(∀σ' H',N σ' H' -> ∃m',m'<m/\W (i+1) m' σ' H') /\ ∀x H',(PN lo n).Ub i H x H'->g x σ H' fun σ2 H2=>tb {D with nx:=N,ct:=N,bk:=D.nx} σ2 H2):=by
 refine ⟨fun i m σ H=>m=n - i/\i<=n/\Pv i σ H,⟨n,by simp,Nat.zero_le _,h0⟩, ?_⟩;rintro i m σ H ⟨rfl,hi,p⟩
 by_cases hlt:i<n
 ·refine .inr ⟨hlt,Pv (i+1),fun σ' H' p'=>⟨n - (i+1),by omega,rfl,hlt,p'⟩,fun x H' y=> ?_⟩
  obtain ⟨e,y⟩:=y;subst e y;exact hs i σ _ hlt p
 ·have e:i=n:=by omega
  subst e;exact .inl ⟨Nat.le_refl _,hd σ H p⟩
end L2
namespace L2
open PySem PySem.Spec PyProof.Rows
abbrev R2:=V->V->Hp->VK->Prop
def oG (X:Cx) (f:Value->Value->Sem Value) (r:R2):Prop:=
 ∀(pins:List (Addr×Obj)) (s:Shared) (σ:St) (H:Hp) (x y:V) (v u:Value) (Q:VK),Inv X pins σ H s->RelV x v->RelV y u->r x y H Q ->
  wpAny (model X.prog X.w) X.A (f v u) (EP X pins σ Q) X.xe s
def UnR (X:Cx) (f:Value->Sem Value) (r:V->Hp->VK->Prop):Prop:=
 ∀(pins:List (Addr×Obj)) (s:Shared) (σ:St) (H:Hp) (x:V) (v:Value) (Q:VK),Inv X pins σ H s->RelV x v->r x H Q ->
  wpAny (model X.prog X.w) X.A (f v) (EP X pins σ Q) X.xe s
def j7 (X:Cx) (f:Value) (r:List V->Hp->VK->Prop):Prop:=
 ∀(pins:List (Addr×Obj)) (s:Shared) (σ:St) (H:Hp) (xs:List V) (us:List Value) (Q:VK),Inv X pins σ H s->Vals xs us->r xs H Q ->
  wpAny (model X.prog X.w) X.A (call f us) (EP X pins σ Q) X.xe s
def Fo (r:R2) (ta tb:TE):TE:=fun σ H Q=>ta σ H fun x H1=>tb σ H1 fun y H2=>r x y H2 Q
def tUn (r:V->Hp->VK->Prop) (ta:TE):TE:=fun σ H Q=>ta σ H fun x H1=>r x H1 Q
def rI (C:Int->Int->Prop) (g:Int->Int->V):R2:=fun x y H Q=>∃i j,x = .int i/\y = .int j/\C i j/\Q (g i j) H
def Nb (g:Int->Int->V):R2:=fun x y H Q=>∃i j,x = .int i/\y = .int j/\Q (g i j) H
def rU (g:Int->V):V->Hp->VK->Prop:=fun x H Q=>∃i,x = .int i/\Q (g i) H
section
variable {X:Cx} {a b c:Expr} {ta tb tc:TE} {pos:Pos}
theorem TQ (ha:PE X a ta) (hb:PE X b tb) {pins:List (Addr×Obj)} {s:Shared} {σ:St} {H:Hp} {R:V->V->Hp->Prop} (I:Inv X pins σ H s)
 (h:ta σ H fun x H1=>tb σ H1 fun y H2=>R x y H2) {Q:Value->Shared->Prop} {f:Value->Value->Sem Value}
 (hf:∀v u s2 x y H2,Inv X pins σ H2 s2->RelV x v->RelV y u->R x y H2->wpAny (model X.prog X.w) X.A (f v u) Q X.xe s2):
 wpAny (model X.prog X.w) X.A (eval a X.env) (fun v s₁=>wpAny (model X.prog X.w) X.A (eval b X.env) (fun u s₂=>wpAny (model X.prog X.w) X.A (f v u) Q X.xe s₂) X.xe s₁) X.xe s:=by
 refine dZ (ha pins s σ H _ I h) fun v s1 ⟨x,H1,I1,r1,q1⟩=> ?_;refine dZ (hb pins s1 σ H1 _ I1 q1) fun u s2 ⟨y,H2,I2,r2,q2⟩=> ?_;exact hf v u s2 x y H2 I2 r1 r2 q2
theorem bJ {op:Operator} {r:R2} (ho:oG X (binaryOp op) r) (ha:PE X a ta) (hb:PE X b tb):PE X (.BinOp a op b pos) (Fo r ta tb):=by
 intro pins s σ H Q I h;exact wpAny_BinOp (TQ ha hb I h fun v u s2 x y H2 I2 rx ry q=>ho pins s2 σ H2 x y v u Q I2 rx ry q)
theorem JF {op:UnaryOp} {r:V->Hp->VK->Prop} (ho:UnR X (unaryOp op) r) (ha:PE X a ta):PE X (.UnaryOp op a pos) (tUn r ta):=by
 intro pins s σ H Q I h;exact UnaryOp_ (dZ (ha pins s σ H _ I h) fun v s1 ⟨x,H1,I1,r1,q1⟩=>ho pins s1 σ H1 x v Q I1 r1 q1)
theorem VF {f:Value->Value->Sem Value} {C:Int->Int->Prop} {g:Int->Int->Int}
 (rule:∀(i j:Int) (t u:Tok) (s:Shared) (Q:Value->Shared->Prop) (E:Value->Shared->Prop),C i j->Q (.int (g i j) s.toks) {s with toks:=s.toks+1}->wpAny (model X.prog X.w) X.A (f (.int i t) (.int j u)) Q E s):
 oG X f (rI C fun i j=> .int (g i j)):=by
 intro pins s σ H x y v u Q I rx ry h;obtain ⟨i,j,rfl,rfl,hc,q⟩:=h;obtain ⟨t,rfl⟩:=rx;obtain ⟨t',rfl⟩:=ry;exact rule i j t t' s _ _ hc ⟨.int (g i j),H,I.tok _,⟨_,rfl⟩,q⟩
theorem VD {f:Value->Value->Sem Value} {g:Int->Int->Int}
 (rule:∀(i j:Int) (t u:Tok) (s:Shared) (Q:Value->Shared->Prop) (E:Value->Shared->Prop),Q (.int (g i j) s.toks) {s with toks:=s.toks+1}->wpAny (model X.prog X.w) X.A (f (.int i t) (.int j u)) Q E s):
 oG X f (Nb fun i j=> .int (g i j)):=by
 intro pins s σ H x y v u Q I rx ry h;obtain ⟨i,j,rfl,rfl,q⟩:=h;obtain ⟨t,rfl⟩:=rx;obtain ⟨t',rfl⟩:=ry;exact rule i j t t' s _ _ ⟨.int (g i j),H,I.tok _,⟨_,rfl⟩,q⟩
theorem Nv {f:Value->Value->Sem Value} {g:Int->Int->Bool}
 (rule:∀(i j:Int) (t u:Tok) (s:Shared) (Q:Value->Shared->Prop) (E:Value->Shared->Prop),Q (.bool (g i j)) s->wpAny (model X.prog X.w) X.A (f (.int i t) (.int j u)) Q E s):
 oG X f (Nb fun i j=> .bl (g i j)):=by
 intro pins s σ H x y v u Q I rx ry h;obtain ⟨i,j,rfl,rfl,q⟩:=h;obtain ⟨t,rfl⟩:=rx;obtain ⟨t',rfl⟩:=ry;exact rule i j t t' s _ _ ⟨.bl (g i j),H,I,rfl,q⟩
def CG (i j:Int):Prop:=0<=j/\j<=1000000/\i.natAbs<2 ^ 64
def Qa (i j:Int):Prop:=(-(2 ^ 64)<i/\i<2 ^ 64)\/(-(2 ^ 64)<j/\j<2 ^ 64)
theorem Qa.ok {i j:Int} (h:Qa i j):IntMulOk i j:=by
 rcases h with ⟨h1,h2⟩|⟨h1,h2⟩
 ·exact .of_left (intBits_le_64 h1 h2)
 ·exact .of_right (intBits_le_64 h1 h2)
theorem dM:oG X (binaryOp .Add) (Nb fun i j=> .int (i+j)):=VD fun _ _ _ _ _ _ _ q=>add_int q
theorem mH:oG X (binaryOp .Sub) (Nb fun i j=> .int (i - j)):=VD fun _ _ _ _ _ _ _ q=>sub_int q
theorem vR:oG X (binaryOp .Mult) (rI Qa fun i j=> .int (i*j)):=VF fun _ _ _ _ _ _ _ hc q=>mul_int q hc.ok
theorem jL:oG X (binaryOp .Mod) (rI (fun _ j=>0<j) fun i j=> .int (i % j)):=VF fun i j _ _ _ _ _ hc q=>by
 have h1:(0:Int)<j:=hc;exact mod_int' (by omega) (by rw [Int.fmod_eq_emod_of_nonneg i (by omega)];exact q)
theorem nJ:oG X (binaryOp .Pow) (rI CG fun i j=> .int (i ^ j.toNat)):=VF fun _ _ _ _ _ _ _ hc q=>pow_int_small hc.1 hc.2.1 hc.2.2 q
theorem unI {f:Value->Sem Value} {g:Int->Int}
 (rule:∀(i:Int) (t:Tok) (s:Shared) (Q:Value->Shared->Prop) (E:Value->Shared->Prop),Q (.int (g i) s.toks) {s with toks:=s.toks+1}->wpAny (model X.prog X.w) X.A (f (.int i t)) Q E s):
 UnR X f (rU fun i=> .int (g i)):=by
 intro pins s σ H x v Q I rx h;obtain ⟨i,rfl,q⟩:=h;obtain ⟨t,rfl⟩:=rx;exact rule i t s _ _ ⟨.int (g i),H,I.tok _,⟨_,rfl⟩,q⟩
theorem Di:UnR X (unaryOp .USub) (rU fun i=> .int (-i)):=unI fun _ _ _ _ _ q=>neg_int q
end
def Vq:V->V->Bool
 | .non,.non=>true | .non,.int _=>true | .int _,.non=>true | .non,.bl _=>true | .bl _,.non=>true | .non,.str _=>true | .str _,.non=>true
 | .int _,.int _=>true | .bl _,.bl _=>true | .str _,.str _=>true | .Ie _,.Ie _=>true
 | .int _,.str _=>true | .str _,.int _=>true | .bl _,.str _=>true | .str _,.bl _=>true
 | _,_=>false
def rEq:R2:=fun x y H Q=>Vq x y=true/\Q (.bl (decide (x=y))) H
def rNe:R2:=fun x y H Q=>Vq x y=true/\Q (.bl (!decide (x=y))) H
theorem Gs {i j:Int}:decide (V.int i=V.int j)=(i==j):=by
 rw [Bool.eq_iff_iff];simp
theorem Lg {i j:Bool}:decide (V.bl i=V.bl j)=(i==j):=by
 rw [Bool.eq_iff_iff];simp
theorem Gr {i j:Str}:decide (V.str i=V.str j)=(i==j):=by
 rw [Bool.eq_iff_iff];simp
theorem Gu {i j:Array UInt8}:decide (V.Ie i=V.Ie j)=(i.toList==j.toList):=by
 rw [Bool.eq_iff_iff];cases i;cases j;simp
section
variable {X:Cx} {a b c:Expr} {ta tb tc:TE} {pos:Pos}
theorem cD {pins:List (Addr×Obj)} {σ:St} {H:Hp} {s:Shared} {Q:VK} {k k':Bool} (I:Inv X pins σ H s) (q:Q (.bl k) H) (e:k=k'):EP X pins σ Q (.bool k') s:=by
 subst e;exact ⟨.bl k,H,I,rfl,q⟩
theorem cT:oG X (compareOp .Eq) rEq:=by
 intro pins s σ H x y v u Q I rx ry h;obtain ⟨hs,q⟩:=h;cases x with
 | non=>
   cases rx;cases y with
   | non=>cases ry;exact PySem.EqNone.eq_none_none (cD I q (by simp))
   | bl j=>cases ry;exact PySem.EqNone.eq_none_bool (cD I q (by simp))
   | int j=>obtain ⟨t',rfl⟩:=ry;exact PySem.EqNone.eq_none_int (cD I q (by simp))
   | str j=>obtain ⟨t',rfl⟩:=ry;exact PySem.EqNone.eq_none_str (cD I q (by simp))
   | _=>exact absurd (show false=true from hs) Bool.false_ne_true
 | bl i=>
   cases rx;cases y with
   | non=>cases ry;exact PySem.EqNone.eq_bool_none (cD I q (by simp))
   | bl j=>cases ry;exact eq_bool (cD I q Lg)
   | str j=>obtain ⟨t',rfl⟩:=ry;exact PySem.EqMixed.eq_bool_str (cD I q (by simp))
   | _=>exact absurd (show false=true from hs) Bool.false_ne_true
 | int i=>
   obtain ⟨t,rfl⟩:=rx;cases y with
   | non=>cases ry;exact PySem.EqNone.eq_int_none (cD I q (by simp))
   | int j=>obtain ⟨t',rfl⟩:=ry;exact eq_int (cD I q Gs)
   | str j=>obtain ⟨t',rfl⟩:=ry;exact PySem.EqMixed.eq_int_str (cD I q (by simp))
   | _=>exact absurd (show false=true from hs) Bool.false_ne_true
 | str i=>
   obtain ⟨t,rfl⟩:=rx;cases y with
   | non=>cases ry;exact PySem.EqNone.eq_str_none (cD I q (by simp))
   | bl j=>cases ry;exact PySem.EqMixed.eq_str_bool (cD I q (by simp))
   | int j=>obtain ⟨t',rfl⟩:=ry;exact PySem.EqMixed.eq_str_int (cD I q (by simp))
   | str j=>obtain ⟨t',rfl⟩:=ry;exact eq_str (cD I q Gr)
   | _=>exact absurd (show false=true from hs) Bool.false_ne_true
 | Ie i=>
   obtain ⟨t,rfl⟩:=rx;cases y with
   | Ie j=>obtain ⟨t',rfl⟩:=ry;exact PySem.W.eq_bytes (cD I q Gu)
   | _=>exact absurd (show false=true from hs) Bool.false_ne_true
 | _=>cases y<;>exact absurd (show false=true from hs) Bool.false_ne_true
theorem qN:oG X (compareOp .NotEq) rNe:=by
 intro pins s σ H x y v u Q I rx ry h;obtain ⟨hs,q⟩:=h;cases x with
 | non=>
   cases rx;cases y with
   | non=>cases ry;exact PySem.EqNone.ne_none_none (cD I q (by simp))
   | bl j=>cases ry;exact PySem.EqNone.ne_none_bool (cD I q (by simp))
   | int j=>obtain ⟨t',rfl⟩:=ry;exact PySem.EqNone.ne_none_int (cD I q (by simp))
   | str j=>obtain ⟨t',rfl⟩:=ry;exact PySem.EqNone.ne_none_str (cD I q (by simp))
   | _=>exact absurd (show false=true from hs) Bool.false_ne_true
 | bl i=>
   cases rx;cases y with
   | non=>cases ry;exact PySem.EqNone.ne_bool_none (cD I q (by simp))
   | bl j=>cases ry;exact ne_bool (cD I q (congrArg not Lg))
   | str j=>obtain ⟨t',rfl⟩:=ry;exact PySem.EqMixed.ne_bool_str (cD I q (by simp))
   | _=>exact absurd (show false=true from hs) Bool.false_ne_true
 | int i=>
   obtain ⟨t,rfl⟩:=rx;cases y with
   | non=>cases ry;exact PySem.EqNone.ne_int_none (cD I q (by simp))
   | int j=>obtain ⟨t',rfl⟩:=ry;exact ne_int (cD I q (congrArg not Gs))
   | str j=>obtain ⟨t',rfl⟩:=ry;exact PySem.EqMixed.ne_int_str (cD I q (by simp))
   | _=>exact absurd (show false=true from hs) Bool.false_ne_true
 | str i=>
   obtain ⟨t,rfl⟩:=rx;cases y with
   | non=>cases ry;exact PySem.EqNone.ne_str_none (cD I q (by simp))
   | bl j=>cases ry;exact PySem.EqMixed.ne_str_bool (cD I q (by simp))
   | int j=>obtain ⟨t',rfl⟩:=ry;exact PySem.EqMixed.ne_str_int (cD I q (by simp))
   | str j=>obtain ⟨t',rfl⟩:=ry;exact ne_str (cD I q (congrArg not Gr))
   | _=>exact absurd (show false=true from hs) Bool.false_ne_true
 | Ie i=>
   obtain ⟨t,rfl⟩:=rx;cases y with
   | Ie j=>obtain ⟨t',rfl⟩:=ry;exact PySem.W.ne_bytes (cD I q (congrArg not Gu))
   | _=>exact absurd (show false=true from hs) Bool.false_ne_true
 | _=>cases y<;>exact absurd (show false=true from hs) Bool.false_ne_true
theorem iG:oG X (compareOp .Lt) (Nb fun i j=> .bl (decide (i<j))):=Nv fun _ _ _ _ _ _ _ q=>lt_int q
theorem VB:oG X (compareOp .LtE) (Nb fun i j=> .bl (decide (i<=j))):=Nv fun _ _ _ _ _ _ _ q=>le_int q
theorem JN:oG X (compareOp .Gt) (Nb fun i j=> .bl (decide (j<i))):=Nv fun _ _ _ _ _ _ _ q=>gt_int q
theorem Qj:oG X (compareOp .GtE) (Nb fun i j=> .bl (decide (j<=i))):=Nv fun _ _ _ _ _ _ _ q=>ge_int q
theorem zA:oG X (compareOp .Is) (fun x y H Q=>y = .non/\Q (.bl (decide (x = .non))) H):=by
 intro pins s σ H x y v u Q I rx ry h;obtain ⟨rfl,q⟩:=h;cases ry;refine is_none_gen (cD I q ?_)
 cases x<;>first
  | (cases rx;rfl)
  | (obtain ⟨t,rfl⟩:=rx;rfl)
theorem uN:oG X (compareOp .IsNot) (fun x y H Q=>y = .non/\Q (.bl (!decide (x = .non))) H):=by
 intro pins s σ H x y v u Q I rx ry h;obtain ⟨rfl,q⟩:=h;cases ry;refine isnot_none_gen (cD I q ?_)
 cases x<;>first
  | (cases rx;rfl)
  | (obtain ⟨t,rfl⟩:=rx;rfl)
def isObj:HO->Bool
 | .lst _=>true
 | .ins _ _ _=>true
 | _=>false
theorem aV (b:Expr) {op:CmpOp} (h:op ≠ .In:=by decide) (h2:op ≠ .NotIn:=by decide):behindInMarks op b=false:=by
 have e1:(op==CmpOp.In)=false:=by cases op<;>first |rfl|exact absurd rfl h
 have e2:(op==CmpOp.NotIn)=false:=by cases op<;>first |rfl|exact absurd rfl h2
 cases b<;>simp [behindInMarks,e1,e2]
theorem dY {op:CmpOp} {r:R2} (ho:oG X (compareOp op) r) (ha:PE X a ta) (hb:PE X b tb) (hm:behindInMarks op b=false):PE X (.Compare a [op] [b] pos) (Fo r ta tb):=by
 intro pins s σ H Q I h;exact wpAny_Compare1 (TQ ha hb I h fun v u s2 x y H2 I2 rx ry q=>ho pins s2 σ H2 x y v u Q I2 rx ry q) hm
def Qe (t:TE):TT:=fun σ H Q=>t σ H fun x H'=>∃k,x = .bl k/\Q k H'
theorem aR {op:CmpOp} {r:R2} (ho:oG X (compareOp op) r) (ha:PE X a ta) (hb:PE X b tb) (hm:behindInMarks op b=false):PT X (.Compare a [op] [b] pos) (Qe (Fo r ta tb)):=by
 intro pins s σ H Q I h
 refine wpAny_isTrue_Compare1 (dZ (ha pins s σ H _ I h) fun v s1 ⟨x,H1,I1,r1,q1⟩=>dZ (hb pins s1 σ H1 _ I1 q1) fun u s2 ⟨y,H2,I2,r2,q2⟩=>
  dZ (ho pins s2 σ H2 x y v u _ I2 r1 r2 q2) fun c s3 ⟨z,H3,I3,r3,k,e,q3⟩=> ?_) hm
 subst e;cases r3;exact wpAny_truthy_bool ⟨H3,I3,q3⟩
def QX (r r':R2) (ta tb tc:TE):TE:=fun σ H Q=>ta σ H fun x H1=>tb σ H1 fun y H2=>r x y H2 fun z H3=>∃k,z = .bl k /\
 (if k=true then tc σ H3 fun w' H4=>r' y w' H4 Q else Q (.bl false) H3)
theorem JM {op op':CmpOp} {r r':R2} (ho:oG X (compareOp op) r) (ho':oG X (compareOp op') r') (ha:PE X a ta) (hb:PE X b tb) (hc:PE X c tc)
 (hm:lastMarks [op,op'] [b,c]=false:=by with_unfolding_all rfl):PE X (.Compare a [op,op'] [b,c] pos) (QX r r' ta tb tc):=by
 intro pins s σ H Q I h
 refine Compare_chain (dZ (ha pins s σ H _ I h) fun v s1 ⟨x,H1,I1,r1,q1⟩=>chain_link (dZ (hb pins s1 σ H1 _ I1 q1) fun u s2 ⟨y,H2,I2,r2,q2⟩=>
  dZ (ho pins s2 σ H2 x y v u _ I2 r1 r2 q2) fun d s3 ⟨z,H3,I3,r3,k,e,q3⟩=> ?_)) hm
 subst e;cases r3;refine wpAny_truthy_bool ?_;cases k with
 | false=>exact ite_ff ⟨.bl false,H3,I3,rfl,q3⟩
 | true=>exact ite_tt (chain_last (dZ (hc pins s3 σ H3 _ I3 q3) fun w' s4 ⟨z',H4,I4,r4,q4⟩=>ho' pins s4 σ H4 y z' u w' Q I4 r2 r4 q4))
theorem vW:(sizeLine:Nat)<2 ^ 63:=by rw [sizeLine_eq];decide
theorem vals1 {x:V} {us:List Value} (r:Vals [x] us):∃u,us=[u]/\RelV x u:=by
 cases r with
 | cons r1 r2=>cases r2;exact ⟨_,rfl,r1⟩
theorem vals2 {x y:V} {us:List Value} (r:Vals [x,y] us):∃u w',us=[u,w']/\RelV x u/\RelV y w':=by
 cases r with
 | cons r1 r2=>
   cases r2 with
   | cons r3 r4=>cases r4;exact ⟨_,_,rfl,r1,r3⟩
theorem yw (hc:X.calm=true):j7 X (.builtin "max") (fun xs H Q=>∃i j,xs=[.int i,.int j]/\Q (.int (if j>i then j else i)) H):=by
 intro pins s σ H xs us Q I r h;obtain ⟨i,j,rfl,q⟩:=h;obtain ⟨u,w',rfl,⟨t,rfl⟩,⟨t',rfl⟩⟩:=vals2 r;refine max_two_ints (I.ok.hd hc) fun h' tk k=>⟨_,H,I.kept k, ?_,q⟩
 by_cases hj:j>i
 ·rw [if_pos hj,if_pos hj];exact ⟨_,rfl⟩
 ·rw [if_neg hj,if_neg hj];exact ⟨_,rfl⟩
theorem Ib (hc:X.calm=true):j7 X (.builtin "min") (fun xs H Q=>∃i j,xs=[.int i,.int j]/\Q (.int (if j<i then j else i)) H):=by
 intro pins s σ H xs us Q I r h;obtain ⟨i,j,rfl,q⟩:=h;obtain ⟨u,w',rfl,⟨t,rfl⟩,⟨t',rfl⟩⟩:=vals2 r;refine min_two_ints (I.ok.hd hc) fun h' tk k=>⟨_,H,I.kept k, ?_,q⟩
 by_cases hj:j<i
 ·rw [if_pos hj,if_pos hj];exact ⟨_,rfl⟩
 ·rw [if_neg hj,if_neg hj];exact ⟨_,rfl⟩
theorem lG:j7 X (.type "int") (fun xs H Q=>(∃i,xs=[.int i]/\Q (.int i) H) \/ ∃k,xs=[.bl k]/\Q (.int (if k then 1 else 0)) H):=by
 intro pins s σ H xs us Q I r h;rcases h with ⟨i,rfl,q⟩|⟨k,rfl,q⟩
 ·obtain ⟨u,rfl,t,rfl⟩:=vals1 r
  exact call_int_int ⟨.int i,H,I,⟨_,rfl⟩,q⟩
 ·obtain ⟨u,rfl,r1⟩:=vals1 r
  cases r1;exact call_int_bool ⟨.int (if k then 1 else 0),H,I.tok _,⟨_,rfl⟩,q⟩
end
end L2
namespace L2
open PySem PySem.Spec PyProof.Rows
structure Ew (h:Heap) (x dx C:Addr) (mA:Str->Option Value):Prop where
 obj:h.get? x=some (PySem.W.instObj C dx)
 ns:h.Ns1 dx mA
 ne:dx≠x
theorem Hx {h:Heap} {dx:Addr} {mA:Str->Option Value} (n:h.Ns1 dx mA):∃od,h.get? dx=some od /\ ∀name,PySem.W.lookIn name od=some (mA name):=by
 obtain ⟨o,es,ep,ho,hd,hk,_,hm⟩:=n;refine ⟨o,ho,fun name=> ?_⟩;have e:=hm name;unfold nsFind findBy at e;rw [←Array.find?_toList] at e;unfold PySem.W.lookIn;rw [hd];dsimp only;split
 ·rename_i y q
  rw [q] at e;exact congrArg some e
 ·rename_i q
  rw [q] at e
  have a:es.toList.any (·.refKey)=false:=by
   rw [List.any_eq_false];intro y hy;obtain ⟨z,t,hkey⟩:=hk y (Array.mem_toList_iff.mp hy);simp [DictEntry.refKey,hkey]
  have a':¬es.toList.any (·.refKey)=true:=by rw [a];exact Bool.false_ne_true
  rw [if_neg a'];exact congrArg some e
theorem Ew.look {h:Heap} {x dx C:Addr} {mA:Str->Option Value} (I:Ew h x dx C mA):∃od,PySem.W.InstAt h x (PySem.W.instObj C dx) C (some od) /\ ∀name,PySem.W.lookIn name od=some (mA name):=
 let ⟨od,ho,hl⟩:=Hx I.ns
 ⟨od,⟨I.obj,rfl,rfl,ho⟩,hl⟩
section
variable {prog:Program} {w:World} {A:Around} {E:Value->Shared->Prop} {s:Shared} {K:PySem.W.Frag} {x dx C f:Addr} {mA:Str->Option Value} {name:Str} {v:Value}
theorem get_map {expr:Bool} {Q:Value->Shared->Prop} (X:K.In s.heap) (I:Ew s.heap x dx C mA) (hg:PySem.W.plainGet K C name=true) (hh:PySem.W.hasDictIn K C=true)
 (ha:PySem.W.findIn K (.ref C) name=some none) (hv:mA name=some v) (hv':PySem.W.handedIn v=true) (h:Q v {s with toks:=s.toks+1}):
 wpAny (model prog w) A (getAttr (.ref x) name expr) Q E s:=by
 obtain ⟨od,J,hl⟩:=I.look;exact PySem.W.get_value X J (PySem.W.plainGet_of hg).1 (PySem.W.findObj_own hh ha rfl (by rw [hl,hv])) hv' h
theorem K6 {pl:Sem Bool} {Q:Value×List Value->Shared->Prop} (X:K.In s.heap) (I:Ew s.heap x dx C mA) (hg:PySem.W.plainGet K C name=true)
 (hf:PySem.W.findIn K (.ref C) name=some (some (.ref f))) (ht:PySem.W.isFn K (.ref f)=true) (hv:mA name=none) (h:Q (.ref f,[.ref x]) s):
 wpAny (model prog w) A (getMethod (.ref x) name pl) Q E s:=by
 obtain ⟨od,J,hl⟩:=I.look;exact PySem.W.method_fn X J (PySem.W.plainGet_of hg).1 (PySem.W.plainGet_of hg).2 hf (beq_iff_eq.mp ht) (by show (PySem.W.lookIn name od).map (·.isSome)=some false;rw [hl,hv];rfl) h
theorem MP {ns:List Str} {Q:Unit->Shared->Prop} (X:K.In s.heap) (I:Ew s.heap x dx C mA)
 (hs:PySem.W.findIn K (.ref C) "__setattr__" = some (some (.builtin "object.__setattr__"))) (hp:PySem.W.plainOver K C=true) (ht:PySem.W.takerIn K C name=some none) (hh:PySem.W.hasDictIn K C=true)
 (hw:PySem.Within mA ns) (hsz:ns.length<=sizeLine)
 (h:∀h',Ew h' x dx C (fun y=>if y=name then some v else mA y)->Heap.SameBut dx s.heap h'->Q () {s with heap:=h',toks:=s.toks+2}):
 wpAny (model prog w) A (setAttr (.ref x) name v) Q E s:=by
 obtain ⟨od,J,hl⟩:=I.look;refine PySem.W.set_plain X J hs (PySem.W.osa_open (s:={s with toks:=s.toks+1}) (r:=none) X J hp ht fun b=> ?_);obtain ⟨cd,hc,hd'⟩:=PySem.W.any_some hh;have hx:s.heap.get? x=some ⟨.ref C,some dx,.plain, #[]⟩:=I.obj;refine wpAny_bind (wpAny_pure (wpAny_bind (wpAny_bind (wpAny_loadPart hx (wpAny_bind (PySem.W.Looks.here (s:={s with toks:=s.toks+1}) (PySem.W.looks_clsIn X hc) ?_))))));rw [hd'];refine wpAny_pure (a:=some dx) (wpAny_bind (wpAny_pure (wpAny_bind ?_)));refine wpAny_nsSet1 (s:={s with toks:=s.toks+1}) I.ns fun h' hn2 hs2=> ?_;obtain ⟨oD,esD,epD,hoD,hdD,hcD⟩:=hn2.count (PySem.Within.cons name v hw);refine wpAny_bind (wpAny_lookBehind hoD (by rw [hdD];exact pastItsLine_dict (Nat.le_trans hcD (by rw [List.length_cons];omega))) ?_);exact wpAny_pure (h _ ⟨(hs2.2 _ (Ne.symm I.ne)).trans I.obj,hn2,I.ne⟩ hs2)
theorem Bw {R:Result->Shared->Prop} {vs:List Value} {kw:List (Str×Value)} (X:K.In s.heap) (hm:PySem.W.makesIn K C=true)
 (hi:PySem.W.findIn K (.ref C) "__init__" = some (some (.ref f))) (hf:PySem.W.typeIn K (.ref f)=some (.type "function"))
 (h:codeAny (model prog w) (A.under (.builtin "type.__call__" ⟨.ref C::vs,kw⟩)) (.call (.ref f) ⟨.ref (s.heap.objs.size+1)::vs,kw⟩) (PySem.W.InitBack (s.heap.objs.size+1) R)
   {s with heap:=(s.heap.push PySem.W.emptyDict).push (PySem.W.instObj C s.heap.objs.size)}):
 codeAny (model prog w) A (.call (.ref C) ⟨vs,kw⟩) R s:=by
 obtain ⟨hh,g,d,t,os⟩:=s;exact PySem.W.make_core (PySem.W.makes_of X hm) (PySem.W.looks_findIn X hi) (fun self=>PySem.W.bind_fn X self hf) (.inl rfl) h
end
def dg (f:Str) (v:V):List (Str×V)->List (Str×V)
 | []=>[(f,v)]
 | (g,x)::r=>if g=f then (g,v)::r else (g,x)::dg f v r
theorem tZ (f g:Str) (v:V):∀fs:List (Str×V),(dg f v fs).lookup g=if g=f then some v else fs.lookup g
 | []=>by
   show List.lookup g [(f,v)]=_
   by_cases h:g=f
   ·have hb:(g==f)=true:=beq_iff_eq.mpr h
    simp only [List.lookup,hb,if_pos h]
   ·have hb:(g==f)=false:=beq_eq_false_iff_ne.mpr h
    simp only [List.lookup,hb,if_neg h]
 | (k,x)::r=>by
   have ih:=tZ f g v r;rw [show dg f v ((k,x)::r)=(if k=f then (k,v)::r else (k,x)::dg f v r) from rfl]
   by_cases hk:k=f
   ·rw [if_pos hk]
    by_cases h:g=k
    ·have hb:(g==k)=true:=beq_iff_eq.mpr h
     simp only [List.lookup,hb,if_pos (h.trans hk)]
    ·have hb:(g==k)=false:=beq_eq_false_iff_ne.mpr h
     simp only [List.lookup,hb,if_neg (fun e:g=f=>h (e.trans hk.symm))]
   ·rw [if_neg hk]
    by_cases h:g=k
    ·have hb:(g==k)=true:=beq_iff_eq.mpr h
     simp only [List.lookup,hb,if_neg (fun e:g=f=>hk (h.symm.trans e))]
    ·have hb:(g==k)=false:=beq_eq_false_iff_ne.mpr h
     simp only [List.lookup,hb];exact ih
theorem sS (f:Str) (v:V):∀fs:List (Str×V),f∈(dg f v fs).map (·.1) /\ ∀g,g∈fs.map (·.1)->g∈(dg f v fs).map (·.1)
 | []=>⟨by simp [dg],fun g h=>by simp at h⟩
 | (k,x)::r=>by
   obtain ⟨i1,i2⟩:=sS f v r;rw [show dg f v ((k,x)::r)=(if k=f then (k,v)::r else (k,x)::dg f v r) from rfl]
   by_cases hk:k=f
   ·rw [if_pos hk]
    subst hk;exact ⟨by simp,fun g h=>by simpa using h⟩
   ·rw [if_neg hk]
    refine ⟨?_,fun g h=> ?_⟩
    ·rw [List.map_cons]
     exact List.mem_cons_of_mem _ i1
    ·rw [List.map_cons] at h ⊢
     rcases List.mem_cons.mp h with e|e
     ·exact List.mem_cons.mpr (.inl e)
     ·exact List.mem_cons_of_mem _ (i2 g e)
theorem t_ (f:Str) (v:V):∀fs:List (Str×V),(dg f v fs).length<=fs.length+1
 | []=>by simp [dg]
 | (k,x)::r=>by
   have ih:=t_ f v r;rw [show dg f v ((k,x)::r)=(if k=f then (k,v)::r else (k,x)::dg f v r) from rfl]
   by_cases hk:k=f
   ·rw [if_pos hk,List.length_cons,List.length_cons];omega
   ·rw [if_neg hk,List.length_cons,List.length_cons];omega
theorem xU.some_of {v:V} {o:Option Value} (r:xU (some v) o):∃u,o=some u/\RelV v u:=by
 cases o with
 | none=>exact (show False from r).elim
 | some u=>exact ⟨u,rfl,r⟩
theorem xU.none_of {o:Option Value} (r:xU none o):o=none:=by
 cases o with
 | none=>rfl
 | some u=>exact (show False from r).elim
theorem HS {v:V} {u:Value} (r:RelV v u):PySem.W.handedIn u=true:=by
 cases v with
 | non=>cases (show u=Value.none from r);rfl
 | bl b=>cases (show u=Value.bool b from r);rfl
 | int i=>obtain ⟨t,e⟩:=(show ∃t,u=Value.int i t from r);cases e;rfl
 | str x=>obtain ⟨t,e⟩:=(show ∃t,u=Value.str x t from r);cases e;rfl
 | Ie b=>obtain ⟨t,e⟩:=(show ∃t,u=Value.bytes b t from r);cases e;rfl
 | flt b=>obtain ⟨t,e⟩:=(show ∃t,u=Value.float b t from r);cases e;rfl
 | ref a=>cases (show u=Value.ref a from r);rfl
 | ty n=>cases (show u=Value.type n from r);rfl
section
variable {P:Program} {w:World} {H H':Hp} {h h':Heap} {a C dx:Addr} {fs fs':List (Str×V)}
theorem eG (hok:rB P w H h) (e:H a=some (.ins C dx fs)):∃mA,Ew h a dx C mA/\(∀f,xU (fs.lookup f) (mA f))/\PySem.Within mA (fs.map (·.1))/\fs.length<=1000/\H dx=some (.own a):=by
 obtain ⟨d,z,ne,ob,mA,n,r,q⟩:=(show eY P w H h a (.ins C dx fs) from hok a _ e);exact ⟨mA,⟨ob,n,ne⟩,r,q,z,d⟩
end
structure Cls (K:PySem.W.Frag) (C:Addr):Prop where
 pg:PySem.W.plainGet K C Str.empty=true
 hd:PySem.W.hasDictIn K C=true
 po:PySem.W.plainOver K C=true
 sa:PySem.W.findIn K (.ref C) "__setattr__" = some (some (.builtin "object.__setattr__"))
theorem Cls.get {K:PySem.W.Frag} {C:Addr} (c:Cls K C) (f:Str):PySem.W.plainGet K C f=true:=c.pg
def gH (K:PySem.W.Frag) (C:Addr) (f:Str):Prop:=PySem.W.findIn K (.ref C) f=some none
theorem gH.taker {K:PySem.W.Frag} {C:Addr} {f:Str} (n:gH K C f):PySem.W.takerIn K C f=some none:=by
 unfold PySem.W.takerIn;rw [show PySem.W.findIn K (.ref C) f=some none from n];rfl
structure Meth (K:PySem.W.Frag) (C:Addr) (m:Str) (f:Addr):Prop where
 at_:PySem.W.findIn K (.ref C) m=some (some (.ref f))
 fn:PySem.W.isFn K (.ref f)=true
 kp:PySem.W.keepIn K (.ref f)=true
section
variable {X:Cx} {pins:List (Addr×Obj)} {σ:St} {H:Hp} {s:Shared} {a C dx:Addr} {fs:List (Str×V)} {f:Str} {v:V} {A:Around} {E:Value->Shared->Prop}
theorem wu {b:Bool} {Q:Value->Shared->Prop} (I:Inv X pins σ H s) (e:H a=some (.ins C dx fs)) (c:Cls X.K C) (n:gH X.K C f) (l:fs.lookup f=some v)
 (h:∀u s',Inv X pins σ H s'->RelV v u->Q u s'):wpAny (model X.prog X.w) A (getAttr (.ref a) f b) Q E s:=by
 obtain ⟨mA,O,r,_,_,_⟩:=eG I.hok e;obtain ⟨u,hu,ru⟩:=xU.some_of (v:=v) (o:=mA f) (by rw [←l];exact r f);exact get_map I.pA O (c.get f) c.hd n hu (HS ru) (h u _ (I.tok _) ru)
theorem qe {m:Str} {g:Addr} {pl:Sem Bool} {Q:Value×List Value->Shared->Prop} (I:Inv X pins σ H s) (e:H a=some (.ins C dx fs)) (c:Cls X.K C) (k:Meth X.K C m g) (l:fs.lookup m=none)
 (h:Q (.ref g,[.ref a]) s):wpAny (model X.prog X.w) A (getMethod (.ref a) m pl) Q E s:=by
 obtain ⟨mA,O,r,_,_,_⟩:=eG I.hok e;have hn:mA m=none:=xU.none_of (by rw [←l];exact r m);exact K6 I.pA O (c.get m) k.at_ k.fn hn h
theorem vG {y:V} {u:Value} {Q:Unit->Shared->Prop} (I:Inv X pins σ H s) (e:H a=some (.ins C dx fs)) (c:Cls X.K C) (n:gH X.K C f) (hl:fs.length<1000) (ry:RelV y u)
 (h:∀s',Inv X pins σ (upd H a (.ins C dx (dg f y fs))) s'->Q () s'):wpAny (model X.prog X.w) A (setAttr (.ref a) f u) Q E s:=by
 obtain ⟨mA,O,r,wi,_,ho⟩:=eG I.hok e;have hz:(fs.map (·.1)).length<=sizeLine:=by rw [List.length_map,sizeLine_eq];omega
 refine MP I.pA O c.sa c.po n.taker c.hd wi hz fun h' O' sb=>h _ ?_;have hd:∃o,h'.get? dx=some o:=let ⟨o,_,_,e',_⟩:=O'.ns;⟨o,e'⟩
 refine I.write (x:=a) (e:=dx) (by rw [e];exact True.intro) (.inr ho) (fun b q hb z=>(sb.2 b hb).trans z) hd ?_;refine ⟨by rw [aG O.ne];exact ho, ?_,O.ne,O'.obj,_,O'.ns,fun g=> ?_,fun g hg=> ?_⟩
 ·have:=t_ f y fs;omega
 ·show xU ((dg f y fs).lookup g) (if g=f then some u else mA g)
  rw [tZ]
  by_cases q:g=f
  ·rw [if_pos q,if_pos q];exact ry
  ·rw [if_neg q,if_neg q];exact r g
 ·by_cases q:g=f
  ·rw [q];exact (sS f y fs).1
  ·refine (sS f y fs).2 g (wi g fun z=>hg ?_)
   show (if g=f then some u else mA g)=none;rw [if_neg q];exact z
theorem Inv.made (I:Inv X pins σ H s):Inv X pins σ (upd (upd H s.heap.objs.size (.own (s.heap.objs.size+1))) (s.heap.objs.size+1) (.ins C s.heap.objs.size []))
 {s with heap:=(s.heap.push PySem.W.emptyDict).push (PySem.W.instObj C s.heap.objs.size)}:=by
 have e1:(s.heap.push PySem.W.emptyDict).get? s.heap.objs.size=some PySem.W.emptyDict:=Heap.get?_push_size s.heap rfl
 have e2:((s.heap.push PySem.W.emptyDict).push (PySem.W.instObj C s.heap.objs.size)).get? (s.heap.objs.size+1)=some (PySem.W.instObj C s.heap.objs.size):=by
  have:=Heap.get?_push_size (s.heap.push PySem.W.emptyDict) (o:=PySem.W.instObj C s.heap.objs.size) rfl;rwa [Heap.size_push] at this
 have e3:(s.heap.push PySem.W.emptyDict).Ns s.heap.objs.size (fun _=>none):=⟨PySem.W.emptyDict, #[],_,e1,rfl,(fun e he=>absurd he (by simp)),fun _=>rfl⟩;have I1:=I.laid (a:=s.heap.objs.size) (o:= .own (s.heap.objs.size+1)) (h':=s.heap.push PySem.W.emptyDict) (t':=s.toks) (fun b u q=>Heap.get?_push_of_some _ q) (Nat.le_refl _) ⟨_,e1⟩;refine I1.laid (a:=s.heap.objs.size+1) (o:= .ins C s.heap.objs.size []) (t':=s.toks) (fun b u q=>Heap.get?_push_of_some _ q) (Nat.le_of_eq (Heap.size_push _ _)) ?_;have ne:s.heap.objs.size≠s.heap.objs.size+1:=Nat.ne_of_lt (Nat.lt_succ_self _);refine ⟨by rw [aG ne,ak],Nat.zero_le _,ne,e2,fun _=>none,(Heap.Ns1.of_empty e3).at fun o q=>Heap.get?_push_of_some _ q,fun _=>True.intro,fun y hy=>absurd rfl hy⟩
theorem Py {prog:Program} {w:World} {env:Env} {e:Expr} {f:Str} {pos:Pos} {s:Shared} {Q:Value->Shared->Prop} (hb:attributeBase e f env (eval e env)=eval e env)
 (h:wpAny (model prog w) A (eval e env) (fun o s₁=>wpAny (model prog w) A (getAttr o f true) Q E s₁) E s):wpAny (model prog w) A (eval (.Attribute e f pos) env) Q E s:=
 Attribute_any_ h (by rw [arm_eval_Attribute,hb])
end
def Vj (K:PySem.W.Frag) (ta:TE) (f:Str):TE:=fun σ H Q=>ta σ H fun x H1=>∃a C dx fs v,x = .ref a/\H1 a=some (.ins C dx fs)/\Cls K C/\gH K C f/\fs.lookup f=some v/\Q v H1
def Vs (K:PySem.W.Frag) (ta tv:TE) (f:Str):TS:=fun D σ H=>tv σ H fun y H1=>ta σ H1 fun x H2=>∃a C dx fs,x = .ref a/\H2 a=some (.ins C dx fs)/\Cls K C/\gH K C f/\fs.length<1000 /\
 D.nx σ (upd H2 a (.ins C dx (dg f y fs)))
def Yr (X:Cx) (op:Operator) (rd:V->V->Hp->VK->Prop):Prop:=
 ∀(pins:List (Addr×Obj)) (s:Shared) (σ:St) (H:Hp) (x y:V) (u v:Value) (Q:VK),Inv X pins σ H s->RelV x u->RelV y v->rd x y H Q->wpAny (model X.prog X.w) X.A (inplaceOp op u v) (EP X pins σ Q) X.xe s
def Fx (K:PySem.W.Frag) (ta tv:TE) (rd:V->V->Hp->VK->Prop) (f:Str):TS:=fun D σ H=>ta σ H fun x H1=>∃a C dx fs v,x = .ref a/\H1 a=some (.ins C dx fs)/\Cls K C/\gH K C f/\fs.lookup f=some v /\
 tv σ H1 fun y H2=>rd v y H2 fun z H3=>∃Tn fs',H3 a=some (.ins C Tn fs')/\fs'.length<1000/\D.nx σ (upd H3 a (.ins C Tn (dg f z fs')))
section
variable {X:Cx} {o e value:Expr} {f:Str} {pos pos' tpos:Pos} {ta tv:TE}
theorem Rp (he:PE X e ta) (hb:attributeBase e f X.env (eval e X.env)=eval e X.env):PE X (.Attribute e f pos) (Vj X.K ta f):=by
 intro pins s σ H Q I h;refine Py hb (dZ (he pins s σ H _ I h) fun u s1 ⟨x,H1,I1,rx,a,C,dx,fs,v,ex,ea,c,n,l,q⟩=> ?_);subst ex;obtain rfl:u=Value.ref a:=rx;exact wu I1 ea c n l fun u' s2 I2 ru=>⟨v,H1,I2,ru,q⟩
theorem Rh (ha:PE X o ta) (hv:PE X value tv) (hs:swapsWith value (some (.Attribute o f pos')) pos.line X.env=pure false):PS X (.Assign [.Attribute o f pos'] value pos) (Vs X.K ta tv f):=by
 intro pins s σ H D I h;refine plainObj_wpAny_Assign_Attribute (dZ (hv pins s σ H _ I h) fun u s1 ⟨y,H1,I1,ry,q⟩=>dZ (ha pins s1 σ H1 _ I1 q) fun ov s2 ⟨x,H2,I2,rx,a,C,dx,fs,ex,ea,c,n,l,q2⟩=> ?_) hs;subst ex;obtain rfl:ov=Value.ref a:=rx;exact vG I2 ea c n l ry fun s3 I3=>⟨σ,_,I3,q2⟩
theorem G_ {op:Operator} {rd:V->V->Hp->VK->Prop} (ha:PE X o ta) (hv:PE X value tv) (hop:Yr X op rd):PS X (.AugAssign (.Attribute o f tpos) op value pos) (Fx X.K ta tv rd f):=by
 intro pins s σ H D I h;refine wpAny_AugAssign_AttributeAny (dZ (ha pins s σ H _ I h) fun ov s1 ⟨x,H1,I1,rx,a,C,dx,fs,v,ex,ea,c,n,l,q⟩=> ?_);subst ex;obtain rfl:ov=Value.ref a:=rx;refine wu I1 ea c n l fun u s2 I2 ru=>dZ (hv pins s2 σ H1 _ I2 q) fun w3 s3 ⟨y,H2,I3,ry,q3⟩=>dZ (hop pins s3 σ H2 v y u w3 _ I3 ru ry q3) fun w4 s4 ⟨z,H3,I4,rz,Tn,fs',ea',l',q4⟩=> ?_;exact vG I4 ea' c n l' rz fun s5 I5=>⟨σ,_,I5,q4⟩
end
section
variable {X:Cx} {pins:List (Addr×Obj)} {σ:St} {H:Hp} {s:Shared} {A:Around} {E:Value->Shared->Prop} {Q:Value->Shared->Prop} {c:Value} {b:Bool}
inductive jk (K:PySem.W.Frag) (H:Hp):V->Value->Prop where
 | non:jk K H .non (.type "NoneType")
 | bl (x:Bool):jk K H (.bl x) (.type "bool")
 | int (i:Int):jk K H (.int i) (.type "int")
 | str (x:Str):jk K H (.str x) (.type "str")
 | flt (x:UInt64):jk K H (.flt x) (.type "float")
 | lst {a:Addr} {xs:List V} (e:H a=some (.lst xs)):jk K H (.ref a) (.type "list")
 | xJ {a:Addr} {o:Obj} {xs:List V} (e:H a=some (.xJ o (.lst xs))):jk K H (.ref a) (.type "list")
 | tup {a:Addr} {xs:List V} (e:H a=some (.tup xs)):jk K H (.ref a) (.type "tuple")
 | dK {a:Addr} {kvs:List (Key×V)} (e:H a=some (.dK kvs)):jk K H (.ref a) (.type "dict")
 | dT {a:Addr} {kvs:List (List Key×V)} (e:H a=some (.dT kvs)):jk K H (.ref a) (.type "dict")
 | ins {a C dx:Addr} {fs:List (Str×V)} (e:H a=some (.ins C dx fs)) (cl:Cls K C) (ha:PySem.W.findIn K (.ref C) "__class__" = some (some (.builtin "object.__class__")))
    (hn:PySem.W.specialIn K (.builtin "object.__class__") "__get__" = some (some (.builtin "getset_descriptor.__get__"))) (htk:PySem.W.takesIn K (.builtin "object.__class__")=some true)
    (hm:PySem.W.mroIn K C (.type "object")=some true):jk K H (.ref a) (.ref C)
theorem HB {x:V} {u t:Value} (I:Inv X pins σ H s) (rx:RelV x u) (ty:jk X.K H x t) (e:PySem.W.kitOne X.K t c=some b) (h:∀tk,Q (.bool b) {s with toks:=tk}):
 wpAny (model X.prog X.w) A (call (.builtin "isinstance") [u,c]) Q E s:=by
 cases ty with
 | non=>cases (show u=Value.none from rx);exact PySem.W.kia_one PySem.W.kitx_none I.pA True.intro e (fun z=>nomatch z) h
 | bl y=>cases (show u=Value.bool y from rx);exact PySem.W.kia_one PySem.W.kitx_bool I.pA True.intro e (fun z=>nomatch z) h
 | int i=>obtain ⟨t,q⟩:=(show ∃t,u=Value.int i t from rx);cases q;exact PySem.W.kia_one PySem.W.kitx_int I.pA True.intro e (fun z=>nomatch z) h
 | str y=>obtain ⟨t,q⟩:=(show ∃t,u=Value.str y t from rx);cases q;exact PySem.W.kia_one PySem.W.kitx_str I.pA True.intro e (fun z=>nomatch z) h
 | flt y=>obtain ⟨t,q⟩:=(show ∃t,u=Value.float y t from rx);cases q;exact PySem.W.kia_one PySem.W.kitx_float I.pA True.intro e (fun z=>nomatch z) h
 | @lst a xs ea=>
   cases (show u=Value.ref a from rx);obtain ⟨_,_,n,_,h1⟩:=(show eY X.prog X.w H s.heap a (.lst xs) from I.hok a _ ea);exact PySem.W.kia_one PySem.W.kitx_list I.pA ⟨_,h1,rfl⟩ e (fun z=>nomatch z) h
 | @xJ a ob xs ea=>
   cases (show u=Value.ref a from rx);obtain ⟨_,_,_,n,_,h1⟩:=(show eY X.prog X.w H s.heap a (.xJ ob (.lst xs)) from I.hok a _ ea);exact PySem.W.kia_one PySem.W.kitx_list I.pA ⟨_,h1,rfl⟩ e (fun z=>nomatch z) h
 | @tup a xs ea=>
   cases (show u=Value.ref a from rx);obtain ⟨_,_,_,p⟩:=(show eY X.prog X.w H s.heap a (.tup xs) from I.hok a _ ea);obtain ⟨o,h1,h2,_⟩:=p;exact PySem.W.kia_one PySem.W.kitx_tuple I.pA ⟨o,h1,h2⟩ e (fun z=>nomatch z) h
 | @dK a kvs ea=>
   cases (show u=Value.ref a from rx);obtain ⟨_,_,vs,_,p⟩:=(show eY X.prog X.w H s.heap a (.dK kvs) from I.hok a _ ea);obtain ⟨o,es,ep,h1,h2,_⟩:=p;exact PySem.W.kia_one PySem.W.kitx_dict I.pA ⟨o,h1,h2.1⟩ e (fun z=>nomatch z) h
 | @dT a kvs ea=>
   cases (show u=Value.ref a from rx);obtain ⟨_,_,xs,_,o,es,ep,h1,h2,_⟩:=(show eY X.prog X.w H s.heap a (.dT kvs) from I.hok a _ ea);exact PySem.W.kia_one PySem.W.kitx_dict I.pA ⟨o,h1,h2.1⟩ e (fun z=>nomatch z) h
 | @ins a C dx fs ea cl ha hn htk hm=>
   cases (show u=Value.ref a from rx);obtain ⟨mA,O,_⟩:=eG I.hok ea;obtain ⟨od,J,_⟩:=O.look;exact PySem.W.kia_one (PySem.W.kitx_own (cl.get _) cl.hd ha hn htk hm) I.pA J e (fun z=>nomatch z) h
end
end L2
namespace L2
open PySem PySem.Spec PyProof.Rows
structure cZ (k:Nat) (A:Around):Prop where
 hd:A.handled=none
 dp:A.depth+3*k+5<recursionLimit
 un:A.units+16*k+200<cLine
theorem cZ.mono {j k:Nat} {A:Around} (r:cZ k A) (h:j<=k):cZ j A:=⟨r.hd,by have:=r.dp;omega,by have:=r.un;omega⟩
theorem cZ.deeper {k:Nat} {A:Around} (r:cZ (k+1) A) (env:Env):cZ k (A.deeper env):=
 ⟨r.hd,by have:=r.dp;show A.depth+1+3*k+5<_;omega,by have:=r.un;show A.units+3+16*k+200<_;omega⟩
theorem cZ.in1 {k:Nat} {A:Around} (r:cZ (k+1) A):cZ k A.in1:=
 ⟨r.hd,by have:=r.dp;show A.depth+3*k+5<_;omega,by have:=r.un;show A.units+1+16*k+200<_;omega⟩
theorem Ec {A:Around} {C:Addr} {us:List Value} {kw:List (Str×Value)}:(A.under (.builtin "type.__call__" ⟨.ref C::us,kw⟩)).depth=A.depth+1:=by
 first |rfl|simp [Around.under,Code.weight,Code.isCreation,Code.isGuard,Code.isCaller,Code.frames,Code.isFrame,guardIds]
theorem Eb {A:Around} {C:Addr} {us:List Value} {kw:List (Str×Value)}:(A.under (.builtin "type.__call__" ⟨.ref C::us,kw⟩)).units=A.units+1:=by
 first |rfl|simp [Around.under,Code.cUnits,Code.frames,Code.isFrame]
theorem cZ.make {k:Nat} {A:Around} (r:cZ (k+1) A) (C:Addr) (us:List Value) (kw:List (Str×Value)):cZ k (A.under (.builtin "type.__call__" ⟨.ref C::us,kw⟩)):=
 ⟨r.hd,by have:=r.dp;rw [Ec];omega,by have:=r.un;rw [Eb];omega⟩
theorem cZ.depth {k:Nat} {A:Around} (r:cZ k A):A.depth<recursionLimit:=by have:=r.dp;omega
theorem cZ.units {k:Nat} {A:Around} (r:cZ k A):A.units+64<cLine:=by have:=r.un;omega
theorem cZ.QD {k:Nat} {A:Around} (r:cZ k A):A.units<cLine:=by have:=r.un;omega
def xq:TA:=fun _ H Q=>Q [] H
def jr (ta:TE) (tr:TA):TA:=fun σ H Q=>ta σ H fun x H1=>tr σ H1 fun xs H2=>Q (x::xs) H2
section
variable {X:Cx} {e:Expr} {es:List Expr} {te:TE} {t:TA} {pos:Pos}
theorem au:PA X [] xq:=fun _ _ _ _ H Q I h=>Calls.spliced_nil ⟨[],H,I,.nil,h⟩
theorem aj (ha:PE X e te) (hr:PA X es t) (hs:starEach (e::es) X.env=(false,eval e X.env)::starEach es X.env:=by rfl):PA X (e::es) (jr te t):=by
 intro pos pins s σ H Q I h;rw [hs];show wpAny _ _ (spliced ((false,eval e X.env)::backTo pos (starEach es X.env))) _ _ s;refine Calls.spliced_cons (dZ (ha pins s σ H _ I h) fun u s1 ⟨x,H1,I1,r1,q1⟩=> ?_);exact dZ (hr pos pins s1 σ H1 _ I1 q1) fun us s2 ⟨xs,H2,I2,r2,q2⟩=>⟨x::xs,H2,I2,.cons r1 r2,q2⟩
def QM (t:TA):TE:=fun σ H Q=>t σ H fun xs H1=>xs.length<=sizeLine /\ ∀p,H1 p=none->Q (.ref p) (upd H1 p (.tup xs))
def Vg (t:TA):TE:=fun σ H Q=>t σ H fun xs H1=>xs.length<=sizeLine /\ ∀p,H1 p=none->Q (.ref p) (upd H1 p (.lst xs))
theorem bR {x1} (h:PA X es t):PE X (.Tuple es x1 pos) (QM t):=by
 intro pins s σ H Q I hq;refine wpAny_Tuple_spliced (dZ (h pos pins s σ H _ I hq) fun us s1 ⟨xs,H1,I1,r,z,q⟩=>⟨by rw [←r.length];exact z, ?_⟩);have hf:H1 s1.heap.objs.size=none:=I1.hok.fresh (Nat.le_refl _);refine ⟨.ref s1.heap.objs.size,upd H1 s1.heap.objs.size (.tup xs),I1.laid (t':=s1.toks) (fun b u e=>Heap.get?_push_of_some _ e) (Nat.le_refl _) ?_,rfl,q _ hf⟩;exact ⟨z,us,r,⟨_,Heap.get?_push_size _ rfl,rfl,_,rfl⟩⟩
theorem bZ (h:PA X es t):PE X (.List es pos) (Vg t):=by
 intro pins s σ H Q I hq;refine wpAny_List_spliced (dZ (h pos pins s σ H _ I hq) fun us s1 ⟨xs,H1,I1,r,z,q⟩=>⟨by rw [←r.length];exact z, ?_⟩);have hf:H1 s1.heap.objs.size=none:=I1.hok.fresh (Nat.le_refl _);refine ⟨.ref s1.heap.objs.size,upd H1 s1.heap.objs.size (.lst xs),I1.laid (t':=s1.toks) (fun b u e=>Heap.get?_push_of_some _ e) (Nat.le_refl _) ?_,rfl,q _ hf⟩;exact ⟨z,us,0,r,Heap.get?_push_size _ rfl⟩
end
abbrev Sp:=List V->Hp->VK->XK->Prop
abbrev Iv:=List Env->Hp->Shared->XK->Value->Shared->Prop
structure xX (P:Program) (w:World) (K:PySem.W.Frag) (mg:Str->Option Value) (base:Heap) (A:Around) (outer:List Env) (s:Shared) (H:Hp):Prop where
 frames:A.frames=some outer
 mod:Mod K mg base
 bs:∀b o,base.get? b=some o->s.heap.get? b=some o/\H b=none
 Ls:base.objs.size<=s.heap.objs.size
 qQ:s.heap.FunFrames base outer
 Qq:∀b∈frs outer,H b=none
 hok:rB P w H s.heap
 bare:AllBare s.gens
def CE (outer:List Env) (P:Program) (w:World) (H:Hp) (s:Shared) (Q:VK) (u:Value) (s':Shared):Prop:=
 ∃v H',s'.os=s.os/\AllBare s'.gens/\Un (frs outer) [] H H' s.heap s'.heap/\rB P w H' s'.heap/\RelV v u/\Q v H'
def CR (CX:Iv) (outer:List Env) (P:Program) (w:World) (H:Hp) (s:Shared) (Q:VK) (E:XK) (r:Result) (s':Shared):Prop:=
 match r with
 | .ok (.ret u)=>CE outer P w H s Q u s'
 | .ok _=>False
 | .error e=>CX outer H s E e s'
structure bV (P:Program) (w:World) (K:PySem.W.Frag) (mg:Str->Option Value) (base:Heap) (CX:Iv) (k:Nat) (f:Addr) (fd:FuncData) (ps:List Str) (sp:Sp):Prop where
 len:∀vs H Q E,sp vs H Q E->vs.length=ps.length
 run:∀(A:Around) (outer:List Env) (s:Shared) (H:Hp) (args:Args) (us:List Value) (vs:List V) (Q:VK) (E:XK),cZ k A->xX P w K mg base A outer s H->BindsTo s fd args (ps.zip us)->Vals vs us->sp vs H Q E ->
  codeAny (model P w) A (.call (.ref f) args) (CR CX outer P w H s Q E) s
theorem xX.make {P:Program} {w:World} {K:PySem.W.Frag} {mg:Str->Option Value} {base:Heap} {A:Around} {outer:List Env} {s:Shared} {H:Hp} (e:xX P w K mg base A outer s H) (C:Addr) (us:List Value) (kw:List (Str×Value)):
 xX P w K mg base (A.under (.builtin "type.__call__" ⟨.ref C::us,kw⟩)) outer s H:=⟨by first |exact e.frames|(simpa [Around.under,Code.envs,Code.isFrame,pushEnvs] using e.frames),e.mod,e.bs,e.Ls,e.qQ,e.Qq,e.hok,e.bare⟩
theorem xX.in1 {P:Program} {w:World} {K:PySem.W.Frag} {mg:Str->Option Value} {base:Heap} {A:Around} {outer:List Env} {s:Shared} {H:Hp} (e:xX P w K mg base A outer s H):
 xX P w K mg base A.in1 outer s H:=⟨e.frames,e.mod,e.bs,e.Ls,e.qQ,e.Qq,e.hok,e.bare⟩
section
variable {X:Cx} {pins:List (Addr×Obj)} {σ:St} {H:Hp} {s s':Shared}
theorem Inv.env0 (I:Inv X pins σ H s):xX X.prog X.w X.K X.mg X.base X.A X.stack s H:=
 ⟨I.ok.frames,I.ok.mod,I.bs,Nat.le_trans I.ok.Ls I.sz,I.stack,I.yM,I.hok,I.bare⟩
theorem Inv.after {Q:VK} {u:Value} (I:Inv X pins σ H s) (h:CE X.stack X.prog X.w H s Q u s'):EP X pins σ Q u s':=by
 obtain ⟨v,H',os,bare,un,hok,r,q⟩:=h;obtain ⟨hh,g,d,t,os'⟩:=s';obtain rfl:os'=s.os:=os;exact ⟨v,H',I.call (h':=hh) (g':=g) (d':=d) (t':=t) (ch:=[]) un hok bare (fun b z=>absurd z (by simp)),r,q⟩
end
def Js (sp:Sp) (pG:List V) (E:XK) (t:TA):TE:=fun σ H Q=>t σ H fun vs H1=>sp (vs++pG) H1 Q E
def Fq (C:Addr) (m:Str) (sp:Sp) (pG:List V) (E:XK) (ta:TE) (t:TA):TE:=fun σ H Q=>ta σ H fun x H1=>∃a dx fs,x = .ref a/\H1 a=some (.ins C dx fs)/\fs.lookup m=none /\
 t σ H1 fun vs H2=>sp (x::(vs++pG)) H2 Q E
def Qf (C:Addr) (sp:Sp) (pG:List V) (E:XK) (t:TA):TE:=fun σ H Q=>t σ H fun vs H1=>∀x dx,H1 x=none->H1 dx=none->dx≠x ->
 sp (.ref x::(vs++pG)) (upd (upd H1 dx (.own x)) x (.ins C dx [])) (fun v H2=>v = .non/\Q (.ref x) H2) E
def Binds (K:PySem.W.Frag) (fd:FuncData) (ps:List Str) (ds:List Value):Prop:=
 ∀(s:Shared) (us:List Value),K.In s.heap->(us++ds).length=ps.length->BindsTo s fd ⟨us,[]⟩ (ps.zip (us++ds))
theorem Binds.all {K:PySem.W.Frag} {fd:FuncData} {ps:List Str} (h:∀us:List Value,us.length=ps.length->bindArgs fd ⟨us,[]⟩=pure (ps.zip us)):Binds K fd ps []:=fun s us _ hl=>by
 rw [List.append_nil] at hl ⊢;exact .of_eq (h us hl)
def Passes (CX:Iv) (X:Cx) (E:XK):Prop:=∀(pins:List (Addr×Obj)) (σ:St) (H:Hp) (s:Shared) (e:Value) (s':Shared),Inv X pins σ H s->CX X.stack H s E e s'->X.xe e s'
section
variable {X:Cx} {CX:Iv} {k:Nat} {f C:Addr} {fd:FuncData} {ps:List Str} {sp:Sp} {pG:List V} {ds:List Value} {E:XK} {x m:Str} {p pos apos:Pos} {e o:Expr} {es:List Expr} {ta:TE} {t:TA}
theorem zp {pins:List (Addr×Obj)} {σ:St} {H:Hp} {s:Shared} {Q:VK} {us:List Value} {vs:List V} (F:bV X.prog X.w X.K X.mg X.base CX k f fd ps sp) (hr:cZ k X.A) (hb:Binds X.K fd ps ds) (hd:Vals pG ds) (hx:Passes CX X E)
 (I:Inv X pins σ H s) (r:Vals vs us) (h:sp (vs++pG) H Q E):wpAny (model X.prog X.w) X.A (call (.ref f) us) (EP X pins σ Q) X.xe s:=by
 have r2:Vals (vs++pG) (us++ds):=r.append hd;have hl:(us++ds).length=ps.length:=by rw [←r2.length];exact F.len _ _ _ _ h
 refine wpAny_call (codeAny_mono (F.run X.A X.stack s H ⟨us,[]⟩ (us++ds) (vs++pG) Q E hr I.env0 (hb s us I.pA hl) r2 h) fun r s' hq=> ?_);cases r with
 | error e=>exact hx pins σ H s e s' I hq
 | ok fl=>
   cases fl with
   | ret u=>exact I.after hq
   | next=>exact False.elim hq
   | brk=>exact False.elim hq
   | cont=>exact False.elim hq
theorem Nt (F:bV X.prog X.w X.K X.mg X.base CX k f fd ps sp) (hr:cZ k X.A) (hg:Gl X x) (hm:X.mg x=some (.ref f)) (hk:PySem.W.keepIn X.K (.ref f)=true) (hb:Binds X.K fd ps ds) (hd:Vals pG ds) (hx:Passes CX X E)
 (ha:PA X (e::es) t) (hdb:(x==("__debug__" :Str))=false:=by decide) (he:starEach (e::es) X.env=(false,eval e X.env)::starEach es X.env:=by rfl) (hpl:(backTo pos (starEach es X.env)).any (·.1)=false:=by rfl):
 PE X (.Call (.Name x p) (e::es) [] pos) (Js sp pG E t):=by
 intro pins s σ H Q I h;refine wpAny_Call_Name_kw (oX I hg hm ?_ hdb);refine PySem.W.callWith_K (h₀:=X.base) I.ok.mod.CQ hk (dZ (ha pos pins s σ H _ I h) fun us s1 ⟨vs,H1,I1,r,q⟩=>⟨I1.pA, ?_⟩) he hpl;exact zp F hr hb hd hx I1 r q
theorem Nq {pl:Sem Bool} (he:PE X o ta) (c:Cls X.K C) (hm:Meth X.K C m f) (F:bV X.prog X.w X.K X.mg X.base CX k f fd ps sp) (hr:cZ k X.A) (hb:Binds X.K fd ps ds) (hd:Vals pG ds) (hx:Passes CX X E) (ha:PA X (e::es) t)
 (hst:starEach (e::es) X.env=(false,eval e X.env)::starEach es X.env:=by rfl) (hpl:(backTo pos (starEach es X.env)).any (·.1)=false:=by rfl)
 (ht:eval (.Call (.Attribute o m apos) (e::es) [] pos) X.env=(do
   let ov ←eval o X.env
   standAt apos.atName
   let (f,first) ←holding [ov] (getMethod ov m pl)
   callWith pos f first (backTo pos (starEach (e::es) X.env)) (backToKw pos (keywordEach [] X.env))):=by rfl):
 PE X (.Call (.Attribute o m apos) (e::es) [] pos) (Fq C m sp pG E ta t):=by
 intro pins s σ H Q I h;refine PySem.W.methodCall_KW (pl:=pl) (dZ (he pins s σ H _ I h) fun u s1 ⟨x,H1,I1,rx,a,dx,fs,ex,ea,l,q⟩=> ?_) ht;subst ex;obtain rfl:u=Value.ref a:=rx;refine qe I1 ea c hm l ?_;refine PySem.W.callWith_K (first:=[.ref a]) (h₀:=X.base) I.ok.mod.CQ hm.kp (dZ (ha pos pins s1 σ H1 _ I1 q) fun us s2 ⟨vs,H2,I2,r,q2⟩=>⟨I2.pA, ?_⟩) hst hpl;exact zp (us:= .ref a::us) (vs:= .ref a::vs) F hr hb hd hx I2 (.cons rfl r) q2
theorem JH {pl:Sem Bool} (he:PE X o ta) (c:Cls X.K C) (hm:Meth X.K C m f) (F:bV X.prog X.w X.K X.mg X.base CX k f fd ps sp) (hr:cZ k X.A) (hb:Binds X.K fd ps ds) (hd:Vals pG ds) (hx:Passes CX X E)
 (ht:eval (.Call (.Attribute o m apos) [] [] pos) X.env=(do
   let ov ←eval o X.env
   standAt apos.atName
   let (f,first) ←holding [ov] (getMethod ov m pl)
   callWith pos f first (backTo pos (starEach [] X.env)) (backToKw pos (keywordEach [] X.env))):=by rfl):
 PE X (.Call (.Attribute o m apos) [] [] pos) (Fq C m sp pG E ta xq):=by
 intro pins s σ H Q I h;refine PySem.W.methodCall_KW (pl:=pl) (dZ (he pins s σ H _ I h) fun u s1 ⟨x,H1,I1,rx,a,dx,fs,ex,ea,l,q⟩=> ?_) ht;subst ex;obtain rfl:u=Value.ref a:=rx;refine qe I1 ea c hm l ?_;exact PySem.W.callWith_K0 (first:=[.ref a]) I1.pA hm.kp (zp (us:=[.ref a]) (vs:=[.ref a]) F hr hb hd hx I1 (.cons rfl .nil) q)
structure Mk (K:PySem.W.Frag) (C f:Addr):Prop where
 makes:PySem.W.makesIn K C=true
 init:PySem.W.findIn K (.ref C) "__init__" = some (some (.ref f))
 fn:PySem.W.isFn K (.ref f)=true
 kp:PySem.W.keepIn K (.ref C)=true
theorem Jy {pins:List (Addr×Obj)} {σ:St} {H:Hp} {s:Shared} {Q:VK} {us:List Value} {vs:List V} (M:Mk X.K C f) (F:bV X.prog X.w X.K X.mg X.base CX k f fd ps sp) (hr:cZ (k+1) X.A) (hb:Binds X.K fd ps ds) (hd:Vals pG ds)
 (hx:Passes CX X E) (I:Inv X pins σ H s) (r:Vals vs us)
 (h:∀x dx,H x=none->H dx=none->dx≠x->sp (.ref x::(vs++pG)) (upd (upd H dx (.own x)) x (.ins C dx [])) (fun v H2=>v = .non/\Q (.ref x) H2) E):
 wpAny (model X.prog X.w) X.A (call (.ref C) us) (EP X pins σ Q) X.xe s:=by
 have hq:=h (s.heap.objs.size+1) s.heap.objs.size (I.hok.fresh (Nat.le_succ _)) (I.hok.fresh (Nat.le_refl _)) (Nat.ne_of_lt (Nat.lt_succ_self _));have I2:=Inv.made (C:=C) I;have r2:Vals (V.ref (s.heap.objs.size+1)::(vs++pG)) (Value.ref (s.heap.objs.size+1)::(us++ds)):= .cons rfl (r.append hd)
 have hl:(Value.ref (s.heap.objs.size+1)::us++ds).length=ps.length:=by
  have e:=r2.length;rw [F.len _ _ _ _ hq] at e;exact e.symm
 refine wpAny_call (Bw (f:=f) I.pA M.makes M.init (beq_iff_eq.mp M.fn) (codeAny_mono (F.run _ X.stack _ _ ⟨Value.ref (s.heap.objs.size+1)::us,[]⟩ (Value.ref (s.heap.objs.size+1)::(us++ds)) _ _ E (hr.make C us [])
  (I2.env0.make C us []) (hb _ (Value.ref (s.heap.objs.size+1)::us) I2.pA hl) r2 hq) fun r s' hq'=> ?_))
 cases r with
 | error e=>exact hx pins σ _ _ e s' I2 hq'
 | ok fl=>
   cases fl with
   | ret u=>
     obtain ⟨v,H',I3,rv,ev,q3⟩:=I2.after hq';subst ev;exact ⟨rv,⟨V.ref (s.heap.objs.size+1),H',I3,rfl,q3⟩⟩
   | next=>exact False.elim hq'
   | brk=>exact False.elim hq'
   | cont=>exact False.elim hq'
theorem Nr (M:Mk X.K C f) (F:bV X.prog X.w X.K X.mg X.base CX k f fd ps sp) (hr:cZ (k+1) X.A) (hg:Gl X x) (hm:X.mg x=some (.ref C)) (hb:Binds X.K fd ps ds) (hd:Vals pG ds) (hx:Passes CX X E)
 (ha:PA X (e::es) t) (hdb:(x==("__debug__" :Str))=false:=by decide) (he:starEach (e::es) X.env=(false,eval e X.env)::starEach es X.env:=by rfl) (hpl:(backTo pos (starEach es X.env)).any (·.1)=false:=by rfl):
 PE X (.Call (.Name x p) (e::es) [] pos) (Qf C sp pG E t):=by
 intro pins s σ H Q I h;refine wpAny_Call_Name_kw (oX I hg hm ?_ hdb);refine PySem.W.callWith_K (h₀:=X.base) I.ok.mod.CQ M.kp (dZ (ha pos pins s σ H _ I h) fun us s1 ⟨vs,H1,I1,r,q⟩=>⟨I1.pA, ?_⟩) he hpl;exact Jy M F hr hb hd hx I1 r q
end
def PK (X:Cx) (kws:List Keyword) (t:TA):Prop:=
 ∀(pos:Pos) (pins:List (Addr×Obj)) (s:Shared) (σ:St) (H:Hp) (Q:List V->Hp->Prop),Inv X pins σ H s->t σ H Q->wpAny (model X.prog X.w) X.A (evalAll ((backToKw pos (keywordEach kws X.env)).map (·.2))) (AP X pins σ Q) X.xe s
section
variable {X:Cx} {CX:Iv} {k:Nat} {f C:Addr} {fd:FuncData} {ps ks:List Str} {sp:Sp} {E:XK} {x m:Str} {p pos apos kpos:Pos} {e o:Expr} {es:List Expr} {kws:List Keyword} {te ta:TE} {t tk:TA} {nm:Option Str}
theorem Rj:PK X [] xq:=fun _ _ _ _ H Q I h=>wpAny_evalAll_nil ⟨[],H,I,.nil,h⟩
theorem Nk (ha:PE X e te) (hr:PK X kws t):PK X (⟨nm,e,kpos⟩::kws) (jr te t):=by
 intro pos pins s σ H Q I h;show wpAny _ _ (evalAll ((do let v ←eval e X.env;standAt pos;pure v)::(backToKw pos (keywordEach kws X.env)).map (·.2))) _ _ s;refine wpAny_evalAll_cons (wpAny_bind (dZ (ha pins s σ H _ I h) fun u s1 ⟨x,H1,I1,r1,q1⟩=>wpAny_bind (wpAny_standAt (wpAny_pure ?_))));exact dZ (hr pos pins s1 σ H1 _ I1 q1) fun us s2 ⟨xs,H2,I2,r2,q2⟩=>⟨x::xs,H2,I2,.cons r1 r2,q2⟩
variable {g:List Value->List Value->List Value} {gV:List V->List V->List V}
end
structure bh (N P:List Str) (sc:Scope):Prop where
 kind:sc.kind = .function
 co:sc.isCoroutine=false
 gen:sc.isGenerator=false
 nd:N.Nodup
 pre:N.take P.length=P
 par:∀x∈P,sc.names.lookup x=some .local\/sc.names.lookup x=some .cell
 RV:∀y∈sc.names,y.2 ≠ .free
theorem yC {kindOf:Str->Option NameKind} {x:Str}:∀{binds:List (Str×Value)} {m:Str->Option Value},(∀v,(x,v)∉binds)->bindL kindOf binds m x=m x
 | [],_,_=>rfl
 | (n,v)::r,m,h=>by
   unfold bindL;rw [yC fun w hw=>h w (List.mem_cons_of_mem _ hw)];split
   ·have:x≠n:=by rintro rfl;exact h v List.mem_cons_self
    simp [this]
   ·rfl
theorem yE {kindOf:Str->Option NameKind} {x:Str}:∀{binds:List (Str×Value)} {m:Str->Option Value},(∀v,(x,v)∉binds)->bindC kindOf binds m x=m x
 | [],_,_=>rfl
 | (n,v)::r,m,h=>by
   unfold bindC;rw [yE fun w hw=>h w (List.mem_cons_of_mem _ hw)];split
   ·rfl
   ·have:x≠n:=by rintro rfl;exact h v List.mem_cons_self
    simp [this]
theorem yD {kindOf:Str->Option NameKind} {x:Str} {v:Value}:∀{P:List Str} {vs:List Value} {i:Nat} {m:Str->Option Value},P.Nodup->P[i]? = some x->vs[i]? = some v->kindOf x=some .local ->
 bindL kindOf (P.zip vs) m x=some v
 | [],_,_,_,_,h,_,_=>by simp at h
 | _::_,[],_,_,_,_,h,_=>by simp at h
 | p::P,w::vs,0,m,nd,h1,h2,hk=>by
   simp at h1 h2;subst h1;subst h2;show bindL kindOf ((p,w)::P.zip vs) m p=_;unfold bindL;rw [yC fun v hv=>(List.nodup_cons.mp nd).1 (List.of_mem_zip hv).1,if_pos hk];simp
 | p::P,w::vs,i+1,m,nd,h1,h2,hk=>by
   show bindL kindOf ((p,w)::P.zip vs) m x=_;unfold bindL;exact yD (i:=i) (List.nodup_cons.mp nd).2 (by simpa using h1) (by simpa using h2) hk
theorem yF {kindOf:Str->Option NameKind} {x:Str} {v:Value}:∀{P:List Str} {vs:List Value} {i:Nat} {m:Str->Option Value},P.Nodup->P[i]? = some x->vs[i]? = some v->kindOf x≠some .local ->
 bindC kindOf (P.zip vs) m x=some v
 | [],_,_,_,_,h,_,_=>by simp at h
 | _::_,[],_,_,_,_,h,_=>by simp at h
 | p::P,w::vs,0,m,nd,h1,h2,hk=>by
   simp at h1 h2;subst h1;subst h2;show bindC kindOf ((p,w)::P.zip vs) m p=_;unfold bindC;rw [yE fun v hv=>(List.nodup_cons.mp nd).1 (List.of_mem_zip hv).1,if_neg hk];simp
 | p::P,w::vs,i+1,m,nd,h1,h2,hk=>by
   show bindC kindOf ((p,w)::P.zip vs) m x=_;unfold bindC;exact yF (i:=i) (List.nodup_cons.mp nd).2 (by simpa using h1) (by simpa using h2) hk
def start (N:List Str) (vs:List V):St:=vs.map some++List.replicate (N.length - vs.length) none
def mY (CX:Iv) (P:Program) (w:World) (K:PySem.W.Frag) (mg:Str->Option Value) (base:Heap) (N:List Str) (qual:Str) (scope:Scope) (f:Addr) (cd:Value) (A:Around) (outer:List Env) (s:Shared) (H:Hp) (E:XK):Cx where
 prog:=P
 w:=w
 K:=K
 mg:=mg
 base:=base
 A:=A.deeper (envOfC qual scope s.heap.objs.size f cd)
 N:=N
 s₀:=s
 H₀:=H
 env:=envOfC qual scope s.heap.objs.size f cd
 outer:=outer
 stack:=envOfC qual scope s.heap.objs.size f cd::outer
 ex:=[]
 calm:=true
 fn:=fun _=>true
 pn:=[]
 xe:=fun e s'=>wpAny (model P w) (A.deeper (envOfC qual scope s.heap.objs.size f cd)) (leaving (envOfC qual scope s.heap.objs.size f cd) e) (fun _ s''=>CX outer H s E e s'') (fun e' s''=>CX outer H s E e' s'') s'
theorem B_ {sc:Scope} {n:Nat} {x:Str} (h:sc.names.lookup x=some .cell):∃c,(cellsFrom n sc.names []).lookup x=some c:=by
 have q:=PySem.W.cellsFrom_some sc.names n [] (.inl h);exact Option.isSome_iff_exists.mp q
theorem HD {CX:Iv} {P:Program} {w:World} {K:PySem.W.Frag} {mg:Str->Option Value} {base:Heap} {N ps:List Str} {qual:Str} {scope:Scope} {f:Addr} {cd:Value} {A:Around} {outer:List Env} {s s1:Shared} {H:Hp} {E:XK} {us:List Value} {vs:List V}
 (S:bh N ps scope) (hd:A.handled=none) (e0:xX P w K mg base A outer s H) (hl:vs.length=ps.length) (r:Vals vs us)
 (x:InCallC s s.heap.objs.size (bindL (envOfC qual scope s.heap.objs.size f cd).kindOf (ps.zip us) fun _=>none) (cellsFrom (s.heap.objs.size+1) scope.names []) (bindC (envOfC qual scope s.heap.objs.size f cd).kindOf (ps.zip us) fun _=>none) s1):
 Inv (mY CX P w K mg base N qual scope f cd A outer s H E) [] (start N vs) H s1:=by
 have hpl:ps.length<=N.length:=by have:=congrArg List.length S.pre;rw [List.length_take] at this;omega
 obtain ⟨h1,tk,rfl,hk⟩:=x.done;have V2:∀b:Addr,b∉(mY CX P w K mg base N qual scope f cd A outer s H E).ex:=fun b z=>absurd (show b∈([]:List Addr) from z) (by simp)
 refine ⟨⟨e0.mod,S.kind,rfl,rfl,Nat.le_refl _,fun y z c h1 h2=> ?_,fun y hy=> ?_,fun y c _ h=> ?_,fun _=>hd,Around.frames_deeper e0.frames,.inr ⟨rfl,rfl⟩,fun b z=>absurd z (V2 b),e0.bs,e0.Ls,fun b _ _=>V2 b,fun b z=>absurd z (V2 b),e0.qQ,e0.Qq⟩,
  rfl,e0.bare,Un.kept hk,⟨_,x.toInCall.ns,fun i y v h1 h2 h3=> ?_⟩,fun y c h=>⟨_,x.cell y c h⟩,e0.hok.fresh (Nat.le_refl _),fun y c h=> ?_,fun p hp=>absurd (show p∈([]:List (Addr×Obj)) from hp) (by simp),e0.hok.kept hk, ?_⟩
 ·exact name_of_addr x.apart (PySem.mem_of_lookup h1) (PySem.mem_of_lookup h2)
 ·have hy:scope.names.lookup y=some .cell\/scope.names.lookup y=some .free:=hy
  rcases hy with hy|hy
  ·exact B_ hy
  ·exact absurd rfl (S.RV _ (PySem.mem_of_lookup hy))
 ·exact Nat.le_of_lt (x.above y c (PySem.mem_of_lookup h))
 ·have hi:i<vs.length:=by
   unfold start at h2
   by_cases hi:i<vs.length
   ·exact hi
   ·rw [List.getElem?_append_right (by simpa using hi)] at h2
    rw [List.getElem?_replicate] at h2;split at h2<;>cases h2
  have ha:vs[i]? = some v:=by
   unfold start at h2;rw [List.getElem?_append_left (by simpa using hi),List.getElem?_map] at h2;cases e:vs[i]? with
   | none=>rw [e] at h2;cases h2
   | some a=>rw [e] at h2;cases h2;rfl
  obtain ⟨u,hu,rv⟩:=r.get ha
  have hp:ps[i]? = some y:=by
   rw [←S.pre,List.getElem?_take_of_lt (by omega)];exact h1
  have ndP:ps.Nodup:=by rw [←S.pre];exact S.nd.sublist (List.take_sublist _ _)
  refine ⟨u,rv, ?_⟩;rcases S.par y (List.mem_of_getElem? hp) with k|k
  ·exact .inl ⟨k,yD ndP hp hu k⟩
  ·obtain ⟨c,e⟩:=B_ (n:=s.heap.objs.size+1) k
   refine .inr ⟨.inl k,c,e, ?_⟩;have q:=x.cell y c e;rw [yF ndP hp hu (by show scope.names.lookup y≠_;rw [k];decide)] at q;exact q
 ·exact e0.hok.fresh (Nat.le_of_lt (x.above y c (PySem.mem_of_lookup h)))
 ·unfold start
  show _=N.length;rw [List.length_append,List.length_map,List.length_replicate];omega
theorem K7 {CX:Iv} {P:Program} {w:World} {K:PySem.W.Frag} {mg:Str->Option Value} {base:Heap} {k:Nat} {f:Addr} {name qual:Str} {params:Arguments} {body:List Stmt} {scope:Scope} {dV kV doc pm cdv ct oc:Value} {an od:Option Addr}
 {osl:Array (Option Value)} {N ps:List Str} {sp:Sp} (lk:K.lookup f=some ⟨oc,od,.func (PySem.W.fnOf name qual params body scope dV kV doc pm an cdv ct),osl⟩) (hcd:PySem.W.codeIn K cdv qual=true) (S:bh N ps scope)
 (len:∀vs H Q E,sp vs H Q E->vs.length=ps.length)
 (hbody:∀(A:Around) (outer:List Env) (s:Shared) (H:Hp) (vs:List V) (Q:VK) (E:XK),cZ k (A.deeper (envOfC qual scope s.heap.objs.size f cdv))->sp vs H Q E ->
   ∃t,Eu (mY CX P w K mg base N qual scope f cdv A outer s H E) body t/\t {nx:=fun _ H'=>Q .non H',rt:=Q} (start N vs) H):
 bV P w K mg base CX (k+1) f (PySem.W.fnOf name qual params body scope dV kV doc pm an cdv ct) ps sp:=by
 refine ⟨len,fun A outer s H args us vs Q E hr e0 hb r hsp=> ?_⟩;have hl:=len _ _ _ _ hsp;have KX:K.In s.heap:=e0.mod.CQ.keeps fun b o e=>(e0.bs b o e).1;have lim:s.heap.NoLimit:=e0.mod.nolimit.keeps fun b o e=>(e0.bs b o e).1
 have hkind:∀y∈ps.zip us,scope.names.lookup y.1=some .local\/(scope.names.lookup y.1=some .cell/\((cellsFrom (s.heap.objs.size+1) scope.names []).lookup y.1).isSome=true):=fun ⟨n,v⟩ hy=>by
  rcases S.par n (List.of_mem_zip hy).1 with q|q
  ·exact .inl q
  ·exact .inr ⟨q,PySem.W.cellsFrom_some _ _ _ (.inl q)⟩
 refine codeAny_call_function hr.depth (KX _ _ lk) rfl S.co S.gen rfl (PySem.W.codeRec_of KX hcd) (hb _ _ _ _ ?_);refine wpAny_newFunctionEnv_cells S.kind hkind fun env he s1 x=> ?_;subst he;refine ⟨lim.keeps x.toInCall.keep,codeAny_func ?_⟩;obtain ⟨t,ht,hq⟩:=hbody A outer s H vs Q E (hr.deeper _) hsp;have I:Inv (mY CX P w K mg base N qual scope f cdv A outer s H E) [] (start N vs) H s1:=HD S hr.hd e0 hl r x;refine wpAny_mono (ht [] s1 (start N vs) H _ I hq) (fun fl s' hs=> ?_) fun e s' hs=>hs
 have fin:∀{σ':St} {H':Hp} {v:V} {u:Value},Inv (mY CX P w K mg base N qual scope f cdv A outer s H E) [] σ' H' s'->RelV v u->Q v H'->CE outer P w H s Q u s':=
  fun {σ' H' v u} J rv q=>⟨v,H',J.os,J.bare,J.base,J.hok,rv,q⟩
 cases fl with
 | ret u=>
   obtain ⟨v,σ',H',J,rv,q⟩:=hs;exact fin J rv q
 | next=>
   obtain ⟨σ',H',J,q⟩:=hs;exact fin (v:=V.non) (u:=Value.none) J rfl q
 | brk=>
   obtain ⟨_,_,_,q⟩:=hs;exact False.elim q
 | cont=>
   obtain ⟨_,_,_,q⟩:=hs;exact False.elim q
end L2
namespace L2
open PySem PySem.Spec PyProof.Rows
section
variable {X:Cx} {x:Str} {p pos:Pos} {e:Expr} {es:List Expr} {t:TA} {id T:String} {r:List V->Hp->VK->Prop}
def YB (r:List V->Hp->VK->Prop) (t:TA):TE:=fun σ H Q=>t σ H fun vs H1=>r vs H1 Q
theorem bN (hc:j7 X (.builtin id) r) (hg:Gl X x) (hm:X.mg x=none) (hv:bootBuiltins x=some (.builtin id)) (ha:PA X (e::es) t) (hn:x ≠ "__name__" :=by decide) (hdb:(x==("__debug__" :Str))=false:=by decide)
 (he:starEach (e::es) X.env=(false,eval e X.env)::starEach es X.env:=by rfl) (hpl:(backTo pos (starEach es X.env)).any (·.1)=false:=by rfl):PE X (.Call (.Name x p) (e::es) [] pos) (YB r t):=by
 intro pins s σ H Q I h;refine wpAny_Call_Name_kw (vY I hg hm hv ?_ hn hdb);exact PyProof.Rows.callWith_builtin1 (dZ (ha pos pins s σ H _ I h) fun us s1 ⟨vs,H1,I1,r1,q1⟩=>hc pins s1 σ H1 vs us Q I1 r1 q1) he hpl
theorem b_ (hc:j7 X (.type T) r) (hg:Gl X x) (hm:X.mg x=none) (hv:bootBuiltins x=some (.type T)) (ha:PA X (e::es) t) (hn:x ≠ "__name__" :=by decide) (hdb:(x==("__debug__" :Str))=false:=by decide)
 (he:starEach (e::es) X.env=(false,eval e X.env)::starEach es X.env:=by rfl) (hpl:(backTo pos (starEach es X.env)).any (·.1)=false:=by rfl):PE X (.Call (.Name x p) (e::es) [] pos) (YB r t):=by
 intro pins s σ H Q I h;refine wpAny_Call_Name_kw (vY I hg hm hv ?_ hn hdb);exact PyProof.Rows.callWith_type1 (dZ (ha pos pins s σ H _ I h) fun us s1 ⟨vs,H1,I1,r1,q1⟩=>hc pins s1 σ H1 vs us Q I1 r1 q1) he hpl
end
end L2
namespace HT
open PySem PyProof.Rows
section
open PySem.SeqAt
open PySem.AutoSeq1 (wpAny_loadPart')
open PySem.MeetsSeq PySem.MeetsSeq2 PySem.MeetsSeq3
end
section
variable {prog:Program} {w:World} {A:Around} {E:Value->Shared->Prop} {s:Shared}
def Bb (n d:Nat):Option Int->Nat
 | none=>d
 | some v=>if v<0 then (v+(n:Int)).toNat else min v.toNat n
theorem vK (n d:Nat):Bb n d none=d:=rfl
theorem zj (n d k:Nat):Bb n d (some (k:Int))=min k n:=by
 show (if (k:Int)<0 then ((k:Int)+(n:Int)).toNat else min (k:Int).toNat n)=min k n;rw [if_neg (by omega),Int.toNat_natCast]
end
end HT
namespace L2
open PySem PySem.Spec PyProof.Rows
abbrev TO:=St->Hp->(Option Int->Hp->Prop)->Prop
def PO (X:Cx) (e:Option Expr) (t:TO):Prop:=
 ∀(pins:List (Addr×Obj)) (s:Shared) (σ:St) (H:Hp) (Q:Option Int->Hp->Prop),Inv X pins σ H s->t σ H Q ->
  wpAny (model X.prog X.w) X.A (evalPart e X.env) (fun u s'=>∃o H',Inv X pins σ H' s'/\IsPart u o/\Q o H') X.xe s
def Mx:TO:=fun _ H Q=>Q none H
def Ve (t:TE):TO:=fun σ H Q=>t σ H fun x H1=>∃i,x = .int i/\Q (some i) H1
section
variable {X:Cx} {e:Expr} {te:TE} {lo hi:Option Expr} {tl th:TO} {pos p2:Pos}
theorem jX:PO X none Mx:=by
 intro pins s σ H Q I h;rw [evalPart_none];exact wpAny_pure ⟨none,H,I,.none,h⟩
theorem jW (h:PE X e te):PO X (some e) (Ve te):=by
 intro pins s σ H Q I hw;rw [evalPart_some];refine dZ (h pins s σ H _ I hw) fun u s1 ⟨x,H1,I1,r1,q1⟩=> ?_;obtain ⟨i,rfl,q⟩:=q1;obtain ⟨t,rfl⟩:=r1;exact ⟨some i,H1,I1,.int i t,q⟩
def SlR (X:Cx) (r:V->Option Int->Option Int->Hp->VK->Prop):Prop:=
 ∀(pins:List (Addr×Obj)) (s:Shared) (σ:St) (H:Hp) (x:V) (v vl vu:Value) (lo hi:Option Int) (sl:Addr) (Q:VK),Inv X pins σ H s->RelV x v->s.heap.IsSliceOf sl vl vu .none->IsPart vl lo->IsPart vu hi->r x lo hi H Q ->
  ∃T id,typeLookup (.type T) "__getitem__" = pure (some (.builtin id))/\s.TypeIs v T/\wpAny (model X.prog X.w) X.A (getItem v (.ref sl)) (EP X pins σ Q) X.xe s
def tSl (r:V->Option Int->Option Int->Hp->VK->Prop) (te:TE) (tl th:TO):TE:=fun σ H Q=>te σ H fun x H1=>tl σ H1 fun l H2=>th σ H2 fun u H3=>r x l u H3 Q
theorem jh {r:V->Option Int->Option Int->Hp->VK->Prop} (hr:SlR X r) (he:PE X e te) (hl:PO X lo tl) (hu:PO X hi th):PE X (.Subscript e (.Slice lo hi none p2) pos) (tSl r te tl th):=by
 intro pins s σ H Q I h;refine Subscript_ (dZ (he pins s σ H _ I h) fun v s1 ⟨x,H1,I1,r1,q1⟩=> ?_);refine wpAny_Slice (dZ (hl pins s1 σ H1 _ I1 q1) fun vl s2 ⟨l,H2,I2,pl,q2⟩=>dZ (hu pins s2 σ H2 _ I2 q2) fun vu s3 ⟨u,H3,I3,pu,q3⟩=> ?_);rw [evalPart_none];refine wpAny_pure ?_;have I4:Inv X pins σ H3 {s3 with heap:=s3.heap.push {cls:= .type "slice",data:= .fields #[vl,vu,.none]}}:=I3.kept (t':=s3.toks) fun b ob q=>Heap.get?_push_of_some _ q;obtain ⟨T,id,hT,ht,hg⟩:=hr pins {s3 with heap:=s3.heap.push {cls:= .type "slice",data:= .fields #[vl,vu,.none]}} σ H3 x v vl vu l u s3.heap.objs.size Q I4 r1 (Heap.IsSliceOf.new ..) pl pu q3;show wpAny (model X.prog X.w) X.A (subscriptTail e (.Slice lo hi none p2) v (.ref s3.heap.objs.size)) (EP X pins σ Q) X.xe {s3 with heap:=s3.heap.push {cls:= .type "slice",data:= .fields #[vl,vu,.none]}};exact tail_any (ops:=[.ref s3.heap.objs.size,v]) ht hT hg (by with_unfolding_all rfl)
def qU (xs:List V) (lo hi:Option Int):List V:=(xs.drop (HT.Bb xs.length 0 lo)).take (HT.Bb xs.length xs.length hi - HT.Bb xs.length 0 lo)
theorem BX (xs:List V) (lo hi:Option Int):(qU xs lo hi).length<=xs.length:=by
 unfold qU;rw [List.length_take,List.length_drop];omega
end
end L2
namespace L2
open PySem PySem.Spec PyProof.Rows
def BJ (n:Nat) (i:Int):Option Nat:=if 0<=i then (if i<n then some i.toNat else none) else if -(n:Int)<=i then some (i+n).toNat else none
def wU {α:Type} (xs:List α) (i:Int):Option α:=(BJ xs.length i).bind fun j=>xs[j]?
theorem Gf {n:Nat} {i:Int} {j:Nat} (h:BJ n i=some j):seqIndex? i n=some j/\j<n /\ -(n:Int)<=i/\i<n:=by
 unfold BJ at h
 by_cases h0:0<=i
 ·rw [if_pos h0] at h
  by_cases h1:i<n
  ·rw [if_pos h1] at h
   have e:i.toNat=j:=Option.some.inj h;exact ⟨by rw [seqIndex_of h0 h1,e],by omega,by omega,h1⟩
  ·rw [if_neg h1] at h;cases h
 ·rw [if_neg h0] at h
  by_cases h1: -(n:Int)<=i
  ·rw [if_pos h1] at h
   have e:(i+n).toNat=j:=Option.some.inj h;exact ⟨by rw [seqIndex_neg (by omega) h1,e],by omega,h1,by omega⟩
  ·rw [if_neg h1] at h;cases h
theorem z_ {α:Type} {xs:List α} {i:Int} {v:α} (h:wU xs i=some v):∃j,seqIndex? i xs.length=some j/\xs[j]? = some v/\j<xs.length /\ -(xs.length:Int)<=i/\i<xs.length:=by
 unfold wU at h;cases e:BJ xs.length i with
 | none=>rw [e] at h;cases h
 | some j=>
   rw [e] at h;obtain ⟨h1,h2,h3,h4⟩:=Gf e;exact ⟨j,h1,h,h2,h3,h4⟩
theorem cg {α:Type} {xs:List α} {j:Nat} {v:α} (h:xs[j]? = some v):wU xs (j:Int)=some v:=by
 have hj:j<xs.length:=(List.getElem?_eq_some_iff.mp h).1
 have e:BJ xs.length (j:Int)=some j:=by
  unfold BJ;rw [if_pos (by omega),if_pos (by omega)];simp
 unfold wU;rw [e];exact h
def PB (b:Expr):Prop:=∀o i,subscripted b false o i=operate [o,i] (getItem o i)
def UL (X:Cx) (r:R2):Prop:=
 ∀(value slice:Expr) (pins:List (Addr×Obj)) (s:Shared) (σ:St) (H:Hp) (x y:V) (v u:Value) (Q:VK),Inv X pins σ H s->RelV x v->RelV y u->r x y H Q ->
  subscripted slice false v u=operate [v,u] (getItem v u)->wpAny (model X.prog X.w) X.A (subscriptTail value slice v u) (EP X pins σ Q) X.xe s
def T_ (X:Cx) (id:String) (r:V->List V->Hp->VK->Prop):Prop:=
 ∀(pins:List (Addr×Obj)) (s:Shared) (σ:St) (H:Hp) (x:V) (xs:List V) (v:Value) (us:List Value) (Q:VK),Inv X pins σ H s->RelV x v->Vals xs us->r x xs H Q ->
  wpAny (model X.prog X.w) X.A (call (.builtin id) (v::us)) (EP X pins σ Q) X.xe s
section
variable {X:Cx} {a b:Expr} {ta tb:TE} {pos:Pos}
theorem aO {r:R2} (hr:UL X r) (ha:PE X a ta) (hb:PE X b tb) (hs:PB b):PE X (.Subscript a b pos) (Fo r ta tb):=by
 intro pins s σ H Q I h;exact Subscript_ (TQ ha hb I h fun v u s2 x y H2 I2 rx ry q=>hr a b pins s2 σ H2 x y v u Q I2 rx ry q (hs _ _))
def Dy (K:PySem.W.Frag):R2:=fun x y H Q=>∃p xs i v,x = .ref p/\y = .int i/\bC K H p xs/\wU xs i=some v/\Q v H
def JD (K:PySem.W.Frag):R2:=fun x y H Q=>∃p xs i v,x = .ref p/\y = .int i/\cA K H p xs/\wU xs i=some v/\Q v H
def abM:R2:=fun x y H Q=>∃z i c,x = .str z/\y = .int i/\z.length<=sizeLine/\wU z.cps.toList i=some c/\Q (.str ⟨#[c]⟩) H
theorem Ot:UL X (Dy X.K):=by
 intro value slice pins s σ H x y v u Q I rx ry h hs;obtain ⟨p,xs,i,z,rfl,rfl,hq,he,q⟩:=h;cases rx;obtain ⟨t,rfl⟩:=ry;obtain ⟨its,r,pl,hz⟩:=I.list hq;obtain ⟨j,h1,h2,h3,h4,h5⟩:=z_ he;obtain ⟨w,ew,rw'⟩:=r.get h2;have hl:=r.length;have hn:=vW;have fin:EP X pins σ Q w s:=⟨z,H,I,rw',q⟩
 by_cases h0:0<=i
 ·have hj:i.toNat=j:=by
   rw [seqIndex_of h0 h5] at h1;exact Option.some.inj h1
  exact item_listR pl.isList h0 (by omega) (by rw [hj];simpa using ew) fin hs
 ·have hj:(i+(its.toArray.size:Int)).toNat=j:=by
   rw [seqIndex_neg (by omega) h4] at h1;rw [List.size_toArray,←hl];exact Option.some.inj h1
  exact subscriptTail_builtinR (x:=w) pl.isList.typeIs slot_list_getitem.lookup
   (wpAny_getItem_list_neg (Q:=fun r s'=>r=w/\EP X pins σ Q r s') pl.isList (by omega) (by rw [List.size_toArray]<;>omega) (by omega) (by rw [hj];simpa using ew) ⟨rfl,fin⟩) hs
theorem Sy:UL X (JD X.K):=by
 intro value slice pins s σ H x y v u Q I rx ry h hs;obtain ⟨p,xs,i,z,rfl,rfl,hq,he,q⟩:=h;cases rx;obtain ⟨t,rfl⟩:=ry;obtain ⟨its,r,pl,hz⟩:=I.tuple hq;obtain ⟨j,h1,h2,h3,h4,h5⟩:=z_ he;obtain ⟨w,ew,rw'⟩:=r.get h2;have hl:=r.length;have hn:=vW;have fin:EP X pins σ Q w s:=⟨z,H,I,rw',q⟩
 exact subscriptTail_builtinR (x:=w) pl.typeIs slot_tuple_getitem.lookup
  (getItem_tuple (j:=j) (Q:=fun r s'=>r=w/\EP X pins σ Q r s') pl (by omega) (by omega) (by rw [List.size_toArray,←hl];exact h1) (by simpa using ew) ⟨rfl,fin⟩) hs
theorem zH:UL X abM:=by
 intro value slice pins s σ H x y v u Q I rx ry h hs;obtain ⟨z,i,c,rfl,rfl,hz,he,q⟩:=h;obtain ⟨t,rfl⟩:=rx;obtain ⟨t',rfl⟩:=ry;obtain ⟨j,h1,h2,h3,h4,h5⟩:=z_ he;have hl:z.cps.toList.length=z.length:=by simp [Str.length]
 rw [hl] at h1 h4 h5;have hn:=vW
 exact tail_any (typeIs_str s z t) slot_str_getitem.lookup (getItem_str (c:=c) (by
  have e1:decide (i < -(2 ^ 63:Int))=false:=decide_eq_false (by omega);have e2:decide (i≥2 ^ 63)=false:=decide_eq_false (by omega);rw [e1,e2,Bool.or_false]) (by rw [h1];simpa using h2) ⟨.str ⟨#[c]⟩,H,I.tok _,⟨_,rfl⟩,q⟩) hs
theorem Ea (its:List Value) (n j:Nat) (u:Value):Obj.mapSeq (·.setIfInBounds j u) {cls:= .type "list",data:= .seq its.toArray n}={cls:= .type "list",data:= .seq (its.set j u).toArray n}:=by
 simp [Obj.mapSeq]
theorem Inv.lst {pins:List (Addr×Obj)} {σ:St} {H:Hp} {s:Shared} {p:Addr} {xs:List V} (I:Inv X pins σ H s) (h:H p=some (.lst xs)):
 ∃(its:List Value) (n:Nat),Vals xs its/\s.heap.get? p=some {cls:= .type "list",data:= .seq its.toArray n}/\xs.length<=sizeLine:=by
 obtain ⟨z,its,n,r,e⟩:=I.hok p _ h;exact ⟨its,n,r,e,z⟩
theorem Inv.R_ {pins:List (Addr×Obj)} {σ:St} {H:Hp} {s:Shared} {p:Addr} {xs ys:List V} {its its':List Value} {n n':Nat} {f:Obj->Obj} (I:Inv X pins σ H s) (h:H p=some (.lst xs))
 (ho:s.heap.get? p=some {cls:= .type "list",data:= .seq its.toArray n}) (hf:f {cls:= .type "list",data:= .seq its.toArray n}={cls:= .type "list",data:= .seq its'.toArray n'}) (r:Vals ys its') (hz:ys.length<=sizeLine) (t:Nat):
 Inv X pins σ (upd H p (.lst ys)) {s with heap:=s.heap.update p f,toks:=t}:=by
 have e:(s.heap.update p f).get? p=some {cls:= .type "list",data:= .seq its'.toArray n'}:=by
  rw [Heap.get?_update_self f ho (by rw [hf]<;>rfl),hf]
 refine I.write (x:=p) (e:=p) (by rw [h];trivial) (.inl rfl) (fun b u hb q=>(Heap.get?_update_other _ _ (Ne.symm hb)).trans q) ⟨_,e⟩ ?_;exact ⟨hz,its',n',r,e⟩
def JC:V->V->V->Hp->(Hp->Prop)->Prop:=fun o i v H Q=>∃p xs k j,o = .ref p/\i = .int k/\H p=some (.lst xs)/\BJ xs.length k=some j/\Q (upd H p (.lst (xs.set j v)))
theorem set_list:Yo X JC:=by
 intro pins s σ H o i v ov iv u Q I ro ri rv h;obtain ⟨p,xs,k,j,rfl,rfl,hp,hj,q⟩:=h;cases ro;obtain ⟨t,rfl⟩:=ri;obtain ⟨its,n,r,ho,hz⟩:=I.lst hp;obtain ⟨h1,h2,h3,h4⟩:=Gf hj;have hl:=r.length;have hn:=vW
 have I':Inv X pins σ (upd H p (.lst (xs.set j v))) {s with heap:=s.heap.update p (Obj.mapSeq (·.setIfInBounds j u))}:=
  I.R_ hp ho (Ea its n j u) (r.set rv j) (by rw [List.length_set];exact hz) s.toks
 by_cases h0:0<=k
 ·have hk:k.toNat=j:=by
   rw [seqIndex_of h0 h4] at h1;exact Option.some.inj h1
  exact PySem.W.ki_setAt ho h0 (by omega) (by rw [List.size_toArray,←hl];exact h4) (by rw [hk];exact ⟨_,I',q⟩)
 ·have hk:(k+(its.toArray.size:Int)).toNat=j:=by
   rw [seqIndex_neg (by omega) h3] at h1;rw [List.size_toArray,←hl];exact Option.some.inj h1
  exact PySem.W.ki_setBack ho (by omega) (by rw [List.size_toArray,←hl];exact h3) (by omega) (by rw [hk];exact ⟨_,I',q⟩)
theorem yX (lo hi:Option Int) (n:Nat):(sliceBounds lo hi none n).1=((HT.Bb n 0 lo:Nat):Int)/\(sliceBounds lo hi none n).2.1=((HT.Bb n n hi:Nat):Int)/\(sliceBounds lo hi none n).2.2=1:=by
 refine ⟨?_, ?_,rfl⟩
 ·cases lo with
  | none=>simp [sliceBounds,HT.Bb]
  | some i=>
    simp only [sliceBounds,HT.Bb,Option.getD_none,show (1:Int)>0 by decide,if_true]
    by_cases h:i<0
    ·simp only [h,if_true]<;>omega
    ·simp only [h,if_false]<;>omega
 ·cases hi with
  | none=>simp [sliceBounds,HT.Bb]
  | some i=>
    simp only [sliceBounds,HT.Bb,Option.getD_none,show (1:Int)>0 by decide,if_true]
    by_cases h:i<0
    ·simp only [h,if_true]<;>omega
    ·simp only [h,if_false]<;>omega
theorem xr (its:List Value) (lo hi:Option Int):slicePick its.toArray lo hi none=((its.drop (HT.Bb its.length 0 lo)).take (HT.Bb its.length its.length hi - HT.Bb its.length 0 lo)).toArray:=by
 obtain ⟨h1,h2,h3⟩:=yX lo hi its.toArray.size;unfold slicePick;rw [h1,h2,h3];simp only [sliceRange_one,pick_run,List.size_toArray]<;>rfl
def Vt (K:PySem.W.Frag):V->Option Int->Option Int->Hp->VK->Prop:=fun x lo hi H Q=>∃a xs,x = .ref a/\bC K H a xs /\ ∀p,H p=none->Q (.ref p) (upd H p (.lst (qU xs lo hi)))
theorem MN:SlR X (Vt X.K):=by
 intro pins s σ H x v vl vu lo hi sl Q I rx hs pl pu h;obtain ⟨a,xs,rfl,hx,q⟩:=h;cases rx;obtain ⟨its,r,ht,hz⟩:=I.list hx;have hlen:=r.length;refine ⟨"list",_,slot_list_getitem.lookup,ht.isList.typeIs, ?_⟩;refine wpAny_getItem_list_slice ht.isList hs pl pu .none (by simp) ?_ (by rw [List.size_toArray]<;>omega);rw [xr,←hlen];refine ⟨.ref s.heap.objs.size,_,I.laid (t':=s.toks) (o:= .lst (qU xs lo hi)) (fun b ob q=>Heap.get?_push_of_some _ q) (Nat.le_refl _) ?_,rfl,q _ (I.hok.fresh (Nat.le_refl _))⟩;exact ⟨Nat.le_trans (BX xs lo hi) hz,_,0,(r.drop (HT.Bb xs.length 0 lo)).take (HT.Bb xs.length xs.length hi - HT.Bb xs.length 0 lo),Heap.get?_push_size _ rfl⟩
def uc:V->Bool
 | .non=>true
 | .bl _=>true
 | .int _=>true
 | .str _=>true
 | _=>false
def O5:V->V->Bool
 | .non,.non=>true
 | .bl a,.bl b=>a==b
 | .bl a,.int b=>(if a then 1 else 0)==b
 | .int a,.bl b=>a==(if b then 1 else 0)
 | .int a,.int b=>a==b
 | .str a,.str b=>a==b
 | _,_=>false
theorem Ti {A:Around} {s:Shared} {y x:V} {u v:Value} (ry:RelV y u) (rx:RelV x v) (fy:uc y=true) (fx:uc x=true):SeqAt.EqAt A s u v (O5 y x):=by
 cases y with
 | non=>
   cases ry;cases x with
   | non=>cases rx;exact SeqAt.EqAt.same _
   | bl b=>cases rx;exact SeqAt.EqAt.none_bool b
   | int b=>obtain ⟨t,rfl⟩:=rx;exact SeqAt.EqAt.none_int b t
   | str b=>obtain ⟨t,rfl⟩:=rx;exact SeqAt.EqAt.none_str b t
   | _=>exact absurd (show false=true from fx) Bool.false_ne_true
 | bl a=>
   cases ry;cases x with
   | non=>cases rx;exact SeqAt.EqAt.bool_none a
   | bl b=>cases rx;exact SeqAt.EqAt.bool_bool a b
   | int b=>obtain ⟨t,rfl⟩:=rx;exact SeqAt.EqAt.bool_int a b t
   | str b=>obtain ⟨t,rfl⟩:=rx;exact SeqAt.EqAt.bool_str a b t
   | _=>exact absurd (show false=true from fx) Bool.false_ne_true
 | int a=>
   obtain ⟨t',rfl⟩:=ry;cases x with
   | non=>cases rx;exact SeqAt.EqAt.int_none a t'
   | bl b=>cases rx;exact SeqAt.EqAt.int_bool a t' b
   | int b=>obtain ⟨t,rfl⟩:=rx;exact SeqAt.EqAt.int_int a t' b t
   | str b=>obtain ⟨t,rfl⟩:=rx;exact SeqAt.EqAt.int_str a t' b t
   | _=>exact absurd (show false=true from fx) Bool.false_ne_true
 | str a=>
   obtain ⟨t',rfl⟩:=ry;cases x with
   | non=>cases rx;exact SeqAt.EqAt.str_none a t'
   | bl b=>cases rx;exact SeqAt.EqAt.str_bool a t' b
   | int b=>obtain ⟨t,rfl⟩:=rx;exact SeqAt.EqAt.str_int a t' b t
   | str b=>obtain ⟨t,rfl⟩:=rx;exact SeqAt.EqAt.str_str a t' b t
   | _=>exact absurd (show false=true from fx) Bool.false_ne_true
 | _=>exact absurd (show false=true from fy) Bool.false_ne_true
def O6 (x:V) (u:Value):Bool:=match u with
 | .none=>O5 .non x
 | .bool b=>O5 (.bl b) x
 | .int i _=>O5 (.int i) x
 | .str z _=>O5 (.str z) x
 | _=>false
theorem Lb {x y:V} {u:Value} (r:RelV y u) (f:uc y=true):O6 x u=O5 y x:=by
 cases y with
 | non=>cases r;rfl
 | bl b=>cases r;rfl
 | int i=>obtain ⟨t,rfl⟩:=r;rfl
 | str z=>obtain ⟨t,rfl⟩:=r;rfl
 | _=>exact absurd (show false=true from f) Bool.false_ne_true
theorem Aa {x:V}:∀{xs:List V} {us:List Value},Vals xs us->xs.all uc=true->us.any (O6 x)=xs.any fun y=>O5 y x
 | _,_,.nil,_=>rfl
 | y::xs,u::us,.cons r t,f=>by
   rw [List.all_cons,Bool.and_eq_true] at f;rw [List.any_cons,List.any_cons,Lb r f.1,Aa t f.2]
theorem vU {A:Around} {s:Shared} {x:V} {v:Value} (rx:RelV x v) (fx:uc x=true):∀{xs:List V} {us:List Value},Vals xs us->xs.all uc=true -> ∀u∈us,SeqAt.EqAt A s u v (O6 x u)
 | _,_,.nil,_=>fun u hu=>by cases hu
 | y::xs,u::us,.cons r t,f=>fun u' hu=>by
   rw [List.all_cons,Bool.and_eq_true] at f;rcases List.mem_cons.mp hu with rfl|hu
   ·rw [Lb r f.1];exact Ti r rx f.1 fx
   ·exact vU rx fx t f.2 u' hu
def inV (x:V) (xs:List V):Bool:=xs.any fun y=>O5 y x
def rIn (K:PySem.W.Frag) (neg:Bool):R2:=fun x y H Q=>∃p xs,y = .ref p/\(bC K H p xs\/cA K H p xs)/\uc x=true/\xs.all uc=true/\Q (.bl (if neg then !inV x xs else inV x xs)) H
theorem Hl:oG X (compareOp .In) (rIn X.K false):=by
 intro pins s σ H x y v u Q I rx ry h;obtain ⟨p,xs,rfl,hq,fx,fs,q⟩:=h;cases ry;rcases hq with hq|hq
 ·obtain ⟨its,r,pl,hz⟩:=I.list hq
  refine SeqAt.in_listAt (O6 x) pl.isList (fun w hw=>vU rx fx r fs w (by simpa using hw)) ⟨.bl _,H,I,rfl, ?_⟩;rw [show its.toArray.any (O6 x)=its.any (O6 x) by simp,Aa r fs];exact q
 ·obtain ⟨its,r,pl,hz⟩:=I.tuple hq
  refine SeqAt.in_tupleAt (O6 x) pl (fun w hw=>vU rx fx r fs w (by simpa using hw)) ⟨.bl _,H,I,rfl, ?_⟩;rw [show its.toArray.any (O6 x)=its.any (O6 x) by simp,Aa r fs];exact q
theorem zW:j7 X (.builtin "len") (fun xs H Q=>∃p ys,xs=[.ref p]/\(bC X.K H p ys\/cA X.K H p ys)/\Q (.int ys.length) H):=by
 intro pins s σ H xs us Q I r h;obtain ⟨p,ys,rfl,hq,q⟩:=h;obtain ⟨u,rfl,rx⟩:=vals1 r;cases rx;have hn:=vW;rcases hq with hq|hq
 ·obtain ⟨its,r',pl,hz⟩:=I.list hq
  have hlen:=r'.length;exact Calls.call_len_list pl.isList (by simp only [List.size_toArray]<;>omega) ⟨.int ys.length,H,I.tok _,⟨s.toks+1,by rw [List.size_toArray,hlen]⟩,q⟩
 ·obtain ⟨its,r',pl,hz⟩:=I.tuple hq
  have hlen:=r'.length;exact len_tuple pl (by simp only [List.size_toArray]<;>omega) ⟨.int ys.length,H,I.tok _,⟨s.toks+1,by rw [List.size_toArray,hlen]⟩,q⟩
theorem zV:j7 X (.type "list") (fun xs H Q=>∃p ys,xs=[.ref p]/\(bC X.K H p ys\/cA X.K H p ys) /\ ∀l,H l=none->Q (.ref l) (upd H l (.lst ys))):=by
 intro pins s σ H xs us Q I r h;obtain ⟨p,ys,rfl,hq,q⟩:=h;obtain ⟨u,rfl,rx⟩:=vals1 r;cases rx
 have fin:∀(its:List Value),Vals ys its->ys.length<=sizeLine -> ∀(h':Heap) (c':Nat),(∀b o',s.heap.get? b=some o'->h'.get? b=some o') ->
  h'.get? s.heap.objs.size=some {cls:= .type "list",dict:=none,data:= .seq its.toArray c',slots:= #[]}->EP X pins σ Q (.ref s.heap.objs.size) {s with heap:=h'}:=fun its r' hz h' c' kp e=>
  ⟨.ref s.heap.objs.size,_,I.laid (t':=s.toks) kp (Nat.le_refl _) (show eY X.prog X.w _ h' _ (.lst ys) from ⟨hz,its,c',r',e⟩),rfl,q _ (I.hok.fresh (Nat.le_refl _))⟩
 rcases hq with hq|hq
 ·obtain ⟨its,r',pl,hz⟩:=I.list hq
  have hlen:=r'.length;obtain ⟨o,ho,hc,n,hd⟩:=pl.isList;exact call_list_seq p (.inl rfl) ho hc hd (fun h' c' kp e=>fin its r' hz h' c' kp e) (by simp only [List.size_toArray]<;>omega)
 ·obtain ⟨its,r',pl,hz⟩:=I.tuple hq
  have hlen:=r'.length;obtain ⟨o,ho,hc,n,hd⟩:=pl;exact call_list_seq p (.inr rfl) ho hc hd (fun h' c' kp e=>fin its r' hz h' c' kp e) (by simp only [List.size_toArray]<;>omega)
def tyV (K:PySem.W.Frag) (T:String) (x:V) (H:Hp):Prop:=match x with
 | .str _=>T = "str"
 | .int _=>T = "int"
 | .ref p=>(T = "list" /\ ∃xs,bC K H p xs)\/(T = "tuple" /\ ∃o,K.lookup p=some o/\o.cls = .type "tuple" /\ o.dict=none) \/
    (T = "dict" /\ ((∃kvs,H p=some (.dK kvs)) \/ ∃kvs,H p=some (.dT kvs)))\/(T = "set" /\ ∃S n,H p=some (.set S n))
 | _=>False
theorem Ji {pins:List (Addr×Obj)} {σ:St} {H:Hp} {s:Shared} {T:String} {x:V} {v:Value} (I:Inv X pins σ H s) (r:RelV x v) (ty:tyV X.K T x H):
 s.TypeIs v T /\ ∀a,v = .ref a -> ∃ob,s.heap.get? a=some ob/\ob.dict=none:=by
 cases x with
 | str z=>
   obtain ⟨t,rfl⟩:=r;cases (show T = "str" from ty);exact ⟨typeIs_str s z t,fun _ e=>nomatch e⟩
 | int i=>
   obtain ⟨t,rfl⟩:=r;cases (show T = "int" from ty);exact ⟨typeIs_int s i t,fun _ e=>nomatch e⟩
 | ref p=>
   cases r;rcases ty with ⟨rfl,xs,hq⟩|⟨rfl,o,hk,hc,hd⟩|⟨rfl,hk⟩|⟨rfl,S,n,hk⟩
   ·obtain ⟨its,_,pl,_⟩:=I.list hq
    refine ⟨pl.isList.typeIs,fun a e=> ?_⟩;cases e;obtain ⟨o,n,e,c,hd,_⟩:=pl;exact ⟨o,e,hd⟩
   ·refine ⟨⟨o,I.pA p o hk,hc⟩,fun a e=> ?_⟩
    cases e;exact ⟨o,I.pA _ o hk,hd⟩
   ·have z:∃o,s.heap.get? p=some o/\o.ExactDict:=by
     rcases hk with ⟨kvs,hk⟩|⟨kvs,hk⟩
     ·obtain ⟨_,_,_,_,o,_,_,e,ex,_⟩:=I.hok p _ hk
      exact ⟨o,e,ex⟩
     ·obtain ⟨_,_,_,_,o,_,_,e,ex,_⟩:=I.hok p _ hk
      exact ⟨o,e,ex⟩
    obtain ⟨o,e,ex⟩:=z;refine ⟨⟨o,e,ex.1⟩,fun a e2=> ?_⟩;cases e2;exact ⟨o,e,ex.2.1⟩
   ·obtain ⟨o,_,_,_,e,ex,_⟩:=I.hok p _ hk
    refine ⟨⟨o,e,ex.1⟩,fun a e2=> ?_⟩;cases e2;exact ⟨o,e,ex.2.1⟩
 | _=>exact False.elim ty
def Vk (K:PySem.W.Frag) (T:String) (r:V->List V->Hp->VK->Prop) (to:TE):TE:=fun σ H Q=>to σ H fun x H1=>tyV K T x H1/\r x [] H1 Q
def tBM (K:PySem.W.Frag) (T:String) (r:V->List V->Hp->VK->Prop) (to:TE) (t:TA):TE:=fun σ H Q=>to σ H fun x H1=>tyV K T x H1/\t σ H1 fun xs H2=>r x xs H2 Q
variable {o e:Expr} {es:List Expr} {to:TE} {t:TA} {name:Str} {apos cpos:Pos} {T id:String} {r:V->List V->Hp->VK->Prop}
theorem Rq (pa:PlainAttrs T) (slot:Slot T name id) (hty:typeOf (.builtin id)=pure (.type "method_descriptor")) (hm:T_ X id r) (ho:PE X o to)
 (hbase:attributeBase o name X.env (eval o X.env)=eval o X.env:=by rfl) (hline:(apos.endLine==cpos.line)=true:=by rfl):PE X (.Call (.Attribute o name apos) [] [] cpos) (Vk X.K T r to):=by
 intro pins s σ H Q I h;refine wpAny_Call_method0_late hbase hline (dZ (ho pins s σ H _ I h) fun v s1 ⟨x,H1,I1,r1,ty,q1⟩=> ?_);obtain ⟨h1,h2⟩:=Ji I1 r1 ty;exact ⟨T,id,pa,slot,hty,h1,h2,Calls.callWith_builtin rfl (PySem.evalArgs_none (hm pins s1 σ H1 x [] v [] Q I1 r1 .nil q1))⟩
theorem Qi (pa:PlainAttrs T) (slot:Slot T name id) (hty:typeOf (.builtin id)=pure (.type "method_descriptor")) (hm:T_ X id r) (ho:PE X o to) (ha:PA X (e::es) t)
 (hbase:attributeBase o name X.env (eval o X.env)=eval o X.env:=by rfl)
 (hfew:((backTo cpos (starEach (e::es) X.env)).all (fun x=> !x.1)&&(backToKw cpos (keywordEach [] X.env)).all (fun x=>x.1.isSome)
   && decide ((e::es).length+([]:List Keyword).length+(if ([]:List Keyword).isEmpty then 0 else 1)<30))=true:=by rfl)
 (hline:(apos.endLine==cpos.line)=true:=by rfl) (hs:starEach (e::es) X.env=(false,eval e X.env)::starEach es X.env:=by rfl) (hplain:(backTo cpos (starEach es X.env)).any (·.1)=false:=by rfl):
 PE X (.Call (.Attribute o name apos) (e::es) [] cpos) (tBM X.K T r to t):=by
 intro pins s σ H Q I h;refine wpAny_Call_method_late hbase hfew hline rfl (dZ (ho pins s σ H _ I h) fun v s1 ⟨x,H1,I1,r1,ty,q1⟩=> ?_);obtain ⟨h1,h2⟩:=Ji I1 r1 ty;refine ⟨T,id,pa,slot,hty,h1,h2, ?_⟩;have hA:=ha cpos pins s1 σ H1 _ I1 q1;rw [hs] at hA ⊢;refine Calls.callWith_builtin (by show (false||(backTo cpos (starEach es X.env)).any (·.1))=false;rw [hplain]<;>rfl) (Calls.evalArgs_plain ?_);exact dZ hA fun us s2 ⟨vs,H2,I2,r2,q2⟩=>hm pins s2 σ H2 x vs v us Q I2 r1 r2 q2
end
end L2
namespace L2
open PySem PySem.Spec PyProof.Rows
def MtM (X:Cx) (id:String) (r:V->List V->Hp->VK->Prop):Prop:=
 ∀(pins:List (Addr×Obj)) (s:Shared) (σ:St) (H:Hp) (x:V) (xs:List V) (v:Value) (us:List Value) (Q:VK),Inv X pins σ H s->RelV x v->Vals xs us->r x xs H Q ->
  wpAny (model X.prog X.w) X.A (call (.builtin id) (v::us)) (EP X pins σ Q) X.xe s
theorem Vals.one {x:V} {us:List Value} (h:Vals [x] us):∃u,us=[u]/\RelV x u:=by
 cases h with
 | cons r t=>cases t;exact ⟨_,rfl,r⟩
theorem Vals.zero:∀{us:List Value},Vals [] us->us=[]
 | _,.nil=>rfl
theorem Vals.rep {xs:List V} {us:List Value} (h:Vals xs us):∀k:Nat,Vals (List.replicate k xs).flatten (List.replicate k us).flatten
 | 0=> .nil
 | k+1=>by
   rw [List.replicate_succ,List.replicate_succ,List.flatten_cons,List.flatten_cons];exact Vals.append h (Vals.rep h k)
theorem foldl_rep (its:List Value):∀(k:Nat) (acc:List Value),
 List.foldl (fun x1 x2=>x1++x2) acc.toArray (List.replicate k its.toArray)=(acc++(List.replicate k its).flatten).toArray
 | 0,acc=>by simp
 | k+1,acc=>by
   have e:acc.toArray++its.toArray=(acc++its).toArray:=by simp
   have e2:(acc++its)++(List.replicate k its).flatten=acc++(List.replicate (k+1) its).flatten:=by
    rw [List.replicate_succ,List.flatten_cons,List.append_assoc]
   rw [←e2,←foldl_rep its k (acc++its),←e,List.replicate_succ,List.foldl_cons]
section
variable {X:Cx} {pins:List (Addr×Obj)} {σ:St} {H:Hp} {s:Shared} {l b:Addr} {xs ys zs:List V}
theorem Inv.V8 {its its':List Value} {n:Nat} {f:Array Value->Array Value} {t':Nat} (I:Inv X pins σ H s) (hH:H l=some (.lst xs))
 (e:s.heap.get? l=some {cls:= .type "list",data:= .seq its.toArray n}) (hf:f its.toArray=its'.toArray) (hv:Vals ys its') (hz:ys.length<=sizeLine):
 Inv X pins σ (upd H l (.lst ys)) {s with heap:=s.heap.update l (Obj.mapSeq f),toks:=t'}:=by
 have q:=PySem.IsL.update e f;rw [hf] at q;refine I.write (x:=l) (e:=l) (by rw [hH];exact trivial) (.inl rfl) (fun b' u hb hu=>(Heap.get?_update_other s.heap (Obj.mapSeq f) (Ne.symm hb)).trans hu) ⟨_,q⟩ ?_;exact ⟨hz,its',_,hv,q⟩
theorem Inv.V9 {its:List Value} {t':Nat} (I:Inv X pins σ H s) (hv:Vals ys its) (hz:ys.length<=sizeLine):
 Inv X pins σ (upd H s.heap.objs.size (.lst ys)) {s with heap:=s.heap.push {cls:= .type "list",data:= .seq its.toArray},toks:=t'}:=
 I.laid (fun _ _ q=>Heap.get?_push_of_some _ q) (Nat.le_refl _) ⟨hz,its,0,hv,Heap.get?_push_size _ rfl⟩
theorem Inv.fresh (I:Inv X pins σ H s):H s.heap.objs.size=none:=I.hok.fresh (Nat.le_refl _)
theorem Inv.Kr (I:Inv X pins σ H s) (hH:H l=some (.lst xs)):xs.length<=sizeLine /\ ∃(its:List Value) (n:Nat),Vals xs its/\xs.length=its.length/\s.heap.get? l=some {cls:= .type "list",data:= .seq its.toArray n}:=by
 obtain ⟨z,its,n,r,e⟩:=I.hok l _ hH;exact ⟨z,its,n,r,r.length,e⟩
theorem Ke {n:Nat} (h:n<=sizeLine):Builtin.List.listTooLong n=false:=by
 unfold Builtin.List.listTooLong;exact decide_eq_false (by omega)
end
section
variable {X:Cx}
def Fz:V->List V->Hp->VK->Prop:=fun x vs H Q=>∃l xs y,x = .ref l/\vs=[y]/\H l=some (.lst xs)/\xs.length<sizeLine/\Q .non (upd H l (.lst (xs++[y])))
theorem yj:MtM X "list.append" Fz:=by
 intro pins s σ H x vs v us Q I rx rv h;obtain ⟨l,xs,y,rfl,rfl,hH,hz,q⟩:=h;cases rx;obtain ⟨u,rfl,ru⟩:=rv.one;obtain ⟨z,its,n,r,hl,e⟩:=I.Kr hH;refine call_meets F.slot_list_append ⟨_,e,rfl⟩ F.entry_list_append (F.args_list_append_2 _ _) (PySem.list_append l its.toArray n u (by rw [List.size_toArray];omega)) ⟨e, ?_⟩;refine ⟨.non,_,I.V8 (its':=its++[u]) hH e (by simp) (r.append (.cons ru .nil)) ?_,rfl,q⟩;rw [List.length_append,List.length_singleton];omega
def Rc:V->List V->Hp->VK->Prop:=fun x vs H Q=>∃l xs,x = .ref l/\vs=[]/\H l=some (.lst xs)/\Q .non (upd H l (.lst []))
theorem Bv:MtM X "list.clear" Rc:=by
 intro pins s σ H x vs v us Q I rx rv h;obtain ⟨l,xs,rfl,rfl,hH,q⟩:=h;cases rx;have hus:=rv.zero;subst hus;obtain ⟨z,its,n,r,hl,e⟩:=I.Kr hH;refine call_meets F.slot_list_clear ⟨_,e,rfl⟩ F.entry_list_clear (F.args_list_clear_1 _) (AutoSeq1.list_clear_list_0 l its.toArray n (by rw [List.size_toArray];omega)) ⟨e, ?_⟩;exact ⟨.non,_,I.V8 (its':=[]) (ys:=[]) hH e rfl .nil (Nat.zero_le _),rfl,q⟩
def abS:R2:=fun x y H Q=>∃l b xs zs,x = .ref l/\y = .ref b/\H l=some (.lst xs)/\H b=some (.lst zs)/\xs.length+zs.length<=sizeLine /\ ∀p,H p=none->Q (.ref p) (upd H p (.lst (xs++zs)))
theorem sO:oG X (binaryOp .Add) abS:=by
 intro pins s σ H x y v u Q I rx ry h;obtain ⟨l,b,xs,zs,rfl,rfl,hH,hB,hz,q⟩:=h;cases rx;cases ry;obtain ⟨z,its,n,r,hl,e⟩:=I.Kr hH;obtain ⟨z2,its2,n2,r2,hl2,e2⟩:=I.Kr hB;refine PySem.P.add_list e e2 ?_ (by rw [List.size_toArray,List.size_toArray];omega);have ea:its.toArray++its2.toArray=(its++its2).toArray:=by simp
 rw [ea];exact ⟨.ref _,_,I.V9 (t':=s.toks) (r.append r2) (by rw [List.length_append];omega),rfl,q _ I.fresh⟩
def abK:R2:=fun x y H Q=>∃l k xs,x = .ref l/\y = .int k/\H l=some (.lst xs) /\ -(2 ^ 63)<=k/\k<2 ^ 63/\xs.length*k.toNat<=sizeLine /\
 ∀p,H p=none->Q (.ref p) (upd H p (.lst (List.replicate k.toNat xs).flatten))
theorem len_rep {α:Type} (xs:List α) (k:Nat):(List.replicate k xs).flatten.length=k*xs.length:=by
 induction k with
 | zero=>simp
 | succ k ih=>rw [List.replicate_succ,List.flatten_cons,List.length_append,ih,Nat.succ_mul,Nat.add_comm]
theorem vQ:oG X (binaryOp .Mult) abK:=by
 intro pins s σ H x y v u Q I rx ry h;obtain ⟨l,k,xs,rfl,rfl,hH,h1,h2,hz,q⟩:=h;cases rx;obtain ⟨t,rfl⟩:=ry;obtain ⟨z,its,n,r,hl,e⟩:=I.Kr hH;have hlen:its.toArray.size*k.toNat<=sizeLine:=by rw [List.size_toArray,←hl];exact hz
 have hcap:¬its.toArray.size*k.toNat>(2 ^ 63 - 1) / 8:=by
  have:(sizeLine:Nat)<=(2 ^ 63 - 1) / 8:=by decide
  omega
 have hfit:¬(!Builtin.List.listFitsIndex k)=true:=by
  rw [fitsIndex_both h1 h2];exact Bool.false_ne_true
 have Ws:¬Builtin.List.listTooLong (its.toArray.size*k.toNat)=true:=by
  rw [Ke hlen];exact Bool.false_ne_true
 have hnew:List.foldl (fun x1 x2=>x1++x2) #[] (List.replicate (if its.toArray.isEmpty=true then 0 else k.toNat) its.toArray)=(List.replicate k.toNat its).flatten.toArray:=by
  have f0:∀m:Nat,List.foldl (fun x1 x2=>x1++x2) #[] (List.replicate m its.toArray)=(List.replicate m its).flatten.toArray:=fun m=>by
   have:=foldl_rep its m [];rw [List.nil_append] at this;exact this
  rw [f0];cases its with
  | nil=>simp
  | cons a r'=>rw [if_neg (by simp)]
 refine wpAny_binaryOp_repeat_ref (T:= "list") (U:= "int") (by decide) ⟨_,e,rfl⟩ (fun s'=>typeIs_int s' k t) noFill_list_mul F.fills_int_mul F.slot_int_rmul repeat_list F.slot_int_index.lookup
  (call_meets F.slot_int_rmul (typeIs_int s k t) F.entry_int_rmul (F.args_int_rmul_2 _ _) (int___rmul___int_list k t l its.toArray n)
    ⟨e,rfl,⟨_,e,rfl⟩,call_meets F.slot_list_mul ⟨_,e,rfl⟩ F.entry_list_mul (F.args_list_mul_2 _ _) (AutoListH.list___mul___list_int_3 l its.toArray n k t hfit hcap Ws) ⟨e, ?_⟩⟩)
 rw [hnew];exact ⟨.ref _,_,I.V9 (t':=s.toks) (r.rep k.toNat) (by rw [len_rep,Nat.mul_comm];exact hz),rfl,q _ I.fresh⟩
end
section
variable {prog:Program} {w:World} {A:Around} {E:Value->Shared->Prop} {s:Shared}
end
section
variable {X:Cx}
end
end L2
namespace L2
open PySem PySem.Spec PyProof.Rows
section
variable {κ:Type} [DecidableEq κ]
end
section
variable {P:Program} {w:World} {H:Hp} {h:Heap} {a:Addr}
end
section
variable {X:Cx} {pins:List (Addr×Obj)} {σ:St} {H:Hp} {s:Shared} {a:Addr} {y v:V} {u r:Value} {o:Option V} {A:Around} {E:Value->Shared->Prop}
theorem Inv.big (I:Inv X pins σ H s):sysModules<s.heap.objs.size:=by
 have h:mainGlobals<s.heap.objs.size:=(I.mod.glob.keeps I.bk).lt;exact Nat.lt_trans (by decide) h
end
section
variable {X:Cx} {pins:List (Addr×Obj)} {σ:St} {H:Hp} {s:Shared} {a:Addr} {kvs:List (Key×V)} {k:Key} {u:Value} {A:Around} {E:Value->Shared->Prop}
end
section
variable {X:Cx} {o i e value:Expr} {pos pos' tpos:Pos} {td ty tv:TE}
end
theorem Ld {P:Program} {w:World} {H:Hp} (h:Heap) (hb:sysModules<h.objs.size):eY P w H (h.push {cls:= .type "dict",data:= .dict #[]}) h.objs.size (.dK []):=
 ⟨Nat.zero_le _,beq_eq_false_iff_ne.mpr (Ne.symm (Nat.ne_of_lt hb)),[],.nil,Heap.DictOf.new h⟩
def QW:TE:=fun _ H Q=>∀p,H p=none->Q (.ref p) (upd H p (.dK []))
section
variable {X:Cx} {pos:Pos}
theorem JL:PE X (.Dict [] [] pos) QW:=fun pins s σ H Q I h=>
 wpAny_Dict_empty ⟨.ref s.heap.objs.size,_,I.laid (a:=s.heap.objs.size) (o:= .dK []) (t':=s.toks) (fun _ _ q=>Heap.get?_push_of_some _ q) (Nat.le_refl _) (Ld s.heap I.big),rfl,h _ (I.hok.fresh (Nat.le_refl _))⟩
end
structure M1 (X:Cx) (o:Expr) (m:Str) (apos:Pos) (e:Expr) (cpos:Pos):Prop where
 base:attributeBase o m X.env (eval o X.env)=eval o X.env
 few:((backTo cpos (starEach [e] X.env)).all (fun x=> !x.1)&&(backToKw cpos (keywordEach [] X.env)).all (fun x=>x.1.isSome)
  && decide (([e]:List Expr).length+([]:List Keyword).length+(if ([]:List Keyword).isEmpty then 0 else 1)<30))=true
 line:(apos.endLine==cpos.line)=true
 trees:backTo cpos (starEach [e] X.env)=[(false,eval e X.env)]
structure M2 (X:Cx) (o:Expr) (m:Str) (apos:Pos) (e f:Expr) (cpos:Pos):Prop where
 base:attributeBase o m X.env (eval o X.env)=eval o X.env
 few:((backTo cpos (starEach [e,f] X.env)).all (fun x=> !x.1)&&(backToKw cpos (keywordEach [] X.env)).all (fun x=>x.1.isSome)
  && decide (([e,f]:List Expr).length+([]:List Keyword).length+(if ([]:List Keyword).isEmpty then 0 else 1)<30))=true
 line:(apos.endLine==cpos.line)=true
 trees:backTo cpos (starEach [e,f] X.env)=[(false,eval e X.env),(false,eval f X.env)]
section
variable {X:Cx} {pins:List (Addr×Obj)} {σ:St} {H:Hp} {s:Shared} {a:Addr} {y d:V} {u r:Value} {o:Option V} {A:Around} {E:Value->Shared->Prop}
end
section
variable {X:Cx} {o e f:Expr} {apos cpos:Pos} {td ty tx:TE}
end
section
variable {X:Cx} {pins:List (Addr×Obj)} {σ:St} {H:Hp} {s:Shared} {a:Addr} {kvs:List (Key×V)} {A:Around} {E:Value->Shared->Prop}
end
section
variable {X:Cx} {pins:List (Addr×Obj)} {σ:St} {H:Hp} {s:Shared} {a:Addr} {y:V} {u:Value} {A:Around} {E:Value->Shared->Prop}
end
end L2
namespace Att
open PySem PySem.W PySem.Calls PyProof.Rows
theorem uq {P:Params} {h:Heap}:∀(ns:List Int) (vs:List Value),WellAll P h vs (ns.map WData.int)->IntsAre vs ns:=by
 intro ns
 induction ns with
 | nil=>
   intro vs w;rw [List.map_nil] at w;cases w;exact .nil
 | cons n ns ih=>
   intro vs w;rw [List.map_cons] at w;cases w with
   | cons a b=>
     cases a;exact .cons _ _ (ih _ b)
theorem GR {l:OpenLaw} {n:Nat} (hn:l.most=some n) {P:Params} {h:Heap} {args:List WData} {vals:List Value}
 (hpre:l.row.toRowW.claim.pre args=true) (hwl:WellAll P h vals args):
 ∃a vs ns,vals=[Value.ref a]/\args=[WData.list (ns.map WData.int)]/\h.get? a=some {cls:= .type "list",data:= .seq vs.toArray}/\IntsAre vs ns/\ns.length<=n:=by
 have hsh:WShape.hasAll [] args [.list .int]=true:=(pre_splitW hpre).1;have hc:l.pre.holds [] {args:=args}=true:=(pre_splitW hpre).2;obtain ⟨d,r,rfl,h1,h2⟩:=hasAllW_cons hsh;obtain rfl:=hasAllW_nil h2;obtain ⟨xs,rfl,h3⟩:=hasW_list h1;obtain ⟨ns,rfl⟩:=items_int h3
 have hlen:ns.length<=n:=by
  unfold OpenLaw.pre at hc
  have h4:(WTm.not (.lt (.lit (.int (n:Int))) (.len (.arg 0)))).holds [] {args:=[.list (ns.map .int)]}=true:=by
   have h4:=(holds_andW hc).1;rw [hn] at h4;exact h4
  have h5:=condW_of h4 (w_not (w_lt w_lit (w_len_list (w_arg rfl))));rw [List.length_map] at h5;refine Nat.le_of_not_lt fun q=> ?_;have q':(n:Int)<((ns.length:Nat):Int):=by omega
  first
   | (rw [decide_eq_true q'] at h5;exact absurd h5 (by decide))
   | (simp at h5;omega)
 cases hwl with
 | cons w1 w2=>
   cases w2;cases w1 with
   | list ho hall=>exact ⟨_,_,ns,rfl,rfl,ho,uq ns _ hall,hlen⟩
theorem Hj (l:OpenLaw) (args:List WData):l.row.toRowW.claim.post args (.bool true) args=true:=
 postW_of (r:=l.row.toRowW) (X:=(true==true))
  (show WShape.has [] (.bool true) .bool=true by first |rfl|decide|simp [WShape.has,WShape.arms,WShape.armsAll])
  (show (WTm.eq .res (.lit (.bool true))).value [] {args:=args,res:=some (.bool true),after:=args}=some (.bool (true==true)) from w_eq_bool (w_res rfl) w_lit) rfl
theorem Cq {l:OpenLaw} {n:Nat} {q:Program} {loose:List Str} {XP:(Str->Option Value)->Heap->Prop} {YP:World->Heap->Prop} {d:DefRec}
 (hn:l.most=some n) (hdf:d.params.defaults=[])
 (call:∀(w:World) (s₀ s₁:Shared) (mg mb:Str->Option Value) (fa:Addr) (o:Obj) (pm cd doc:Value) (a:Addr) (vs:List Value) (ns:List Int),
   Ground q loose [] XP w s₀ mg mb s₁.heap->YP w s₁.heap ->
   s₁.heap.get? fa=some o->o.data = .func (docDef d.name d.params d.body d.scope pm cd doc)->s₁.heap.CodeRec cd d.name->mg d.name=some (.ref fa) ->
   s₁.heap.get? a=some {cls:= .type "list",data:= .seq vs.toArray}->IntsAre vs ns->ns.length<=n->s₁.gens = #[] ->
   codeAny (model l.prog w) callerA (.call (.ref fa) ⟨[.ref a],[]⟩) (fun r s'=>r = .ok (.ret (.bool true))/\OldK s₁.heap s'.heap/\s'.os=s₁.os/\AllBare s'.gens) s₁):
 WalkO q loose XP YP l.row.toRowW d [] (fun f vs=>PySem.call f vs):=by
 intro w s₀ s₁ mg mb G Y fa o pm cd doc dV kV ho hd hcd hD hmg hg args vals as hpre hlay hrd hwl hlo;obtain rfl:dV = .none:=Dflts.none hD hdf;obtain rfl:kV = .none:=Dflts.noKw hD;obtain ⟨a,vs,ns,rfl,rfl,hobj,hints,hlen⟩:=GR hn hpre hwl;refine enter_call (codeAny_mono (call w s₀ s₁ mg mb fa o pm cd doc a vs ns G Y ho (fd_plain hd) hcd hmg hobj hints hlen hg) fun r s' hq=> ?_);obtain ⟨rfl,h2,h3,h4⟩:=hq;exact ⟨.inl ⟨.bool true,.bool true,[],rfl,fun _=>rfl,.bool true,Hj l _,fun _=>⟨List.Pairwise.nil,fun _ hm=>(nomatch hm)⟩⟩,h2,h3,h4⟩
section
variable {prog:Program} {w:World} {A:Around} {E:Value->Shared->Prop} {s:Shared} {K:Frag}
def ledger (h:Heap) (L d:Addr):List (Addr×Obj):=(List.range h.objs.size).filterMap fun a=>if a=L\/a=d then none else (h.get? a).map fun o=>(a,o)
end
end Att
namespace L2
open PySem PySem.Spec PyProof.Rows
theorem GJ {vs:List Value} {ns:List Int} (h:IntsAre vs ns):Vals (ns.map V.int) vs:=by
 induction h with
 | nil=>exact .nil
 | cons n t h ih=>exact .cons ⟨t,rfl⟩ ih
def Only (H:Hp):Prop:=∀b,H b=none \/ ∃o xs,H b=some (.xJ o (.lst xs))
theorem Kw {P:Program} {w:World} {K:PySem.W.Frag} {mg mb:Str->Option Value} {CX:Iv} {k:Nat} {fa a:Addr} {fd:FuncData} {x:Str} {sp:Sp} {s₁:Shared} {vs:List Value} {ns:List Int}
 (KX:K.In s₁.heap) (hns:s₁.heap.Ns mainGlobals mg) (hb:s₁.heap.Ns builtinsNs mb) (hbb:∀x:Str,x ≠ "__name__" -> mb x=bootBuiltins x) (hlim:s₁.heap.NoLimit) (hg:s₁.gens = #[])
 (ha:s₁.heap.get? a=some {cls:= .type "list",data:= .seq vs.toArray}) (hi:IntsAre vs ns) (hl:ns.length<=sizeLine) (hr:cZ k callerA)
 (F:∀base:Heap,K.In base->base.Ns mainGlobals mg->bV P w K mg base CX k fa fd [x] sp) (hbind:∀(s:Shared) (u:Value),BindsTo s fd ⟨[u],[]⟩ [(x,u)])
 (hsp:∀H:Hp,Only H->bC K H a (ns.map V.int)->sp [.ref a] H (fun v _=>v = .bl true) fun _ _ _=>False)
 (hCX:∀H e s',CX [] H s₁ (fun _ _ _=>False) e s'->False):
 codeAny (model P w) callerA (.call (.ref fa) ⟨[.ref a],[]⟩) (fun r s'=>r = .ok (.ret (.bool true))/\OldK s₁.heap s'.heap/\s'.os=s₁.os/\AllBare s'.gens) s₁:=by
 have rv:=GJ hi;have lenV:=hi.length
 have core:∀H:Hp,Only H->bC K H a (ns.map V.int)->rB P w H s₁.heap->(∀b,H b≠none->b=a)->(H a≠none->K.lookup a=none) ->
  codeAny (model P w) callerA (.call (.ref fa) ⟨[.ref a],[]⟩) (fun r s'=>r = .ok (.ret (.bool true))/\OldK s₁.heap s'.heap/\s'.os=s₁.os/\AllBare s'.gens) s₁:=by
  intro H hO hS hok hA hK;have GC:∀{b:Addr} {o:Obj},s₁.heap.get? b=some o->H b=none->(zL s₁.heap H).get? b=some o:=fun e n=>KN e n
  have V2:∀{b:Addr} {o:Obj} {es:Array DictEntry} {ep:Nat},s₁.heap.get? b=some o->o.data = .dict es ep->H b=none:=fun {b o es ep} e d=>by
   cases q:H b with
   | none=>rfl
   | some u=>
     have e':b=a:=hA b (by rw [q];simp);subst e';rw [ha] at e;cases e;have d':Data.seq vs.toArray _=Data.dict es ep:=d;cases d'
  have Y5:∀{b:Addr} {m:Str->Option Value},s₁.heap.Ns b m->(zL s₁.heap H).Ns b m:=fun {b m} ⟨o,es,ep,e,d,r⟩=>⟨o,es,ep,GC e (V2 e d),d,r⟩
  have hKb:K.In (zL s₁.heap H):=fun b o e=>GC (KX b o e) (by
   cases q:H b with
   | none=>rfl
   | some u=>
     have e':b=a:=hA b (by rw [q];simp);subst e';rw [hK (by rw [q];simp)] at e;cases e)
  have hM:Mod K mg (zL s₁.heap H):=⟨hKb,Y5 hns,⟨mb,Y5 hb,hbb⟩,let ⟨mc,h1,h2⟩:=hlim;⟨mc,Y5 h1,h2⟩⟩;have e0:xX P w K mg (zL s₁.heap H) callerA [] s₁ H:=⟨rfl,hM,fun b o e=>Og e,Nat.le_of_eq (HN _ _),trivial,fun b hb=>absurd (show b∈([]:List Addr) from hb) (by simp),hok,.of_eq hg⟩;refine codeAny_mono ((F _ hKb (Y5 hns)).run callerA [] s₁ H ⟨[.ref a],[]⟩ [.ref a] [.ref a] _ _ hr e0 (hbind s₁ (.ref a)) (.cons rfl .nil) (hsp H hO hS)) fun r s' h=> ?_;cases r with
  | error e=>exact (hCX H e s' h).elim
  | ok fl=>
    cases fl with
    | next=>exact False.elim h
    | brk=>exact False.elim h
    | cont=>exact False.elim h
    | ret u=>
      obtain ⟨v,H',os,bare,un,hok',r',q⟩:=h;have q':v = .bl true:=q;subst q';obtain rfl:u=Value.bool true:=r';refine ⟨rfl,OldK.of_keep fun b o e=> ?_,os,bare⟩;cases q:H b with
      | none=>exact un.keep b o e q (by intro z;exact absurd (show b∈([]:List Addr) from z) (by simp)) (by simp)
      | some u=>
        rcases hO b with z|⟨ob,xs,z⟩
        ·rw [q] at z;cases z
        ·have z2:=un.wz b ob _ z
         obtain ⟨e1,_⟩:=hok b _ z;obtain ⟨e2,_⟩:=hok' b _ z2;rw [e] at e1;cases e1;exact e2
 cases hk:K.lookup a with
 | some o=>
   have e:=KX a o hk;rw [ha] at e;cases e;refine core (fun _=>none) (fun _=> .inl rfl) (.inr ⟨_,vs.toArray,_,hk,rfl,rfl,rfl,by rw [List.size_toArray,lenV];exact hl,by simpa using rv⟩) (fun b u z=>by have z':(none:Option HO)=some u:=z;cases z') (fun b z=>absurd rfl z) fun z=>absurd rfl z
 | none=>
   refine core (fun b=>if b=a then some (.xJ {cls:= .type "list",data:= .seq vs.toArray} (.lst (ns.map V.int))) else none) (fun b=> ?_) (.inl (.inr ⟨{cls:= .type "list",data:= .seq vs.toArray},if_pos rfl⟩)) (fun b u z=> ?_) (fun b z=> ?_) fun _=>hk
   ·by_cases hb:b=a
    ·exact .inr ⟨_,_,if_pos hb⟩
    ·exact .inl (if_neg hb)
   ·by_cases hb:b=a
    ·have z':=(if_pos hb).symm.trans z
     cases z';subst hb;exact ⟨ha,by rw [List.length_map];exact hl,vs,_,rv,ha⟩
    ·have z':=(if_neg hb).symm.trans z
     cases z'
   ·by_cases hb:b=a
    ·exact hb
    ·exact absurd (if_neg hb) z
end L2
namespace L2
open PySem PySem.Spec PyProof.Rows
abbrev KOf {K:PySem.W.Frag} {h:Heap} (_:K.In h):PySem.W.Frag:=K
theorem Ms {l:PySem.W.OpenLaw} {n k:Nat} {q:Program} {loose:List Str} {XP:(Str->Option Value)->Heap->Prop} {YP:World->Heap->Prop} {d:DefRec} {K:Params->PySem.W.Frag} {CX:World->Iv} {sp:World->Sp} {x:Str}
 (hn:l.most=some n) (hn2:n<=sizeLine) (hdf:d.params.defaults=[]) (hr:cZ k callerA)
 (hY:∀(w:World) (h:Heap),YP w h->(K w.params).In h)
 (F:∀(w:World) (mg:Str->Option Value) (fa:Addr) (h:Heap),(K w.params).In h->h.Ns mainGlobals mg->mg d.name=some (.ref fa) ->
   ∃fd:FuncData,(∀(s:Shared) (u:Value),BindsTo s fd ⟨[u],[]⟩ [(x,u)]) /\
    ∀base:Heap,(K w.params).In base->base.Ns mainGlobals mg->bV l.prog w (K w.params) mg base (CX w) k fa fd [x] (sp w))
 (hsp:∀(w:World) (H:Hp) (a:Addr) (ns:List Int),ns.length<=n->Only H->bC (K w.params) H a (ns.map V.int)->sp w [.ref a] H (fun v _=>v = .bl true) fun _ _ _=>False)
 (hCX:∀(w:World) (H:Hp) (s:Shared) (e:Value) (s':Shared),CX w [] H s (fun _ _ _=>False) e s'->False):
 PySem.W.WalkO q loose XP YP l.row.toRowW d [] (fun f vs=>PySem.call f vs):=by
 refine Att.Cq hn hdf fun w s₀ s₁ mg mb fa o pm cd doc a vs ns G Y ho hd hcd hmg hobj hints hlen hg=> ?_;have KX:=hY w _ Y;obtain ⟨fd,hb,hF⟩:=F w mg fa _ KX G.T.g hmg;exact Kw KX G.T.g G.T.b G.T.builtins G.T.nolimit hg hobj hints (Nat.le_trans hlen hn2) hr hF hb (fun H hO hS=>hsp w H a ns hlen hO hS) fun H e s'=>hCX w H s₁ e s'
end L2
namespace L2
open PySem PySem.Spec PyProof.Rows
def inClass (s:Stmt) (j:Nat):Stmt:=match s with
 | .ClassDef _ _ _ body _ _ _ _ _ _ _=>body.getD j (.Pass ⟨0,0,0,0⟩)
 | _=> .Pass ⟨0,0,0,0⟩
def aM (s:Stmt):Arguments:=match s with
 | .FunctionDef _ a _ _ _ _ _ _ _ _=>a
 | _=>{posonlyargs:=[],args:=[],vararg:=none,kwonlyargs:=[],kw_defaults:=[],kwarg:=none,defaults:=[]}
def aK (s:Stmt):List Stmt:=match s with
 | .FunctionDef _ _ b _ _ _ _ _ _ _=>b
 | _=>[]
def aD (s:Stmt):Scope:=match s with
 | .FunctionDef _ _ _ _ _ _ sc _ _ _=>sc
 | _=>{kind:= .function,names:=[],isGenerator:=false,isCoroutine:=false}
abbrev iD:Iv:=fun _ _ _ _ _ _=>False
abbrev E0:XK:=fun _ _ _=>False
theorem Bl {X:Cx}:Passes iD X E0:=fun _ _ _ _ _ _ _ h=>h.elim
structure iY (K:PySem.W.Frag) (x qual:Str) (st:Stmt) (f:Addr) (fd:FuncData):Prop where
 ex:∃(oc:Value) (od:Option Addr) (kV doc pm:Value) (an:Option Addr) (cdv ct:Value) (osl:Array (Option Value)),
  fd=PySem.W.fnOf x qual (aM st) (aK st) (aD st) .none kV doc pm an cdv ct/\K.lookup f=some ⟨oc,od,.func fd,osl⟩/\PySem.W.codeIn K cdv qual=true
 kp:PySem.W.keepIn K (.ref f)=true
section
variable {P:Program} {w:World} {K:PySem.W.Frag} {mg:Str->Option Value} {base:Heap}
theorem iY.ok {x qual:Str} {st:Stmt} {f:Addr} {fd:FuncData} {N ps:List Str} {k:Nat} {sp:Sp} (F:iY K x qual st f fd) (S:bh N ps (aD st)) (len:∀vs H Q E,sp vs H Q E->vs.length=ps.length)
 (hbody:∀(cdv:Value) (A:Around) (outer:List Env) (s:Shared) (H:Hp) (vs:List V) (Q:VK) (E:XK),cZ k (A.deeper (envOfC qual (aD st) s.heap.objs.size f cdv))->sp vs H Q E ->
   ∃t,Eu (mY iD P w K mg base N qual (aD st) f cdv A outer s H E).Y6 (aK st) t/\t {nx:=fun _ H'=>Q .non H',rt:=Q} (start N vs) H):bV P w K mg base iD (k+1) f fd ps sp:=by
 obtain ⟨oc,od,kV,doc,pm,an,cdv,ct,osl,rfl,lk,hcd⟩:=F.ex;refine K7 lk hcd S len fun A outer s H vs Q E hr hsp=> ?_;obtain ⟨t,h,q⟩:=hbody cdv A outer s H vs Q E hr hsp;exact ⟨t,h.Y6,q⟩
theorem iY.binds {x qual:Str} {st:Stmt} {f:Addr} {fd:FuncData} {ps:List Str} (F:iY K x qual st f fd)
 (h:∀(kV doc pm:Value) (an:Option Addr) (cdv ct:Value) (us:List Value),us.length=ps.length->bindArgs (PySem.W.fnOf x qual (aM st) (aK st) (aD st) .none kV doc pm an cdv ct) ⟨us,[]⟩=pure (ps.zip us)):Binds K fd ps []:=by
 obtain ⟨oc,od,kV,doc,pm,an,cdv,ct,osl,rfl,lk,hcd⟩:=F.ex;exact .all (h kV doc pm an cdv ct)
theorem bO {x qual:Str} {st:Stmt} {f:Addr} {oc:Value} {od an:Option Addr} {osl:Array (Option Value)} {kV doc pm cdv ct:Value} (l:K.lookup f=some ⟨oc,od,.func (PySem.W.fnOf x qual (aM st) (aK st) (aD st) .none kV doc pm an cdv ct),osl⟩)
 (c:PySem.W.codeIn K cdv qual=true) (k:PySem.W.keepIn K (.ref f)=true):iY K x qual st f (PySem.W.fnOf x qual (aM st) (aK st) (aD st) .none kV doc pm an cdv ct):=⟨⟨oc,od,kV,doc,pm,an,cdv,ct,osl,rfl,l,c⟩,k⟩
end
section
variable {X:Cx}
theorem pv (i:Nat) {x:Str} {pos:Pos} (hN:X.N[i]? = some x:=by rfl) (hv:Vis X.env.scope x:=by first |exact Or.inl rfl|exact Or.inr (Or.inl rfl)|exact Or.inr (Or.inr rfl)) (hd:(x==("__debug__" :Str))=false:=by decide)
 (hcd:(x==("__classdict__" :Str))=false:=by decide):PE X (.Name x pos) (pU i):=Rn hN hv hd hcd
end
theorem fM {A B:Prop} (h:B):if false=true then A else B:=by
 rw [if_neg Bool.false_ne_true];exact h
theorem iR {A B:Prop} (h:A):if true=true then A else B:=by
 rw [if_pos rfl];exact h
theorem bH {c A B:Prop} [Decidable c] (h1:c->A) (h2:¬c->B):if c then A else B:=by
 by_cases h:c
 ·rw [if_pos h]
  exact h1 h
 ·rw [if_neg h]
  exact h2 h
theorem BK {c A B:Prop} [Decidable c] (hc:c) (h:B):if (!decide c)=true then A else B:=by
 rw [decide_eq_true hc];exact fM h
def Same (H H':Hp):Prop:=∀b o,H b=some o->H' b=some o
theorem Same.refl (H:Hp):Same H H:=fun _ _ h=>h
theorem Same.trans {H H1 H2:Hp} (a:Same H H1) (b:Same H1 H2):Same H H2:=fun c o h=>b c o (a c o h)
theorem Same.free {H H':Hp} (e:Same H H') {l:Addr} (h:H' l=Option.none):H l=Option.none:=by
 cases q:H l with
 | none=>rfl
 | some o=>
   rw [e l o q] at h;cases h
theorem Same.seq {K:PySem.W.Frag} {H H':Hp} {a:Addr} {xs:List V} (e:Same H H') (h:bC K H a xs):bC K H' a xs:=by
 rcases h with (h|⟨o,h⟩)|h
 ·exact .inl (.inl (e _ _ h))
 ·exact .inl (.inr ⟨o,e _ _ h⟩)
 ·exact .inr h
section
variable {κ:Type} [DecidableEq κ]
end
end L2
set_option Elab.async false
set_option linter.all false
set_option maxRecDepth 100000
set_option maxHeartbeats 4000000
namespace L2
open PySem PySem.Spec PyProof.Rows
theorem yh {a n:Addr} (h:a<n): @LT.lt Nat _ a n:=h
def oE (env:Env):List (Str×NameKind)->List (Str×Addr)->List (Str×Addr)
 | [],acc=>acc
 | (n,k)::r,acc=>if k == .free then oE env r ((n,(env.cells.lookup n).getD 0)::acc) else oE env r acc
theorem Em {env:Env} {scope:Scope} (h:∀y∈scope.names,y.2 = .free->(env.cells.lookup y.1).isSome=true):closureFor scope env=pure (oE env scope.names []):=by
 have go:∀(ns:List (Str×NameKind)) (acc:List (Str×Addr)),(∀y∈ns,y.2 = .free->(env.cells.lookup y.1).isSome=true) ->
  (forIn ns acc (fun x cs=>match x with |(name,kind)=>if (kind == .free)=true then do let c ←cellOf env name;pure (ForInStep.yield ((name,c)::cs)) else pure (ForInStep.yield cs)):Sem (List (Str×Addr)))=pure (oE env ns acc):=by
  intro ns
  induction ns with
  | nil=>intro acc _;rfl
  | cons y r ih=>
    intro acc hy;obtain ⟨n,k⟩:=y;rw [List.forIn_cons]
    by_cases hk:k = .free
    ·subst hk
     have hs:=hy (n,.free) List.mem_cons_self rfl;obtain ⟨c,hc⟩:=Option.isSome_iff_exists.mp hs;have e:cellOf env n=pure c:=by unfold cellOf;rw [hc]
     show _=pure (oE env r ((n,(env.cells.lookup n).getD 0)::acc));rw [←ih _ fun y hm=>hy y (List.mem_cons_of_mem _ hm)];simp only [beq_self_eq_true,if_true,e,pure_bind,hc,Option.getD_some]
    ·have hb:(k==NameKind.free)=false:=by simpa using hk
     have hc:oE env ((n,k)::r) acc=oE env r acc:=by
      show (if (k==NameKind.free)=true then _ else _)=_;rw [if_neg (by rw [hb];decide)]
     rw [hc,←ih _ fun y hm=>hy y (List.mem_cons_of_mem _ hm)];simp only [hb,Bool.false_eq_true,if_false,pure_bind]
 have q:=go scope.names [] h;unfold closureFor;show (forIn scope.names [] _ >>= fun r=>pure r)=_;rw [bind_pure];exact q
theorem ji {env:Env}:∀(ns:List (Str×NameKind)) (acc:List (Str×Addr)) (x:Str),(∀y∈ns,y.2 = .free->(env.cells.lookup y.1).isSome=true) ->
 (oE env ns acc).lookup x=if (x,NameKind.free)∈ns then env.cells.lookup x else acc.lookup x
 | [],acc,x,_=>by simp [oE]
 | (n,k)::r,acc,x,h=>by
   have hr:∀y∈r,y.2 = .free->(env.cells.lookup y.1).isSome=true:=fun y hm=>h y (List.mem_cons_of_mem _ hm)
   by_cases hk:k = .free
   ·subst hk
    show (oE env r ((n,(env.cells.lookup n).getD 0)::acc)).lookup x=_;rw [ji r _ x hr];obtain ⟨c,hc⟩:=Option.isSome_iff_exists.mp (h (n,.free) List.mem_cons_self rfl);have hc:env.cells.lookup n=some c:=hc
    by_cases hm:(x,NameKind.free)∈r
    ·rw [if_pos hm,if_pos (List.mem_cons_of_mem _ hm)]
    ·rw [if_neg hm]
     by_cases e:x=n
     ·subst e
      rw [if_pos List.mem_cons_self,List.lookup_cons,hc];simp
     ·rw [if_neg (fun z=>(List.mem_cons.mp z).elim (fun q=>e (congrArg Prod.fst q)) hm),List.lookup_cons]
      have:(x==n)=false:=by simpa using e
      rw [this]
   ·have hb:(k==NameKind.free)=false:=by simpa using hk
    have hc:oE env ((n,k)::r) acc=oE env r acc:=by
     show (if (k==NameKind.free)=true then _ else _)=_;rw [if_neg (by rw [hb];decide)]
    rw [hc,ji r acc x hr]
    have:((x,NameKind.free)∈(n,k)::r)↔(x,NameKind.free)∈r:=by
     constructor
     ·intro z
      rcases List.mem_cons.mp z with q|q
      ·exact absurd (congrArg Prod.snd q).symm hk
      ·exact q
     ·exact List.mem_cons_of_mem _
    simp only [this]
theorem jH (env:Env):∀(ns:List (Str×NameKind)) (x:Str),
 (ns.map fun (n,k)=>if (k == .free&&env.scope.kind == .function&&env.kindOf n==some .cell) then (n,NameKind.cell) else (n,k)).lookup x =
   (ns.lookup x).map fun k=>if (k == .free&&env.scope.kind == .function&&env.kindOf x==some .cell)=true then NameKind.cell else k
 | [],x=>rfl
 | (n,k)::r,x=>by
   show List.lookup x ((if (k==NameKind.free&&env.scope.kind == .function&&env.kindOf n==some .cell)=true then (n,NameKind.cell) else (n,k))::_)=_;cases hx:x==n with
   | true=>
     have e:x=n:=by simpa using hx
     subst e
     by_cases hc:(k==NameKind.free&&env.scope.kind == .function&&env.kindOf x==some .cell)=true
     ·rw [if_pos hc];simp only [List.lookup_cons,hx,Option.map_some,if_pos hc]
     ·rw [if_neg hc];simp only [List.lookup_cons,hx,Option.map_some,if_neg hc]
   | false=>
     have ih:=jH env r x
     by_cases hc:(k==NameKind.free&&env.scope.kind == .function&&env.kindOf n==some .cell)=true
     ·rw [if_pos hc];simp only [List.lookup_cons,hx];exact ih
     ·rw [if_neg hc];simp only [List.lookup_cons,hx];exact ih
structure bK (N own:List Str) (caps:List Nat) (XN:List Str) (outer scope:Scope):Prop where
 kind:scope.kind = .function
 Kg:∀y∈scope.names,y.2 ≠ .cell
 names:∀y∈scope.names,y.2 = .local->scope.names.lookup y.1=some .local
 free:∀y∈scope.names,y.2 = .free->outer.names.lookup y.1=some .cell\/outer.names.lookup y.1=some .free
 nd:N.Nodup
 len:N.length=own.length+caps.length
 cap:∀(j:Nat),j<caps.length->N[own.length+j]? = XN[caps.getD j 0]? /\ ∃x,N[own.length+j]? = some x/\(x,NameKind.free)∈scope.names/\scope.names.lookup x=some .free
def st0 (own:List Str) (caps:List Nat) (σ:St):St:=own.map (fun _=>none)++caps.map (fun i=>(σ[i]?).join)
def fP (X:Cx) (scope:Scope) (C:Addr) (N:List Str) (s:Shared) (H:Hp) (fp:List Addr):Cx:=
 {X with N:=N,s₀:=s,H₀:=H,env:=compEnvC scope (oE X.env scope.names []) C X.env,outer:=X.stack,ex:=fp,fn:=fun _=>false,pn:=[],xe:=fun _ _=>False}
section
variable {X:Cx} {pins:List (Addr×Obj)} {σ:St} {H:Hp} {s:Shared} {scope:Scope} {N own:List Str} {caps:List Nat} {fp:List Addr} {C:Nat}
theorem bK.Lj (S:bK N own caps X.N X.env.scope scope) (ok:X.Ok):∀y∈scope.names,y.2 = .free->(X.env.cells.lookup y.1).isSome=true:=fun y hy hf=>by
 obtain ⟨c,e⟩:=ok.has y.1 (S.free y hy hf);rw [e];rfl
theorem bK.csub (S:bK N own caps X.N X.env.scope scope) (ok:X.Ok) {x:Str} {c:Addr} (h:(oE X.env scope.names []).lookup x=some c):X.env.cells.lookup x=some c:=by
 rw [ji _ _ _ (S.Lj ok)] at h;split at h
 ·exact h
 ·simp at h
theorem bK.Ks {S:bK N own caps X.N X.env.scope scope} {x:Str} (h:(relabel scope X.env).names.lookup x=some .cell\/(relabel scope X.env).names.lookup x=some .free):(x,NameKind.free)∈scope.names:=by
 have e:=jH X.env scope.names x;have e':(relabel scope X.env).names.lookup x=(scope.names.lookup x).map fun k=>if (k == .free&&X.env.scope.kind == .function&&X.env.kindOf x==some .cell)=true then NameKind.cell else k:=e;rw [e'] at h;cases q:scope.names.lookup x with
 | none=>rw [q] at h;simp at h
 | some k=>
   have hm:=PySem.mem_of_lookup q
   by_cases hk:k = .free
   ·subst hk;exact hm
   ·rw [q] at h
    have hb:(k==NameKind.free)=false:=by simpa using hk
    simp only [Option.map_some,hb,Bool.false_and,Bool.false_eq_true,if_false] at h;rcases h with h|h
    ·exact absurd (Option.some.inj h) (S.Kg _ hm)
    ·exact absurd (Option.some.inj h) hk
theorem Inv.comp {h1:Heap} {D:Nat} (I:Inv X pins σ H s) (S:bK N own caps X.N X.env.scope scope) (hfp:∀b∈fp,qm X pins H b) (hfo:∀b∈fp,∃o,s.heap.get? b=some o)
 (hD:D=s.heap.objs.size) (hC:C=s.heap.objs.size+1) (old:∀b o,s.heap.get? b=some o->h1.get? b=some o) (hns:h1.Ns C (fun _=>none)) (hl:h1.get? D=some {cls:= .type "list",data:= .seq #[]}) {t:Nat}:
 Inv (fP X scope C N s H fp) [] (st0 own caps σ) (upd H D (.lst [])) {s with heap:=h1,toks:=t}:=by
 have some':=S.Lj I.ok;have sub:∀{x c},(oE X.env scope.names []).lookup x=some c->X.env.cells.lookup x=some c:=fun h=>S.csub I.ok h;have freshD:H D=none:=I.hok.fresh (by rw [hD];exact Nat.le_refl _);have S6:H C=none:=I.hok.fresh (by rw [hC];exact Nat.le_succ _)
 have Tt:∀x c,X.env.cells.lookup x=some c->c<s.heap.objs.size:=fun x c e=>by
  obtain ⟨v,z⟩:=I.cell x c e;exact z.lt
 have afN:∀b∈fp,b<s.heap.objs.size:=fun b hb=>by
  obtain ⟨o,e⟩:=hfo b hb;exact Heap.lt_size e
 have DC:D≠C:=by omega
 refine ⟨⟨I.ok.mod,S.kind,I.ok.glob,I.ok.blt,by show s.heap.objs.size<=C;omega,fun x y c e1 e2=>I.ok.inj x y c (sub e1) (sub e2),fun x h=> ?_,fun x c h=>(by cases h),I.ok.hd,I.ok.frames,Or.inl rfl,fun b hb=>⟨?_,fun x c e=> ?_⟩,I.bs,Nat.le_trans I.ok.Ls I.sz,fun b o e hb=> ?_,fun b hb z=> ?_,I.stack,I.yM⟩,
  rfl,I.bare,Un.laid old (by show s.heap.objs.size<=D;omega) freshD,⟨_,hns,fun j x v e1 e2 e3=> ?_⟩,fun x c e=> ?_, ?_,fun x c e=> ?_,fun p hp=> ?_,I.hok.laid old (by omega) ?_, ?_⟩
 ·have hm:=bK.Ks (S:=S) (X:=X) h
  obtain ⟨c,e⟩:=Option.isSome_iff_exists.mp (some' _ hm rfl);exact ⟨c,by show (oE X.env scope.names []).lookup x=_;rw [ji _ _ _ some',if_pos hm];exact e⟩
 ·exact Nat.ne_of_lt (show @LT.lt Nat _ b C by have:=yh (afN b hb);omega)
 ·exact (hfp b hb).2.2.2.2.1 x c (sub e)
 ·rcases (hfp b hb).2.2.2.1 with z|z
  ·exact I.ok.Kf b o e z
  ·exact absurd (Nat.lt_of_lt_of_le (Heap.lt_size e) (Nat.le_trans I.ok.Ls z)) (Nat.lt_irrefl _)
 ·rcases List.mem_cons.mp (I.vq b z) with q|q
  ·exact (hfp b hb).2.1 q
  ·exact (hfp b hb).2.2.1 q
 ·have e1:N[j]? = some x:=e1
  have hj:own.length<=j:=by
   by_cases q:own.length<=j
   ·exact q
   ·exfalso
    unfold st0 at e2;rw [List.getElem?_append_left (by simp;omega),List.getElem?_map] at e2;cases r:own[j]? with
    | none=>rw [r] at e2;cases e2
    | some a=>rw [r] at e2;cases e2
  have hjl:j<N.length:=(List.getElem?_eq_some_iff.mp e1).1;have hjc:j - own.length<caps.length:=by have:=S.len;omega
  obtain ⟨c1,x',c2,c3,c4⟩:=S.cap (j - own.length) hjc;rw [show own.length+(j - own.length)=j by omega] at c1 c2;rw [e1] at c2;cases c2
  have e2':(σ[caps.getD (j - own.length) 0]?).join=some v:=by
   unfold st0 at e2;rw [List.getElem?_append_right (by simp;omega),List.getElem?_map,List.length_map] at e2;rw [List.getD_eq_getElem?_getD];cases r:caps[j - own.length]? with
   | none=>rw [r] at e2;cases e2
   | some a=>rw [r] at e2;exact Option.some.inj e2
  have agb:σ[caps.getD (j - own.length) 0]? = some (some v):=by
   cases r:σ[caps.getD (j - own.length) 0]? with
   | none=>rw [r] at e2';cases e2'
   | some a=>rw [r] at e2';exact congrArg Option.some e2'
  have kx:X.env.kindOf x=some .cell\/X.env.kindOf x=some .free:=S.free _ c3 rfl;obtain ⟨m,hn,hl'⟩:=I.loc;obtain ⟨u,r,l⟩:=hl' _ x v (by rw [←c1];exact e1) agb (by rcases kx with z|z;exact .inr (.inl z);exact .inr (.inr z));refine ⟨u,r,.inr ⟨?_, ?_⟩⟩
  ·show (relabel scope X.env).names.lookup x=some .cell\/(relabel scope X.env).names.lookup x=some .free
   have e:(relabel scope X.env).names.lookup x=(scope.names.lookup x).map fun k=>if (k == .free&&X.env.scope.kind == .function&&X.env.kindOf x==some .cell)=true then NameKind.cell else k:=jH X.env scope.names x;rw [e,c4,Option.map_some];split
   ·exact .inl rfl
   ·exact .inr rfl
  ·rcases l with ⟨hk,_⟩|⟨_,c,hc,z⟩
   ·rcases kx with q|q<;>rw [hk] at q<;>cases q
   ·refine ⟨c, ?_, ?_⟩
    ·show (oE X.env scope.names []).lookup x=_
     rw [ji _ _ _ some',if_pos c3];exact hc
    ·obtain ⟨o,ho,hd⟩:=z
     exact ⟨o,old c o ho,hd⟩
 ·obtain ⟨v,o,ho,hd⟩:=I.cell x c (sub e)
  exact ⟨v,o,old c o ho,hd⟩
 ·show upd H D (.lst []) C=none
  rw [aG DC.symm];exact S6
 ·show upd H D (.lst []) c=none
  rw [aG (Nat.ne_of_lt (by have:=yh (Tt x c (sub e));omega))];exact I.n_ x c (sub e)
 ·cases hp
 ·exact ⟨Nat.zero_le _,[],0,.nil,hl⟩
 ·show (own.map (fun _=>none)++caps.map _).length=N.length
  rw [List.length_append,List.length_map,List.length_map,S.len]
theorem Inv.Jh {FN:List (Addr×Obj)} {σ':St} {H':Hp} {s':Shared} {h':Heap} (I:Inv X pins σ H s) (hfp:∀b∈fp,qm X pins H b) (hC:s.heap.objs.size<=C) (J:Inv (fP X scope C N s H fp) FN σ' H' s') (hs:Heap.SameBut C s'.heap h'):
 Inv X pins σ H' {s' with heap:=h'}:=by
 have nC:∀b o,s.heap.get? b=some o->b≠C:=fun b o e=>Nat.ne_of_lt (by have:=yh (Heap.lt_size e);omega);have u:=J.base;have frC:H' C=none:=J.free;refine I.call' (ch:=fp) (s':={s' with heap:=h'}) J.os ⟨fun b o e n hb hx=> ?_,fun b o e n hb hx=> ?_,u.free,fun b o e hx=> ?_,u.tups,u.wz,u.xg⟩ (fun a o e=>(J.hok a o e).stay (fun b v hb q=> ?_) (fun _ q=>q) fun _ _ q=>q) J.bare fun b hb=> ?_
 ·exact (hs.2 b (nC b o e)).trans (u.keep b o e n hb hx)
 ·obtain ⟨sl,q⟩:=u.slot b o e n hb hx
  exact ⟨sl,(hs.2 b (nC b o e)).trans q⟩
 ·obtain ⟨o',q⟩:=u.there b o e hx
  exact ⟨o',(hs.2 b (nC b o e)).trans q⟩
 ·refine (hs.2 b ?_).trans q
  intro z;subst z;rcases hb with z|z
  ·subst z;rw [frC] at e;cases e
  ·rw [frC] at z;cases z
 ·exact ⟨(hfp b hb).2.2.2.1,(hfp b hb).2.1,(hfp b hb).2.2.2.2.1,(hfp b hb).2.2.2.2.2⟩
end
section
variable {prog:Program} {w:World} {A:Around} {R:Result->Shared->Prop} {s:Shared}
theorem zU {elt target iter:Expr} {ifs:List Expr} {scope:Scope} {pos:Pos} {it acc:Value} {env:Env} (I:Nat->Shared->Prop)
 (turn:∀n s,I n s->wpAny (model prog w) A (pyNext it) (fun r s1=>match r with
   | none=>R (.ok .next) s1
   | some v=>wpAny (model prog w) A (letOwnedTupleGo target it v) (fun _ s1'=>wpAny (model prog w) A (assign target env v) (fun _ s2=>
      wpAny (model prog w) A (forIn ifs true fun c r=>if r=true then do let ok ←isTrue c env (eval c env);pure (ForInStep.yield ok) else pure (ForInStep.yield r)) (fun ok s3=>
       if ok=true then wpAny (model prog w) A (eval elt env) (fun x s4=>
        wpAny (model prog w) A (call (.builtin "list.append") [acc,x]) (fun _ s5=>∃m,m<n/\I m s5) (fun _ _=>False) s4) (fun _ _=>False) s3
       else ∃m,m<n/\I m s3) (fun _ _=>False) s2) (fun _ _=>False) s1') (fun _ _=>False) s1) (fun _ _=>False) s)
 (n:Nat) (h:I n s):
 codeAny (model prog w) A (.compLoop (.ListComp elt [⟨target,iter,ifs,0⟩] scope pos) 0 it acc env) R s:=by
 refine codeAny_loop rfl I (fun n s hI=> ?_) n h;show wpAny _ A ((compTurn (.ListComp elt [⟨target,iter,ifs,0⟩] scope pos) 0 it acc env).onRaise (fun x=>do noteFrame x env;theTreesLotGoes x)) _ _ s;refine wpAny_noted ?_;rw [compTurn_list];refine wpAny_bind (wpAny_standAt (wpAny_bind (wpAny_mono (turn n s hI) (fun r s1 h1=> ?_) fun _ _ h'=>h'.elim)));cases r with
 | none=>exact wpAny_pure h1
 | some v=>
   refine wpAny_bind (wpAny_mono h1 (fun _ s1' h1'=> ?_) fun _ _ h'=>h'.elim);refine wpAny_bind (wpAny_mono h1' (fun _ s2 h2=>wpAny_bind (wpAny_mono h2 (fun ok s3 h3=> ?_) fun _ _ h'=>h'.elim)) fun _ _ h'=>h'.elim);cases ok with
   | false=>exact wpAny_pure ⟨rfl,h3⟩
   | true=>
     exact wpAny_bind (wpAny_bind (wpAny_mono h3 (fun x s4 h4=>wpAny_bind (wpAny_mono h4 (fun _ s5 h5=>wpAny_pure (wpAny_pure ⟨rfl,h5⟩)) fun _ _ h'=>h'.elim)) fun _ _ h'=>h'.elim))
end
def Yn (X:Cx) (ifs:List Expr) (t:TT):Prop:=
 ∀(pins:List (Addr×Obj)) (s:Shared) (σ:St) (H:Hp) (Q:Bool->Hp->Prop),Inv X pins σ H s->t σ H Q ->
  wpAny (model X.prog X.w) X.A (forIn ifs true fun c r=>if r=true then do let ok ←isTrue c X.env (eval c X.env);pure (ForInStep.yield ok) else pure (ForInStep.yield r)) (TP X pins σ Q) X.xe s
def rM:TT:=fun _ H Q=>Q true H
theorem eU {X:Cx}:Yn X [] rM:=fun _ _ _ H _ I h=>wpAny_tests_nil ⟨H,I,h⟩
theorem Ni {X:Cx} {c:Expr} {t:TT} (h:PT X c t):Yn X [c] t:=fun pins s σ H Q I q=>wpAny_tests_one (h pins s σ H Q I q)
def oK (J:It) (g:TG) (tc:TT) (te:TE) (Q:VK) (D:Addr) (σ0:St) (H1:Hp):Prop:=
 ∃W:Nat->Nat->St->Hp->Prop,(∃m,W 0 m σ0 (upd H1 D (.lst []))) /\ ∀i m σ H,W i m σ H ->
  (J.stop i H/\Q (.ref D) H)\/(J.go i H /\ ∃N:St->Hp->Prop,(∀σ' H',N σ' H' -> ∃m',m'<m/\W (i+1) m' σ' H') /\ ∀x H',J.Ub i H x H'->g x σ H' fun σ2 H2=>tc σ2 H2 fun b H3=>
    if b=true then te σ2 H3 fun y H4=>∃acc,H4 D=some (.lst acc)/\acc.length<sizeLine/\N σ2 (upd H4 D (.lst (acc++[y]))) else N σ2 H3)
def Jr (own:List Str) (caps:List Nat) (wi:TI) (g:TG) (tc:TT) (te:TE):TE:=fun σ H Q=>wi σ H fun J H1=>∀D,H1 D=none->oK J g tc te Q D (st0 own caps σ) H1
section
variable {X:Cx} {elt tg iter:Expr} {ifs:List Expr} {scope:Scope} {pos:Pos} {N own:List Str} {caps:List Nat} {wi:TI} {g:TG} {tc:TT} {te:TE}
theorem BZ {use:Option (Value->Sem Unit)} {Qv:Value->Shared->Prop} {pins:List (Addr×Obj)} {σ:St} {H:Hp} {s:Shared} {Q:VK} (hc:X.calm=true) (S:bK N own caps X.N X.env.scope scope)
 (hg:∀C s H fp,PG (fP X scope C N s H fp) tg g) (hcs:∀C s H fp,Yn (fP X scope C N s H fp) ifs tc) (he:∀C s H fp,PE (fP X scope C N s H fp) elt te)
 (hi:PI X tg iter wi) (hs:∀x,foldedSetIterable iter X.env x=pure x)
 (I:Inv X pins σ H s) (h:Jr own caps wi g tc te σ H Q)
 (fin:∀(D C:Addr) (H':Hp) (s':Shared),(∃m,s'.heap.Ns C m)->Inv X pins σ H' s'->(∀h',Heap.SameBut C s'.heap h'->Inv X pins σ H' {s' with heap:=h'})->qm X pins H' C->Q (.ref D) H' ->
   compPost (model X.prog X.w) X.A X.xe use Qv (.ref D) C (.ok .next) s'):
 wpAny (model X.prog X.w) X.A (comprehension (.ListComp elt [⟨tg,iter,ifs,0⟩] scope pos) scope X.env (firstIterPos [⟨tg,iter,ifs,0⟩] pos) (newList []) false (eval iter X.env) use) Qv X.xe s:=by
 refine wpAny_comprehension_free (use:=use) rfl hs (Em (S.Lj I.ok)) S.kind S.names (dZ (hi pins s σ H _ I h) fun xv s1 h1=>dZ h1 fun itv s2 h2=> ?_);obtain ⟨it,fp,tn,J,H2,e,I2,T,st2,f2,q2⟩:=h2;subst e;refine wpAny_newList ?_;refine wpAny_newFunctionEnv S.Kg (by intro y hy;simp at hy) (fun h1 Wq hsb1=> ?_) S.kind;dsimp only at Wq hsb1 ⊢;have hD:H2 s2.heap.objs.size=none:=I2.hok.fresh (Nat.le_refl _);have hsz:(s2.heap.push {cls:= .type "list",data:= .seq ([]:List Value).toArray}).objs.size=s2.heap.objs.size+1:=Heap.size_push ..
 have old:∀b o,s2.heap.get? b=some o->h1.get? b=some o:=fun b o e=>by
  refine hsb1.extBut b o (Nat.ne_of_lt (by have:=yh (Heap.lt_size e);rw [hsz];omega)) (Heap.get?_push_of_some _ (Heap.get?_push_of_some _ e))
 have hl:h1.get? s2.heap.objs.size=some {cls:= .type "list",data:= .seq #[]}:=
  hsb1.extBut _ _ (Nat.ne_of_lt (by rw [hsz];omega)) (Heap.get?_push_of_some _ (Heap.get?_push_size _ rfl))
 have hfo:∀b∈fp,∃o,s2.heap.get? b=some o:=fun b hb=>let ⟨o,e,_⟩:=T.obj _ _ st2 b hb;⟨o,e⟩
 have I4:=Inv.comp (C:=(s2.heap.push {cls:= .type "list",data:= .seq ([]:List Value).toArray}).objs.size) (t:=s2.toks+([]:List (Str×Value)).length) I2 S f2 hfo rfl hsz old Wq hl;obtain ⟨W,⟨m0,w0⟩,turn⟩:=q2 _ hD;generalize hCe:(s2.heap.push {cls:= .type "list",data:= .seq ([]:List Value).toArray}).objs.size=C at *;generalize hDe:s2.heap.objs.size=D at *;have hDC:D≠C:=by omega
 have loop:∀s3:Shared,s3={s2 with heap:=h1,toks:=s2.toks+([]:List (Str×Value)).length} ->
  codeAny (model X.prog X.w) X.A (.compLoop (.ListComp elt [⟨tg,iter,ifs,0⟩] scope pos) 0 (.ref it) (.ref D) (fP X scope C N s2 H2 fp).env) (compPost (model X.prog X.w) X.A X.xe use Qv (.ref D) C) s3:=by
  rintro s3 rfl
  have xJ:∀b∈fp,(upd H2 D (.lst [])) b=none:=fun b hb=>by
   obtain ⟨o,e⟩:=hfo b hb;rw [aG (Nat.ne_of_lt (by have:=yh (Heap.lt_size e);omega))];exact (f2 b hb).1
  have stat:∀{H':Hp},(∀b∈fp,H' b=none) -> ∀b∈fp,qm (fP X scope C N s2 H2 fp) [] H' b:=fun hn b hb=>by
   obtain ⟨o,e⟩:=hfo b hb;have hlt:=yh (Heap.lt_size e);refine ⟨hn b hb, ?_,fun z=> ?_,.inl hb,fun x c e'=>(f2 b hb).2.2.2.2.1 x c (S.csub I2.ok e'),fun p hp=>(by cases hp)⟩
   ·exact Nat.ne_of_lt (show @LT.lt Nat _ b C by omega)
   ·rcases List.mem_cons.mp (I2.vq b z) with q|q
    ·exact (f2 b hb).2.1 q
    ·exact (f2 b hb).2.2.1 q
  refine zU (fun n s'=>∃i σ' H',Inv (fP X scope C N s2 H2 fp) [] σ' H' s'/\tn i s'.heap/\(∀b∈fp,H' b=none)/\W i n σ' H') ?_ m0
   ⟨0,_,_,I4,T.keep _ _ _ st2 fun b _ o e=>old b o e,xJ,w0⟩
  rintro n s3 ⟨i,σ3,H3,I3,st3,WD,w3⟩;rcases turn i n σ3 H3 w3 with ⟨stop,qn⟩|⟨go,Nx,hNx,step⟩
  ·refine dZ (T.done (fP X scope C N s2 H2 fp) rfl rfl rfl hc i [] s3 σ3 H3 _ I3 (stat WD) st3 stop) fun r s4 ⟨hr,J4⟩=> ?_
   subst hr;obtain ⟨m4,hn4,_⟩:=J4.loc;exact fin D C H3 s4 ⟨m4,hn4⟩ (I2.Jh f2 (by omega) J4 (Heap.SameBut.refl _ _)) (fun h' hs'=>I2.Jh f2 (by omega) J4 hs') (I2.HX (show s2.heap.objs.size<=C by omega) J4.free) qn
  ·refine dZ (T.item (fP X scope C N s2 H2 fp) rfl rfl rfl hc i [] s3 σ3 H3 _ I3 (stat WD) st3 go) fun r s4 ⟨u,hr,h4⟩=> ?_
   subst hr;refine dZ h4 fun _ s5 ⟨x,H5,I5,r5,y5,MJ,fr5⟩=> ?_;have I5':=I5.pinned (stat fr5) (T.obj _ _ MJ);refine dZ (hg C s2 H2 fp _ s5 σ3 H5 x u _ I5' r5 (step x H5 y5)) fun _ s6 ⟨σ6,H6,I6,q6⟩=> ?_;refine dZ (hcs C s2 H2 fp _ s6 σ6 H6 _ I6 q6) fun ok s7 ⟨H7,I7,q7⟩=> ?_
   have again:∀{σ8:St} {H8:Hp} {s8:Shared},Inv (fP X scope C N s2 H2 fp) ([]++vO fp s5.heap) σ8 H8 s8->Nx σ8 H8 -> ∃m,m<n /\ ∃i σ' H',Inv (fP X scope C N s2 H2 fp) [] σ' H' s8/\tn i s8.heap/\(∀b∈fp,H' b=none)/\W i m σ' H':=fun {σ8 H8 s8} I8 n8=>by
    obtain ⟨m',hm,w8⟩:=hNx _ _ n8;refine ⟨m',hm,i+1,σ8,H8,I8.qy,T.keep _ _ _ MJ fun b hb o e=>(I8.pin (b,o) (List.mem_append_right _ (List.mem_append_right _ (mJ hb e)))).1,fun b hb=> ?_,w8⟩;obtain ⟨o,e,d⟩:=T.obj _ _ MJ b hb;exact (I8.pin (b,o) (List.mem_append_right _ (List.mem_append_right _ (mJ hb e)))).2.1
   cases ok with
   | false=>
     rw [if_neg (by decide)] at q7;exact again I7 q7
   | true=>
     rw [if_pos rfl] at q7;refine dZ (he C s2 H2 fp _ s7 σ6 H7 _ I7 q7) fun y s8 ⟨yv,H8,I8,r8,acc,ha,hlen,q8⟩=> ?_;exact dZ (yj _ s8 σ6 H8 (.ref D) [yv] (.ref D) [y] (fun v H9=>Nx σ6 H9) I8 rfl (.cons r8 .nil) ⟨D,acc,yv,rfl,rfl,ha,hlen,q8⟩) fun _ s9 ⟨_,H9,I9,_,q9⟩=>again I9 q9
 exact codeAny_compStart_list (loop _ rfl) (T.self _ 0 _ _ _ (T.keep _ _ _ st2 fun b _ o e=>old b o e) (loop _ rfl))
theorem gK (hc:X.calm=true) (S:bK N own caps X.N X.env.scope scope) (hi:PI X tg iter wi)
 (hg:∀C s H fp,PG (fP X scope C N s H fp) tg g) (hcs:∀C s H fp,Yn (fP X scope C N s H fp) ifs tc) (he:∀C s H fp,PE (fP X scope C N s H fp) elt te)
 (hs:∀x,foldedSetIterable iter X.env x=pure x:=by intro _;rfl):PE X (.ListComp elt [⟨tg,iter,ifs,0⟩] scope pos) (Jr own caps wi g tc te):=by
 intro pins s σ H Q I h;rw [eval_ListComp];refine BZ (use:=none) hc S hg hcs he hi hs I h ?_;intro D C H' s' hn I' hk _ q;obtain ⟨m,hn⟩:=hn;exact ⟨m,hn,fun h' hs'=>⟨.ref D,H',hk h' hs',rfl,q⟩⟩
theorem qL {i:Nat} {x:Str} {px sp:Pos} (hc:X.calm=true) (hN:X.N.Nodup) (hx:X.N[i]? = some x) (hl:Loc X.env.scope x) (S:bK N own caps X.N X.env.scope scope) (hi:PI X tg iter wi)
 (hg:∀C s H fp,PG (fP X scope C N s H fp) tg g) (hcs:∀C s H fp,Yn (fP X scope C N s H fp) ifs tc) (he:∀C s H fp,PE (fP X scope C N s H fp) elt te)
 (hsw:swapsWith (.ListComp elt [⟨tg,iter,ifs,0⟩] scope pos) (some (.Name x px)) sp.line X.env=pure true:=by rfl)
 (hs:∀x,foldedSetIterable iter X.env x=pure x:=by intro _;rfl) (hf:X.fn x=true\/X.env.scope.names.lookup x=some .local:=by first |exact .inl rfl|exact .inr rfl|assumption):
 PS X (.Assign [.Name x px] (.ListComp elt [⟨tg,iter,ifs,0⟩] scope pos) sp) (Jt (Jr own caps wi g tc te) (dO i)):=by
 intro pins s σ H D I h;rw [exec_Assign_Name_used _ _ _ _ hsw];refine wpAny_bind (wpAny_standAt (wpAny_bind ?_));show wpAny _ X.A (do let _ ←comprehension (.ListComp elt [⟨tg,iter,ifs,0⟩] scope pos) scope X.env (firstIterPos [⟨tg,iter,ifs,0⟩] pos) (newList []) false (eval iter X.env) (some (assign (.Name x px) X.env))) _ _ s;refine wpAny_bind (wpAny_mono (BZ (use:=some (assign (.Name x px) X.env)) (Qv:=fun _ s'=>SP X pins D .next s') hc S hg hcs he hi hs I h ?_) (fun _ s' hq=>wpAny_pure (wpAny_pure hq)) fun _ _ e=>e);intro E C H' s' hn I' hk fC q;obtain ⟨m,hn⟩:=hn;obtain ⟨f0,f1,f2,f3,f4,f5⟩:=fC;show wpAny _ X.A (assign (.Name x px) X.env (.ref E)) _ _ _;refine wpAny_assign_Name (xZ I' hN hx hl (v:= .ref E) rfl (fun s2 I2 k=> ?_) hf);refine ⟨m, ?_,fun h' hs'=> ?_⟩
 ·obtain ⟨o,es,ep,ho,r⟩:=hn
  obtain ⟨a,ks,ka⟩:=k
  have hCa:C≠a:=fun z=>by
   rcases ka with q'|q'
   ·exact f1 (z.trans q')
   ·exact f4 x a q' z.symm
  exact ⟨o,es,ep,(ks.2 C hCa).trans ho,r⟩
 ·exact ⟨_,H',I2.turned (t':=s2.toks) (fun b o hb e=>(hs'.2 b hb).trans e) f0 f1 f3 f4 f5,q⟩
end
def Lk (N own:List Str) (caps:List Nat) (XN:List Str) (outer scope:Scope):Bool:=
 decide (scope.kind = .function)&&scope.names.all (fun y=>decide (y.2 ≠ .cell))&&scope.names.all (fun y=>decide (y.2 ≠ .local)||decide (scope.names.lookup y.1=some .local)) &&
 scope.names.all (fun y=>decide (y.2 ≠ .free)||decide (outer.names.lookup y.1=some .cell)||decide (outer.names.lookup y.1=some .free))&&decide N.Nodup&&decide (N.length=own.length+caps.length) &&
 (List.range caps.length).all (fun j=>match N[own.length+j]? with |some x=>decide (XN[caps.getD j 0]? = some x)&&decide ((x,NameKind.free)∈scope.names)&&decide (scope.names.lookup x=some .free)|none=>false)
theorem bK.of {N own:List Str} {caps:List Nat} {XN:List Str} {outer scope:Scope} (h:Lk N own caps XN outer scope=true):bK N own caps XN outer scope:=by
 unfold Lk at h;simp only [Bool.and_eq_true,decide_eq_true_eq,List.all_eq_true,Bool.or_eq_true] at h;obtain ⟨⟨⟨⟨⟨⟨h1,h2⟩,h3⟩,h4⟩,h5⟩,h6⟩,h7⟩:=h;refine ⟨h1,h2,fun y hy e=> ?_,fun y hy e=> ?_,h5,h6,fun j hj=> ?_⟩
 ·rcases h3 y hy with z|z
  ·exact absurd e z
  ·exact z
 ·rcases h4 y hy with (z|z)|z
  ·exact absurd e z
  ·exact .inl z
  ·exact .inr z
 ·have q:=h7 j (List.mem_range.mpr hj)
  cases e:N[own.length+j]? with
  | none=>rw [e] at q;cases q
  | some x=>
    rw [e] at q;simp only [Bool.and_eq_true,decide_eq_true_eq] at q;exact ⟨q.1.1.symm,x,rfl,q.1.2,q.2⟩
end L2
set_option Elab.async false
set_option linter.all false
set_option maxRecDepth 100000
set_option maxHeartbeats 4000000
namespace L2
open PySem PySem.Spec PyProof.Rows
mutual
def Dat (H:Hp):V->PyData->Prop
 | v,.none=>v = .non
 | v,.bool b=>v = .bl b
 | v,.int i=>v = .int i
 | v,.str x=>v = .str x
 | v,.list ds=>∃a vs,v = .ref a/\H a=some (.lst vs)/\bf H vs ds
 | v,.tuple ds=>∃a vs,v = .ref a/\H a=some (.tup vs)/\bf H vs ds
 | _,.dict _=>False
def bf (H:Hp):List V->List PyData->Prop
 | [],[]=>True
 | v::vs,d::ds=>Dat H v d/\bf H vs ds
 | [],_::_=>False
 | _::_,[]=>False
end
section
variable {H H':Hp}
theorem bf.length:∀{vs:List V} {ds:List PyData},bf H vs ds->vs.length=ds.length
 | [],[],_=>rfl
 | _::_,_::_,h=>by simp only [bf] at h;simp [bf.length h.2]
 | [],_::_,h=>by simp only [bf] at h
 | _::_,[],h=>by simp only [bf] at h
theorem bf.getD:∀{vs:List V} {ds:List PyData} {i:Nat} {d:PyData},bf H vs ds->ds[i]? = some d -> ∃v,vs[i]? = some v/\Dat H v d
 | _::_,_::_,0,_,h,e=>by simp only [bf] at h;simp at e;subst e;exact ⟨_,rfl,h.1⟩
 | _::_,_::_,i+1,_,h,e=>by simp only [bf] at h;simp at e;obtain ⟨d,q,r⟩:=bf.getD h.2 e;exact ⟨d,by simpa using q,r⟩
 | [],[],_,_,_,e=>by simp at e
 | [],_::_,_,_,h,_=>by simp only [bf] at h
 | _::_,[],_,_,h,_=>by simp only [bf] at h
theorem bf.append:∀{vs ws:List V} {ds es:List PyData},bf H vs ds->bf H ws es->bf H (vs++ws) (ds++es)
 | [],_,[],_,_,g=>g
 | _::_,_,_::_,_,h,g=>by simp only [bf,List.cons_append] at h ⊢;exact ⟨h.1,bf.append h.2 g⟩
 | [],_,_::_,_,h,_=>by simp only [bf] at h
 | _::_,_,[],_,h,_=>by simp only [bf] at h
theorem bf.ints (ns:List Int):bf H (ns.map V.int) (ns.map PyData.int):=by
 induction ns with
 | nil=>simp only [List.map_nil,bf]
 | cons n r ih=>simp only [List.map_cons,bf,Dat];exact ⟨trivial,ih⟩
mutual
theorem Dat.mono (hl:∀a xs,H a=some (HO.lst xs)->H' a=some (HO.lst xs)) (ht:∀a xs,H a=some (HO.tup xs)->H' a=some (HO.tup xs)):∀(d:PyData) {v:V},Dat H v d->Dat H' v d
 | .none,_,h=>by simp only [Dat] at h ⊢;exact h
 | .bool _,_,h=>by simp only [Dat] at h ⊢;exact h
 | .int _,_,h=>by simp only [Dat] at h ⊢;exact h
 | .str _,_,h=>by simp only [Dat] at h ⊢;exact h
 | .list ds,_,h=>by simp only [Dat] at h ⊢;obtain ⟨a,vs,e,q,r⟩:=h;exact ⟨a,vs,e,hl _ _ q,bf.mono hl ht ds r⟩
 | .tuple ds,_,h=>by simp only [Dat] at h ⊢;obtain ⟨a,vs,e,q,r⟩:=h;exact ⟨a,vs,e,ht _ _ q,bf.mono hl ht ds r⟩
 | .dict _,_,h=>by simp only [Dat] at h
theorem bf.mono (hl:∀a xs,H a=some (HO.lst xs)->H' a=some (HO.lst xs)) (ht:∀a xs,H a=some (HO.tup xs)->H' a=some (HO.tup xs)):∀(ds:List PyData) {vs:List V},bf H vs ds->bf H' vs ds
 | [],[],_=>by simp only [bf]
 | d::ds,v::vs,h=>by simp only [bf] at h ⊢;exact ⟨Dat.mono hl ht d h.1,bf.mono hl ht ds h.2⟩
 | _::_,[],h=>by simp only [bf] at h
 | [],_::_,h=>by simp only [bf] at h
end
mutual
def Gh:PyData->Bool
 | .tuple ds=>sU ds
 | .list _ | .dict _=>false
 | .none | .bool _ | .int _ | .str _=>true
def sU:List PyData->Bool
 | []=>true
 | d::ds=>Gh d&&sU ds
end
mutual
theorem Dat.keep (ht:∀a xs,H a=some (HO.tup xs)->H' a=some (HO.tup xs)):∀(d:PyData) {v:V},Gh d=true->Dat H v d->Dat H' v d
 | .none,_,_,h=>by simp only [Dat] at h ⊢;exact h
 | .bool _,_,_,h=>by simp only [Dat] at h ⊢;exact h
 | .int _,_,_,h=>by simp only [Dat] at h ⊢;exact h
 | .str _,_,_,h=>by simp only [Dat] at h ⊢;exact h
 | .list ds,_,i,h=>by simp only [Gh] at i;cases i
 | .tuple ds,_,i,h=>by simp only [Dat] at h ⊢;simp only [Gh] at i;obtain ⟨a,vs,e,q,r⟩:=h;exact ⟨a,vs,e,ht _ _ q,bf.keep ht ds i r⟩
 | .dict _,_,_,h=>by simp only [Dat] at h
theorem bf.keep (ht:∀a xs,H a=some (HO.tup xs)->H' a=some (HO.tup xs)):∀(ds:List PyData) {vs:List V},sU ds=true->bf H vs ds->bf H' vs ds
 | [],[],_,_=>by simp only [bf]
 | d::ds,v::vs,i,h=>by simp only [bf] at h ⊢;simp only [sU,Bool.and_eq_true] at i;exact ⟨Dat.keep ht d i.1 h.1,bf.keep ht ds i.2 h.2⟩
 | _::_,[],_,h=>by simp only [bf] at h
 | [],_::_,_,h=>by simp only [bf] at h
end
theorem vZ {α:Type} (f:α->PyData) (h:∀x,Gh (f x)=true):∀l:List α,sU (l.map f)=true
 | []=>rfl
 | a::l=>by simp only [List.map_cons,sU,h a,vZ f h l,Bool.and_self]
end
section
variable {X:Cx} {pins:List (Addr×Obj)} {σ:St} {H:Hp} {s:Shared}
mutual
theorem Inv.reads (I:Inv X pins σ H s):∀(d:PyData) {v:V} {u:Value},Dat H v d->RelV v u -> ∃as,Reads s.heap u d as
 | .none,v,u,h,r=>by
   simp only [Dat] at h;subst h;cases (show u=Value.none from r);exact ⟨_,.none⟩
 | .bool b,v,u,h,r=>by
   simp only [Dat] at h;subst h;cases (show u=Value.bool b from r);exact ⟨_,.bool b⟩
 | .int i,v,u,h,r=>by
   simp only [Dat] at h;subst h;obtain ⟨t,q⟩:=(show ∃t,u=Value.int i t from r);cases q;exact ⟨_,.int i t⟩
 | .str x,v,u,h,r=>by
   simp only [Dat] at h;subst h;obtain ⟨t,q⟩:=(show ∃t,u=Value.str x t from r);cases q;exact ⟨_,.str x t⟩
 | .list ds,v,u,h,r=>by
   simp only [Dat] at h;obtain ⟨a,vs,rfl,q,g⟩:=h;cases (show u=Value.ref a from r);obtain ⟨its,rv,p,hz⟩:=I.list (bC.of q);obtain ⟨o,ho,hc,n,hd⟩:=p.isList;obtain ⟨as,ra⟩:=Inv.readsAll I ds g rv;exact ⟨_,.list ho hc hd (by simpa using ra)⟩
 | .tuple ds,v,u,h,r=>by
   simp only [Dat] at h;obtain ⟨a,vs,rfl,q,g⟩:=h;cases (show u=Value.ref a from r);obtain ⟨its,rv,p,hz⟩:=I.tuple (cA.of q);obtain ⟨o,ho,hc,n,hd⟩:=p;obtain ⟨as,ra⟩:=Inv.readsAll I ds g rv;exact ⟨_,.tuple ho hc hd (by simpa using ra)⟩
 | .dict _,_,_,h,_=>by simp only [Dat] at h
theorem Inv.readsAll (I:Inv X pins σ H s):∀(ds:List PyData) {vs:List V} {us:List Value},bf H vs ds->Vals vs us -> ∃as,ReadsAll s.heap us ds as
 | [],[],_,_,.nil=>⟨_,.nil⟩
 | d::ds,v::vs,_,h,.cons r rs=>by
   simp only [bf] at h;obtain ⟨as,ra⟩:=Inv.reads I d h.1 r;obtain ⟨bs,rb⟩:=Inv.readsAll I ds h.2 rs;exact ⟨_,.cons ra rb⟩
 | _::_,[],_,h,_=>by simp only [bf] at h
 | [],_::_,_,h,_=>by simp only [bf] at h
end
def Nf (neg:Bool):R2:=fun x y H Q=>∃d e,Dat H x d/\Dat H y e/\SeqAt.shaped d=true/\SeqAt.shaped e=true/\Q (.bl (if neg then !PyData.eqv d e else PyData.eqv d e)) H
theorem Rv (hu:X.A.units+64<cLine):oG X (compareOp .Eq) (Nf false):=by
 intro pins s σ H x y v u Q I rx ry h;obtain ⟨d,e,h1,h2,s1,s2,q⟩:=h;obtain ⟨as,ra⟩:=I.reads d h1 rx;obtain ⟨bs,rb⟩:=I.reads e h2 ry;exact SeqAt.compareEq_shaped ra rb s1 s2 hu ⟨.bl _,H,I,rfl,q⟩
theorem Rt (hu:X.A.units+64<cLine):oG X (compareOp .NotEq) (Nf true):=by
 intro pins s σ H x y v u Q I rx ry h;obtain ⟨d,e,h1,h2,s1,s2,q⟩:=h;obtain ⟨as,ra⟩:=I.reads d h1 rx;obtain ⟨bs,rb⟩:=I.reads e h2 ry;exact SeqAt.compareNe_shaped ra rb s1 s2 hu ⟨.bl _,H,I,rfl,q⟩
theorem Lq {c:Value} {cv:V} (rc:RelV cv c):j7 X (.builtin "isinstance") (fun xs H Q=>∃x t b,xs=[x,cv]/\jk X.K H x t/\PySem.W.kitOne X.K t c=some b/\Q (.bl b) H):=by
 intro pins s σ H xs us Q I r h;obtain ⟨x,t,b,rfl,ty,e,q⟩:=h;obtain ⟨u,w',rfl,r1,r2⟩:=vals2 r
 have:w'=c:=by
  cases cv with
  | non=>exact (show w'=Value.none from r2).trans (show c=Value.none from rc).symm
  | bl b=>exact (show w'=Value.bool b from r2).trans (show c=Value.bool b from rc).symm
  | ref a=>exact (show w'=Value.ref a from r2).trans (show c=Value.ref a from rc).symm
  | ty n=>exact (show w'=Value.type n from r2).trans (show c=Value.type n from rc).symm
  | int i=>obtain ⟨t1,rfl⟩:=(show ∃t,c=Value.int i t from rc);unfold PySem.W.kitOne at e;exact absurd e (by cases ty<;>simp [PySem.W.kitCls])
  | str i=>obtain ⟨t1,rfl⟩:=(show ∃t,c=Value.str i t from rc);unfold PySem.W.kitOne at e;exact absurd e (by cases ty<;>simp [PySem.W.kitCls])
  | Ie i=>obtain ⟨t1,rfl⟩:=(show ∃t,c=Value.bytes i t from rc);unfold PySem.W.kitOne at e;exact absurd e (by cases ty<;>simp [PySem.W.kitCls])
  | flt i=>obtain ⟨t1,rfl⟩:=(show ∃t,c=Value.float i t from rc);unfold PySem.W.kitOne at e;exact absurd e (by cases ty<;>simp [PySem.W.kitCls])
 subst this;exact HB I r1 ty e fun tk=>⟨.bl b,H,I.tok _,rfl,q⟩
end
section
variable {prog:Program} {w:World} {A:Around}
theorem Df (hh:A.handled=none) (it a:Addr) (hne:it≠a) (its:List Value):Walks prog w A it [it,a] [it] its.length (fun i v=>its[i]? = some v) (fun i h=>h.IsListIter it a i/\h.IsList a its.toArray) where
 sub:=by simp
 frame:=fun i h h' ⟨s1,o,ho,hc⟩ k=>⟨s1.at fun o e=>k it (by simp) o e,o,k a (by simp) o ho,hc⟩
 item:=fun i s Q E hi ⟨s1,s2⟩ hQ=>wpAny_pyNext_list_item s1 s2 (x:=its[i]) (by simp [hi]) fun h' st' sb=>
  hQ _ h' s.toks (by simp [hi]) ⟨st',s2.extBut sb.extBut hne.symm⟩ fun b o hb e=>(sb.2 b (by simpa using hb)).trans e
 done:=fun s Q E ⟨s1,s2⟩ hQ=>wpAny_pyNext_list_end hh s1 s2 (by simp) fun h' eb=>hQ h' s.toks fun b o hb e=>eb b o (by simpa using hb) e
 self:=fun i s Q E ⟨s1,_⟩ hQ=>wpAny_pyIter_listiter s1 hQ
end
section
variable {X:Cx}
theorem xG (bs:List Bool):(List.range bs.length).all (fun i=>(bs[i]?).getD false)=bs.all id:=by
 rw [Bool.eq_iff_iff,List.all_eq_true,List.all_eq_true];constructor
 ·intro h b hb
  obtain ⟨i,hi,rfl⟩:=List.getElem_of_mem hb;have:=h i (by simpa using hi);simpa [hi] using this
 ·intro h i hi
  have hi':i<bs.length:=by simpa using hi
  simpa [hi'] using h bs[i] (List.getElem_mem hi')
theorem Dg {bs:List Bool}:∀{us:List Value},Vals (bs.map V.bl) us->us=bs.map Value.bool:=by
 induction bs with
 | nil=>intro us r;cases r;rfl
 | cons b bs ih=>
   intro us r;cases r with
   | cons r rs=>cases (show _=Value.bool b from r);rw [ih rs];rfl
theorem wJ (hc:X.calm=true):j7 X (.builtin "all") (fun xs H Q=>∃(p:Addr) (bs:List Bool),xs=[.ref p]/\bC X.K H p (bs.map V.bl)/\Q (.bl (bs.all id)) H):=by
 intro pins s σ H xs us Q I r h;obtain ⟨p,bs,rfl,hq,q⟩:=h;obtain ⟨u,rfl,rx⟩:=vals1 r;cases rx;obtain ⟨its,rv,pl,hz⟩:=I.list hq;have e:=Dg rv;have hlen:its.length=bs.length:=by rw [e,List.length_map]
 refine call_all_walk (wpAny_pyIter_list pl.isList ⟨s.heap.objs.size,[s.heap.objs.size,p],[s.heap.objs.size],its.length,_,_,fun i=>(bs[i]?).getD false,rfl,
  Df (show X.A.in1.handled=none from I.ok.hd hc) s.heap.objs.size p ?_ its,⟨⟨_,Heap.get?_push_size _ rfl,rfl,rfl⟩, ?_⟩, ?_, ?_⟩)
 ·intro z
  obtain ⟨o,ho,_⟩:=pl.isList;have:=Heap.lt_size ho;rw [←z] at this;exact Nat.lt_irrefl _ this
 ·obtain ⟨o,ho,hcl⟩:=pl.isList
  exact ⟨o,Heap.get?_push_of_some _ ho,hcl⟩
 ·intro i v s1 Q1 E1 hP hQ
  rw [e,List.getElem?_map] at hP;cases r:bs[i]? with
  | none=>rw [r] at hP;cases hP
  | some b=>
    rw [r] at hP;cases hP;simp only [r,Option.getD_some] at hQ;exact wpAny_truthy_bool hQ
 ·intro h' tk k
  rw [hlen,xG];have f:=I.HX (H':=H) (b:=s.heap.objs.size) (Nat.le_refl _) (I.hok.fresh (Nat.le_refl _));have I2:Inv X pins σ H {s with heap:=h',toks:=tk}:=I.turned (h':=h') (t':=tk) (it:=s.heap.objs.size) (fun b o hb e=>k b o (by simpa using hb) (Heap.get?_push_of_some _ e)) f.1 f.2.1 f.2.2.2.1 f.2.2.2.2.1 f.2.2.2.2.2;exact ⟨.bl _,H,I2,rfl,q⟩
end
end L2
set_option Elab.async false
set_option linter.all false
set_option maxRecDepth 100000
set_option maxHeartbeats 4000000
namespace L2
open PySem PySem.Spec PyProof.Rows
def FnAt (P:Program) (w:World) (K:PySem.W.Frag) (mg:Str->Option Value) (base:Heap) (k:Nat) (x:Str) (ps:List Str) (sp:Sp):Prop:=
 ∃f fd,bV P w K mg base iD k f fd ps sp/\mg x=some (.ref f)/\PySem.W.keepIn K (.ref f)=true/\Binds K fd ps []
section
variable {X:Cx} {k j:Nat} {x:Str} {ps:List Str} {sp:Sp} {e:Expr} {es:List Expr} {t:TA} {p pos:Pos}
theorem bD (F:FnAt X.prog X.w X.K X.mg X.base k x ps sp) (hr:cZ k X.A) (hg:Gl X x) (ha:PA X (e::es) t) (hd:(x==("__debug__" :Str))=false:=by decide)
 (he:starEach (e::es) X.env=(false,eval e X.env)::starEach es X.env:=by rfl) (hpl:(backTo pos (starEach es X.env)).any (·.1)=false:=by rfl):
 PE X (.Call (.Name x p) (e::es) [] pos) (Js sp [] E0 t):=by
 obtain ⟨f,fd,G,hm,hk,hb⟩:=F;exact Nt G hr hg hm hk hb .nil Bl ha (hdb:=hd) (he:=he) (hpl:=hpl)
end
theorem TF:bootBuiltins "all" = some (.builtin "all"):=by kernel_rfl
theorem dR:bootBuiltins "len" = some (.builtin "len"):=by kernel_rfl
theorem Tw:bootBuiltins "min" = some (.builtin "min"):=by kernel_rfl
theorem Lr:bootBuiltins "max" = some (.builtin "max"):=by kernel_rfl
theorem i_:bootBuiltins "isinstance" = some (.builtin "isinstance"):=by kernel_rfl
theorem tM:bootBuiltins "int" = some (.type "int"):=by kernel_rfl
theorem Pk:bootBuiltins "bool" = some (.type "bool"):=by kernel_rfl
theorem eO:bootBuiltins "list" = some (.type "list"):=by kernel_rfl
section
variable {X:Cx}
theorem FW:oG X (binaryOp .Mult) (rI IntMulOk fun i j=> .int (i*j)):=VF fun _ _ _ _ _ _ _ hc q=>mul_int q hc
end
def Kp (r:Addr) (H H':Hp):Prop:=∀b o,H b=some o->b≠r->H' b=some o
theorem Kp.of_same {r:Addr} {H H':Hp} (h:Same H H'):Kp r H H':=fun b o e _=>h b o e
theorem Kp.trans {r:Addr} {H H1 H2:Hp} (a:Kp r H H1) (b:Kp r H1 H2):Kp r H H2:=fun c o h n=>b c o (a c o h n) n
theorem Kp.set {r:Addr} {H:Hp} {o:HO}:Kp r H (upd H r o):=fun b u e n=>by rw [aG n];exact e
theorem aF {H:Hp} {p:Addr} {o:HO} (h:H p=none):Same H (upd H p o):=fun b u e=>by rw [aG (aB e h)];exact e
theorem Same.tups {H H':Hp} (e:Same H H'):∀a xs,H a=some (HO.tup xs)->H' a=some (HO.tup xs):=fun a xs h=>e _ _ h
theorem Same.sqL {K:PySem.W.Frag} {H H':Hp} (e:Same H H'):∀a xs,bC K H a xs->bC K H' a xs:=fun a xs h=>e.seq h
theorem Kp.tups {H H':Hp} {r:Addr} {ys:List V} (e:Kp r H H') (hr:H r=some (.lst ys)):∀a xs,H a=some (HO.tup xs)->H' a=some (HO.tup xs):=fun a xs h=>e _ _ h (cj h hr (by intro z;cases z))
end L2
namespace L2
open PySem PySem.Spec PyProof.Rows
section
variable {X:Cx} {K:PySem.W.Frag}
theorem aL (h:X.K=K):UL X (Dy K):=by subst h;exact Ot
theorem aU (h:X.K=K):UL X (JD K):=by subst h;exact Sy
theorem je (h:X.K=K):SlR X (Vt K):=by subst h;exact MN
theorem pZ (h:X.K=K):oG X (compareOp .In) (rIn K false):=by subst h;exact Hl
def Vv (K:PySem.W.Frag):List V->Hp->VK->Prop:=fun xs H Q=>∃(p:Addr) (ys:List V),xs=[.ref p]/\(bC K H p ys\/cA K H p ys)/\Q (.int ys.length) H
theorem bF (h:X.K=K):j7 X (.builtin "len") (Vv K):=by subst h;exact zW
def M_ (K:PySem.W.Frag):List V->Hp->VK->Prop:=fun xs H Q=>∃(p:Addr) (ys:List V),xs=[.ref p]/\(bC K H p ys\/cA K H p ys) /\ ∀l,H l=none->Q (.ref l) (upd H l (.lst ys))
theorem bQ (h:X.K=K):j7 X (.type "list") (M_ K):=by subst h;exact zV
def Vx (K:PySem.W.Frag):List V->Hp->VK->Prop:=fun xs H Q=>∃(p:Addr) (bs:List Bool),xs=[.ref p]/\bC K H p (bs.map V.bl)/\Q (.bl (bs.all id)) H
theorem ux (h:X.K=K) (hc:X.calm=true):j7 X (.builtin "all") (Vx K):=by subst h;exact wJ hc
theorem zB (h:X.K=K) (hu:X.A.units+64<cLine):oG X (compareOp .Eq) (Nf false):=by subst h;exact Rv hu
theorem zy (h:X.K=K) (hu:X.A.units+64<cLine):oG X (compareOp .NotEq) (Nf true):=by subst h;exact Rt hu
theorem dB {tg l:Expr} {tl:TE} (h:X.K=K) (hl:PE X l tl):PI X tg l (Qn K tl):=by subst h;exact Np hl
def abN (K:PySem.W.Frag) (c:Value) (cv:V):List V->Hp->VK->Prop:=fun xs H Q=>∃x t b,xs=[x,cv]/\jk K H x t/\PySem.W.kitOne K t c=some b/\Q (.bl b) H
theorem o7 {c:Value} {cv:V} (h:X.K=K) (rc:RelV cv c):j7 X (.builtin "isinstance") (abN K c cv):=by subst h;exact Lq rc
theorem gP {o e:Expr} {to:TE} {t:TA} {apos cpos:Pos} (h:X.K=K) (ho:PE X o to) (ha:PA X [e] t)
 (hbase:attributeBase o "append" X.env (eval o X.env)=eval o X.env:=by rfl)
 (hfew:((backTo cpos (starEach [e] X.env)).all (fun x=> !x.1)&&(backToKw cpos (keywordEach [] X.env)).all (fun x=>x.1.isSome)
   && decide (([e]:List Expr).length+([]:List Keyword).length+(if ([]:List Keyword).isEmpty then 0 else 1)<30))=true:=by rfl)
 (hline:(apos.endLine==cpos.line)=true:=by rfl) (hs:starEach [e] X.env=(false,eval e X.env)::starEach [] X.env:=by rfl) (hplain:(backTo cpos (starEach [] X.env)).any (·.1)=false:=by rfl):
 PE X (.Call (.Attribute o "append" apos) [e] [] cpos) (tBM K "list" Fz to t):=by
 subst h;exact Qi PySem.F.plainAttrs_list PySem.F.slot_list_append PySem.F.type_list_append yj ho ha hbase hfew hline hs hplain
end
end L2
namespace L2
open PySem
section
variable {K:PySem.W.Frag} {a D:Addr} {xs:List V} {g:TG} {tc:TT} {te:TE} {Q:VK} {σ0:St} {H1:Hp}
theorem iT (Pv:Nat->St->Hp->Prop) (h0:Pv 0 σ0 (upd H1 D (.lst []))) (hl:∀i σ H,i<=xs.length->Pv i σ H->bC K H a xs)
 (hs:∀i x σ H,xs[i]? = some x->Pv i σ H->g x σ H fun σ2 H2=>tc σ2 H2 fun b H3=>
   if b=true then te σ2 H3 fun y H4=>∃acc,H4 D=some (.lst acc)/\acc.length<sizeLine/\Pv (i+1) σ2 (upd H4 D (.lst (acc++[y]))) else Pv (i+1) σ2 H3)
 (hd:∀σ H,Pv xs.length σ H->Q (.ref D) H):oK (Mq K a) g tc te Q D σ0 H1:=by
 refine ⟨fun i m σ H=>m=xs.length - i/\i<=xs.length/\Pv i σ H,⟨xs.length,by simp,Nat.zero_le _,h0⟩, ?_⟩;rintro i m σ H ⟨rfl,hi,p⟩;have q:=hl i σ H hi p
 by_cases hlt:i<xs.length
 ·refine .inr ⟨⟨xs,xs[i],q,by simp [hlt]⟩,Pv (i+1),fun σ' H' p'=>⟨xs.length - (i+1),by omega,rfl,hlt,p'⟩,fun x H' y=> ?_⟩
  obtain ⟨e,y⟩:=y;subst e;exact hs i x σ _ (y xs q) p
 ·have e:i=xs.length:=by omega
  subst e;exact .inl ⟨⟨xs,q,Nat.le_refl _⟩,hd σ H p⟩
theorem mL {lo:Int} {n:Nat} (Pv:Nat->St->Hp->Prop) (h0:Pv 0 σ0 (upd H1 D (.lst [])))
 (hs:∀i σ H,i<n->Pv i σ H->g (.int (lo+i)) σ H fun σ2 H2=>tc σ2 H2 fun b H3=>
   if b=true then te σ2 H3 fun y H4=>∃acc,H4 D=some (.lst acc)/\acc.length<sizeLine/\Pv (i+1) σ2 (upd H4 D (.lst (acc++[y]))) else Pv (i+1) σ2 H3)
 (hd:∀σ H,Pv n σ H->Q (.ref D) H):oK (PN lo n) g tc te Q D σ0 H1:=by
 refine ⟨fun i m σ H=>m=n - i/\i<=n/\Pv i σ H,⟨n,by simp,Nat.zero_le _,h0⟩, ?_⟩;rintro i m σ H ⟨rfl,hi,p⟩
 by_cases hlt:i<n
 ·refine .inr ⟨hlt,Pv (i+1),fun σ' H' p'=>⟨n - (i+1),by omega,rfl,hlt,p'⟩,fun x H' y=> ?_⟩
  obtain ⟨e,y⟩:=y;subst e y;exact hs i σ _ hlt p
 ·have e:i=n:=by omega
  subst e;exact .inl ⟨Nat.le_refl _,hd σ H p⟩
end
end L2
set_option Elab.async false
set_option linter.all false
set_option maxRecDepth 100000
set_option maxHeartbeats 4000000
namespace L2
open PySem PySem.Spec PyProof.Rows
section
variable {α:Type} (f:α->PyData)
theorem iU:∀(l:List α),(∀x∈l,(f x).canLay0=true)->PyData.canLayAll0 (l.map f)=true
 | [],_=>rfl
 | a::l,h=>by
   show (PyData.canLay0 (f a)&&PyData.canLayAll0 (l.map f))=true;rw [h a List.mem_cons_self,iU l fun x hx=>h x (List.mem_cons_of_mem _ hx)];rfl
theorem eH (k:Nat):∀(l:List α),(∀x∈l,(f x).depth<=k)->PyData.depthAll (l.map f)<=k
 | [],_=>Nat.zero_le _
 | a::l,h=>by
   show max (PyData.depth (f a)) (PyData.depthAll (l.map f))<=k;exact Nat.max_le.mpr ⟨h a List.mem_cons_self,eH k l fun x hx=>h x (List.mem_cons_of_mem _ hx)⟩
theorem Ay {l:List α} (k:Nat) (hk:k<64) (h1:∀x∈l,(f x).canLay0=true) (h2:∀x∈l,(f x).depth<=k):SeqAt.shaped (.list (l.map f))=true:=by
 unfold SeqAt.shaped;have e1:PyData.canLay0 (.list (l.map f))=true:=iU f l h1
 have e2:PyData.depth (.list (l.map f))<=64:=by
  show PyData.depthAll (l.map f)+1<=64;have:=eH f k l h2;omega
 rw [e1,decide_eq_true e2];rfl
theorem wC [DecidableEq α] (h:∀x y,PyData.eqv (f x) (f y)=decide (x=y)):∀(l m:List α),PyData.eqvAll (l.map f) (m.map f)=decide (l=m)
 | [],[]=>rfl
 | [],_::_=>by simp only [List.map_nil,List.map_cons,PyData.eqvAll];exact (decide_eq_false (by intro z;cases z)).symm
 | _::_,[]=>by simp only [List.map_nil,List.map_cons,PyData.eqvAll];exact (decide_eq_false (by intro z;cases z)).symm
 | a::l,b::m=>by
   simp only [List.map_cons,PyData.eqvAll];rw [h a b,wC h l m]
   by_cases e1:a=b
   ·subst e1
    by_cases e2:l=m
    ·subst e2;simp
    ·simp [e2]
   ·simp [e1]
theorem lE [DecidableEq α] (h:∀x y,PyData.eqv (f x) (f y)=decide (x=y)) (l m:List α):PyData.eqv (.list (l.map f)) (.list (m.map f))=decide (l=m):=by
 simp only [PyData.eqv];exact wC f h l m
end
theorem lF {H:Hp} {a:Addr} {vs:List V} {ds:List PyData} (h:H a=some (.lst vs)) (d:bf H vs ds):Dat H (.ref a) (.list ds):=by
 simp only [Dat];exact ⟨a,vs,rfl,h,d⟩
theorem BL (K:PySem.W.Frag):PySem.W.kitOne K (.type "int") (.type "int")=some true:=rfl
theorem zJ (K:PySem.W.Frag):PySem.W.kitOne K (.type "int") (.type "bool")=some false:=by kernel_rfl
theorem xH (K:PySem.W.Frag):PySem.W.kitOne K (.type "list") (.type "list")=some true:=rfl
end L2
namespace L2
open PySem
theorem Li (xs:List V) (k:Nat):qU xs none (some (k:Int))=xs.take k:=by
 unfold qU;rw [HT.vK,HT.zj,List.drop_zero,Nat.sub_zero]
 by_cases h:k<=xs.length
 ·rw [Nat.min_eq_left h]
 ·rw [Nat.min_eq_right (by omega),List.take_of_length_le (Nat.le_refl _),List.take_of_length_le (by omega)]
theorem qT (xs:List V) (k:Nat):qU xs (some (k:Int)) none=xs.drop k:=by
 unfold qU;rw [HT.vK,HT.zj]
 by_cases h:k<=xs.length
 ·rw [Nat.min_eq_left h,List.take_of_length_le (by rw [List.length_drop];exact Nat.le_refl _)]
 ·rw [Nat.min_eq_right (by omega),Nat.sub_self,List.take_zero,List.drop_of_length_le (by omega)]
end L2
set_option Elab.async false
set_option linter.all false
set_option maxRecDepth 100000
set_option maxHeartbeats 4000000
namespace PySem.W
open PySem PySem.Spec PySem.Calls PyProof.Rows
section
variable {prog:Program} {w:World} {A:Around} {E:Value->Shared->Prop} {s:Shared} {K:Frag} {x D:Addr} {ox:Obj} {odo:Option Obj} {name:Str}
end
structure aix (K:Frag) (D:Addr):Prop where
 hga:findIn K (.ref D) "__getattribute__" = some (some (.builtin "BaseException.__getattribute__"))
 hk:findIn K (.ref D) "__getattr__" = some none
 hB:mroIn K D (.type "BaseException")=some true
 hc:(clsIn K D).isSome=true
 ha:findIn K (.ref D) "__class__" = some (some (.builtin "object.__class__"))
 hn:specialIn K (.builtin "object.__class__") "__get__" = some (some (.builtin "getset_descriptor.__get__"))
 htk:takesIn K (.builtin "object.__class__")=some true
 hm:mroIn K D (.type "object")=some true
end PySem.W
set_option Elab.async false
set_option linter.all false
set_option maxRecDepth 100000
set_option maxHeartbeats 4000000
namespace L2
open PySem PySem.Spec PyProof.Rows
def xR (h:Heap) (e:Addr) (cls:Value) (dx:Option Addr) (lo:Addr->Prop):Option Value->Prop
 | none=>∃oe vs,h.get? e=some oe/\oe.cls=cls/\oe.dict=dx/\oe.data = .fields vs/\vs[1]? = some .none
 | some f=>∃oe vs T oT ts,h.get? e=some oe/\oe.cls=cls/\oe.dict=dx/\oe.data = .fields vs/\vs[1]? = some (.ref T)/\lo T/\T≠e/\h.get? T=some oT/\oT.data = .fields ts/\ts[3]? = some f
section
variable {M:Model} {A:Around} {E:Value->Shared->Prop} {s:Shared} {base:Heap} {env:Env} {outer:List Env} {L e:Addr}
structure q_ (fr:List Addr) (e:Addr) (lo:Addr->Prop) (h h':Heap):Prop where
 keep:∀b o,h.get? b=some o->b∉fr->b≠e -> ¬lo b->h'.get? b=some o
 slot:∀b o,h.get? b=some o->b∈fr->b≠e -> ¬lo b -> ∃sl,h'.get? b=some {o with slots:=sl}
 there:∀b o,h.get? b=some o -> ∃o',h'.get? b=some o'
theorem q_.trans {fr:List Addr} {lo:Addr->Prop} {h h1 h2:Heap} (a:q_ fr e lo h h1) (b:q_ fr e lo h1 h2):q_ fr e lo h h2 where
 keep:=fun c o q n1 n2 n3=>b.keep c o (a.keep c o q n1 n2 n3) n1 n2 n3
 slot:=fun c o q n1 n2 n3=>by
  obtain ⟨sl,q1⟩:=a.slot c o q n1 n2 n3;obtain ⟨sl2,q2⟩:=b.slot c _ q1 n1 n2 n3;exact ⟨sl2,q2⟩
 there:=fun c o q=>by
  obtain ⟨o1,q1⟩:=a.there c o q;exact b.there c o1 q1
theorem mj {h:Heap} {a:Addr} {o:Obj} {vs:Array Value} (q:h.get? a=some o) (d:o.data = .fields vs) (i:Nat) (v:Value):
 (h.update a (Obj.mapFields (·.setIfInBounds i v))).get? a=some (Obj.mapFields (·.setIfInBounds i v) o)/\(Obj.mapFields (·.setIfInBounds i v) o).data = .fields (vs.setIfInBounds i v) /\
   (Obj.mapFields (·.setIfInBounds i v) o).cls=o.cls/\(Obj.mapFields (·.setIfInBounds i v) o).dict=o.dict:=by
 have d2:=Obj.data_mapFields d (·.setIfInBounds i v);refine ⟨Heap.get?_update_self _ q (Obj.isFreed_of_fields d2),d2,Obj.cls_mapFields _ _, ?_⟩;obtain ⟨c,dd,dt,sl⟩:=o;simp only at d;subst d;rfl
theorem Jc {oe:Obj} {vs:Array Value} {head:Value} {hadNext:Bool} {cls:Value} {dx:Option Addr} {lo:Addr->Prop} {Q:Unit->Shared->Prop} (hfr:A.frames=some (env::outer)) (hl:s.heap.FunFrames base (env::outer)) (hf:env.frame=some L)
 (he:s.heap.get? e=some oe) (hd:oe.data = .fields vs) (hsz:1<vs.size) (hc:oe.cls=cls) (hdx:oe.dict=dx) (hlo:∀T,s.heap.get? T=none->lo T)
 (h:∀h',q_ (frs (env::outer)) e lo s.heap h'->xR h' e cls dx lo (some (rawInt L))->Q () {s with heap:=h'}):
 wpAny M A (do let a ←frameOf env;let pl ←entryPlaceOf L hadNext;let b ←EntryCells.newEntry head a .none (rawInt L) .none pl;setField (.ref e) 1 b) Q E s:=by
 have nfr:e∉frs (env::outer):=fun hm=>by
  obtain ⟨_,o,q,nf⟩:=hl.mem hm;rw [he] at q;cases q;exact nf vs hd
 refine wpAny_bind (wpAny_frameOf_fun hfr hl hf fun h1 hs1=> ?_);refine wpAny_bind (wpAny_entryPlaceOf fun pl hpl=> ?_);unfold EntryCells.newEntry newFields;refine wpAny_bind (wpAny_newObj_type ?_ (hpl.sizeOk5 _ _ _ _ _));generalize hob:({cls:= .type "traceback",dict:=none,data:= .fields ([head,.ref L,.none,rawInt L,.none]++(if pl.isEmpty then List.replicate 6 Value.none else pl)).toArray}:Obj)=ob;have q1:h1.get? e=some oe:=(hs1.2.1 e nfr).trans he;have q2:=Heap.get?_push_of_some (h:=h1) ob q1;have nTe:h1.objs.size≠e:=Nat.ne_of_gt (Heap.lt_size q1);have sizes:h1.objs.size=s.heap.objs.size:=hs1.1;have newT:s.heap.get? h1.objs.size=none:=Heap.get?_none_of_le (by rw [sizes];exact Nat.le_refl _);refine wpAny_setField q2 hd hsz (h _ ⟨fun b o q n1 n2 n3=> ?_,fun b o q n1 n2 n3=> ?_,fun b o q=> ?_⟩ ?_)
 ·rw [Heap.get?_update_other _ _ (Ne.symm n2)]
  exact Heap.get?_push_of_some _ ((hs1.2.1 b n1).trans q)
 ·obtain ⟨sl,q3⟩:=hs1.2.2 b o q
  refine ⟨sl, ?_⟩;rw [Heap.get?_update_other _ _ (Ne.symm n2)];exact Heap.get?_push_of_some _ q3
 ·obtain ⟨sl,q3⟩:=hs1.2.2 b o q
  by_cases hb:b=e
  ·subst hb
   exact ⟨_,(mj q2 hd 1 _).1⟩
  ·refine ⟨{o with slots:=sl}, ?_⟩
   rw [Heap.get?_update_other _ _ (Ne.symm hb)];exact Heap.get?_push_of_some _ q3
 ·obtain ⟨u1,u2,u3,u4⟩:=mj q2 hd 1 (Value.ref h1.objs.size)
  refine ⟨_,_,h1.objs.size,ob,_,u1,u3.trans hc,u4.trans hdx,u2,by simp [hsz],hlo _ newT,nTe, ?_,by rw [←hob], ?_⟩
  ·rw [Heap.get?_update_other _ _ (Ne.symm nTe)]
   exact Heap.get?_push_size _ (by rw [←hob];rfl)
  ·first |(simp;done)|(rcases hpl with rfl|⟨_,_,_,_,_,_,_,rfl⟩<;>simp)
theorem UW {cls:Value} {dx:Option Addr} {lo:Addr->Prop} {Q:Unit->Shared->Prop} {fl:Option Value} (hfl:fl=none\/fl=some .none) (hfr:A.frames=some (env::outer)) (hl:s.heap.FunFrames base (env::outer)) (hf:env.frame=some L)
 (x:xR s.heap e cls dx lo fl) (hlo:∀T,s.heap.get? T=none->lo T)
 (h:∀h',q_ (frs (env::outer)) e lo s.heap h'->xR h' e cls dx lo (some (rawInt L))->Q () {s with heap:=h'}):wpAny M A (noteFrame (.ref e) env) Q E s:=by
 unfold noteFrame;simp only [hf];rcases hfl with rfl|rfl
 ·obtain ⟨oe,vs,he,hc,hdx,hd,h1⟩:=x
  refine wpAny_bind (wpAny_field he hd h1 ?_);rw [if_neg (by decide)];exact Jc hfr hl hf he hd (Array.getElem?_eq_some_iff.mp h1).1 hc hdx hlo h
 ·obtain ⟨oe,vs,T,oT,ts,he,hc,hdx,hd,h1,hT,nT,Mj,hdT,h3⟩:=x
  refine wpAny_bind (wpAny_field he hd h1 ?_);rw [if_pos (show (Value.ref T != Value.none)=true from by simp)];refine wpAny_bind (wpAny_field Mj hdT h3 ?_);rw [if_neg (show ¬((Value.none==rawInt L)=true) from by simp [rawInt])];have hs3:3<ts.size:=(Array.getElem?_eq_some_iff.mp h3).1;refine wpAny_bind (wpAny_setField Mj hdT hs3 ?_);have oth:∀b,b≠T->(s.heap.update T (Obj.mapFields (·.setIfInBounds 3 Value.none))).get? b=s.heap.get? b:=fun b hb=>Heap.get?_update_other _ _ (Ne.symm hb);obtain ⟨u1,u2,u3,u4⟩:=mj Mj hdT 3 Value.none
  have n0:q_ (frs (env::outer)) e lo s.heap (s.heap.update T (Obj.mapFields (·.setIfInBounds 3 Value.none))):=by
   have nb:∀b,¬lo b->b≠T:=fun b hb z=>hb (by rw [z];exact hT);refine ⟨fun b o q _ _ n3=>(oth b (nb b n3)).trans q,fun b o q _ _ n3=>⟨o.slots,(oth b (nb b n3)).trans q⟩,fun b o q=> ?_⟩
   by_cases hb:b=T
   ·subst hb;exact ⟨_,u1⟩
   ·exact ⟨o,(oth b hb).trans q⟩
  have ffs:(s.heap.update T (Obj.mapFields (·.setIfInBounds 3 Value.none))).FunFrames base (env::outer):=hl.of_keeps fun b o q nf=>by
   by_cases hb:b=T
   ·subst hb;rw [Mj] at q;cases q;exact absurd hdT (nf ts)
   ·exact ⟨o,(oth b hb).trans q,rfl⟩
  refine Jc (s:={s with heap:=s.heap.update T (Obj.mapFields (·.setIfInBounds 3 Value.none))}) hfr ffs hf ((oth e (Ne.symm nT)).trans he) hd (Array.getElem?_eq_some_iff.mp h1).1 hc hdx (fun T' z=> ?_) fun h' n1 x1=>h h' (n0.trans n1) x1
  by_cases hb:T'=T
  ·rw [hb];exact hT
  ·exact hlo T' ((oth T' hb).symm.trans z)
theorem U0 {cls:Value} {dx:Option Addr} {lo:Addr->Prop} {Q:Unit->Shared->Prop} {fr:List Addr} {f:Value} (x:xR s.heap e cls dx lo (some f))
 (h:∀h',q_ fr e lo s.heap h'->xR h' e cls dx lo (some .none)->Q () {s with heap:=h'}):wpAny M A (setFlight (.ref e) none) Q E s:=by
 obtain ⟨oe,vs,T,oT,ts,he,hc,hdx,hd,h1,hT,nT,Mj,hdT,h3⟩:=x;have hs3:3<ts.size:=(Array.getElem?_eq_some_iff.mp h3).1;unfold setFlight;refine wpAny_bind (wpAny_field he hd h1 ?_);rw [if_pos (show (Value.ref T != Value.none)=true from by simp)];have oth:∀b,b≠T->(s.heap.update T (Obj.mapFields (·.setIfInBounds 3 Value.none))).get? b=s.heap.get? b:=fun b hb=>Heap.get?_update_other _ _ (Ne.symm hb);obtain ⟨u1,u2,u3,u4⟩:=mj Mj hdT 3 Value.none;have nb:∀b,¬lo b->b≠T:=fun b hb z=>hb (by rw [z];exact hT);refine wpAny_setField Mj hdT hs3 (h _ ⟨fun b o q _ _ n3=>(oth b (nb b n3)).trans q,fun b o q _ _ n3=>⟨o.slots,(oth b (nb b n3)).trans q⟩,fun b o q=> ?_⟩ ?_)
 ·by_cases hb:b=T
  ·subst hb;exact ⟨_,u1⟩
  ·exact ⟨o,(oth b hb).trans q⟩
 ·exact ⟨oe,vs,T,_,_,(oth e (Ne.symm nT)).trans he,hc,hdx,hd,h1,hT,nT,u1,u2,by simp [hs3]⟩
end
section
variable {X:Cx} {pins:List (Addr×Obj)} {σ:St} {H:Hp} {s:Shared} {e:Addr}
theorem eY.there {P:Program} {w:World} {H:Hp} {h:Heap} {a:Addr} {o:HO} (x:eY P w H h a o):∃ob,h.get? a=some ob:=by
 induction o with
 | lst xs=>obtain ⟨_,_,_,_,q⟩:=x;exact ⟨_,q⟩
 | tup xs=>obtain ⟨_,_,_,ob,q,_⟩:=x;exact ⟨ob,q⟩
 | dK kvs=>obtain ⟨_,_,_,_,ob,_,_,q,_⟩:=x;exact ⟨ob,q⟩
 | dT kvs=>obtain ⟨_,_,_,_,ob,_,_,q,_⟩:=x;exact ⟨ob,q⟩
 | set S n=>obtain ⟨ob,_,_,_,q,_⟩:=x;exact ⟨ob,q⟩
 | ins C dx fs=>obtain ⟨_,_,_,q,_⟩:=x;exact ⟨_,q⟩
 | own y=>exact x
 | xd fs=>obtain ⟨_,⟨ob,_,_,q,_⟩,_⟩:=x;exact ⟨ob,q⟩
 | rng lo hi=>obtain ⟨_,_,_,q⟩:=x;exact ⟨_,q⟩
 | xJ ob u ih=>exact ⟨ob,x.1⟩
 | Qd ps=>exact ⟨_,x⟩
 | met f y=>exact ⟨_,x⟩
 | ext φ=>exact x.2.1
def Ir (X:Cx) (pins:List (Addr×Obj)) (H:Hp) (b:Addr):Prop:=
 H b=none/\b≠X.env.locals/\b∉X.fs/\X.s₀.heap.get? b=none/\(∀x c,X.env.cells.lookup x=some c->c≠b) /\ ∀p∈X.pn++pins,p.1≠b
theorem Inv.xfp (I:Inv X pins σ H s) (hx:X.ex=[]) {b:Addr} (hb:s.heap.get? b=none):Ir X pins H b:=by
 refine ⟨?_,fun z=> ?_,fun z=> ?_, ?_,fun x c q z=> ?_,fun p hp z=> ?_⟩
 ·cases q:H b with
  | none=>rfl
  | some o=>
    obtain ⟨ob,r⟩:=(I.hok b o q).there;rw [hb] at r;cases r
 ·obtain ⟨m,⟨o,_,_,r,_⟩,_⟩:=I.loc
  rw [←z,hb] at r;cases r
 ·obtain ⟨_,o,r,_⟩:=I.qQ.mem z
  rw [hb] at r;cases r
 ·cases q:X.s₀.heap.get? b with
  | none=>rfl
  | some o=>
    obtain ⟨o',r⟩:=I.base.there b o q (by rw [hx];simp);rw [hb] at r;cases r
 ·obtain ⟨v,o,r,_⟩:=I.cell x c q
  rw [z,hb] at r;cases r
 ·obtain ⟨r,_⟩:=I.pin p hp
  rw [z,hb] at r;cases r
theorem Inv.noted {lo:Addr->Prop} {h':Heap} (I:Inv X pins σ H s) (n:q_ (frs X.stack) e lo s.heap h') (hlo:∀b,(b=e\/lo b)->Ir X pins H b\/s.heap.get? b=none):Inv X pins σ H {s with heap:=h'}:=by
 have off:∀b o,s.heap.get? b=some o->(¬Ir X pins H b)->b≠e /\ ¬lo b:=fun b o q nx=>
  ⟨fun z=>(hlo b (.inl z)).elim nx fun r=>(by rw [r] at q;cases q),fun z=>(hlo b (.inr z)).elim nx fun r=>(by rw [r] at q;cases q)⟩
 have any:∀b o,s.heap.get? b=some o->(¬Ir X pins H b) -> ∃sl,h'.get? b=some {o with slots:=sl}:=fun b o q nx=>by
  obtain ⟨n1,n2⟩:=off b o q nx
  by_cases hb:b∈frs X.stack
  ·exact n.slot b o q hb n1 n2
  ·exact ⟨o.slots,n.keep b o q hb n1 n2⟩
 have s0:∀b o,X.s₀.heap.get? b=some o -> ¬Ir X pins H b:=fun b o q x=>by rw [x.2.2.2.1] at q;cases q
 have Y7:∀b o,X.s₀.heap.get? b=some o->b≠X.env.locals:=fun b o q=>Nat.ne_of_lt (Nat.lt_of_lt_of_le (Heap.lt_size q) I.ok.above);have nst:∀b,b≠X.env.locals->b∉X.fs->b∉frs X.stack:=fun b n1 n2 z=>(List.mem_cons.mp (I.vq b z)).elim n1 n2;have Ip:∀b o,H b=some o -> ¬Ir X pins H b:=fun b o q x=>by rw [x.1] at q;cases q
 have U_:∀b o,H b=some o->b∉frs X.stack:=fun b o q z=>by rw [I.yM b z] at q;cases q
 have cl:∀x c,X.env.cells.lookup x=some c -> ∀v,s.heap.IsCell c v->h'.IsCell c v:=fun x c q v ⟨o,ho,hd⟩=>by
  obtain ⟨sl,r⟩:=any c o ho fun z=>z.2.2.2.2.1 x c q rfl;exact ⟨_,r,hd⟩
 refine ⟨I.ok,I.os,I.bare,⟨fun b o q nn hb hx=> ?_,fun b o q nn hb hx=> ?_,I.base.free,fun b o q hx=> ?_,I.base.tups,I.base.wz,I.base.xg⟩, ?_,fun x c q=> ?_,I.free,I.n_,fun p hp=> ?_,fun a o q=> ?_,I.len⟩
 ·have q1:=I.base.keep b o q nn hb hx
  obtain ⟨n1,n2⟩:=off b o q1 (s0 b o q);exact n.keep b o q1 (nst b (Y7 b o q) hb) n1 n2
 ·obtain ⟨sl,q1⟩:=I.base.slot b o q nn hb hx
  obtain ⟨sl2,q2⟩:=any b _ q1 (s0 b o q);exact ⟨sl2,q2⟩
 ·obtain ⟨o1,q1⟩:=I.base.there b o q hx
  exact n.there b o1 q1
 ·obtain ⟨m,⟨ob,es,ep,ho,r⟩,hl⟩:=I.loc
  obtain ⟨sl,q1⟩:=any _ ob ho fun z=>z.2.1 rfl;refine ⟨m,⟨_,es,ep,q1,r⟩,fun i x v e1 e2 e3=> ?_⟩;obtain ⟨u,ru,l⟩:=hl i x v e1 e2 e3;refine ⟨u,ru, ?_⟩;rcases l with l|⟨k,c,hc,z⟩
  ·exact .inl l
  ·exact .inr ⟨k,c,hc,cl x c hc _ z⟩
 ·obtain ⟨v,z⟩:=I.cell x c q
  exact ⟨v,cl x c q v z⟩
 ·obtain ⟨q,nn,n1,n2,d⟩:=I.pin p hp
  obtain ⟨m1,m2⟩:=off p.1 p.2 q fun z=>z.2.2.2.2.2 p hp rfl;exact ⟨n.keep p.1 p.2 q (nst p.1 n1 n2) m1 m2,nn,n1,n2,d⟩
 ·refine (I.hok a o q).stay (fun b u hb r=> ?_) (fun _ z=>z) fun _ _ z=>z
  rcases hb with rfl|hb
  ·obtain ⟨m1,m2⟩:=off b u r (Ip b o q)
   exact n.keep b u r (U_ b o q) m1 m2
  ·obtain ⟨m1,m2⟩:=off b u r (Ip b _ hb)
   exact n.keep b u r (U_ b _ hb) m1 m2
def rC (P:Program) (w:World):Iv:=fun outer H s E ev s'=>∃(e:Addr) (cls:Value) (dx:Option Addr) (H':Hp),ev = .ref e/\s'.os=s.os/\AllBare s'.gens/\Un (frs outer) [] H H' s.heap s'.heap/\rB P w H' s'.heap /\
 s.heap.get? e=none/\H' e=none/\xR s'.heap e cls dx (fun T=>s.heap.get? T=none/\H' T=none) (some .none)/\E cls dx H'
def Rz (X:Cx) (E:St->XK):Prop:=∀(pins:List (Addr×Obj)) (σ:St) (H:Hp) (s:Shared) (e:Addr) (cls:Value) (dx:Option Addr) (fl:Option Value),(fl=none\/fl=some .none)->Inv X pins σ H s->Ir X pins H e ->
 xR s.heap e cls dx (Ir X pins H) fl->E σ cls dx H->X.xe (.ref e) s
theorem xR.imp {h:Heap} {e:Addr} {cls:Value} {dx:Option Addr} {lo lo':Addr->Prop} {f:Option Value} (x:xR h e cls dx lo f) (k:∀T,(∃o,h.get? T=some o)->lo T->lo' T):xR h e cls dx lo' f:=by
 cases f with
 | none=>exact x
 | some f=>
   obtain ⟨oe,vs,T,oT,ts,he,hc,hdx,hd,h1,hT,nT,Mj,r⟩:=x;exact ⟨oe,vs,T,oT,ts,he,hc,hdx,hd,h1,k T ⟨oT,Mj⟩ hT,nT,Mj,r⟩
theorem zx {E:St->XK} {σ:St} (hx:X.ex=[]) (R:Rz X E) {pins:List (Addr×Obj)} {H:Hp} {s s':Shared} {ev:Value} (I:Inv X pins σ H s) (c:rC X.prog X.w X.stack H s (E σ) ev s'):X.xe ev s':=by
 obtain ⟨e,cls,dx,H',rfl,ho,hg,u,hok,ne,he,x,q⟩:=c;have I':Inv X pins σ H' s':=I.call' (ch:=[]) ho u hok hg (fun b hb=>by cases hb)
 have fp:∀T,s.heap.get? T=none->H' T=none->Ir X pins H' T:=fun T h1 h2=>by
  obtain ⟨_,a2,a3,a4,a5,a6⟩:=I.xfp hx h1;exact ⟨h2,a2,a3,a4,a5,a6⟩
 exact R pins σ H' s' e cls dx _ (.inr rfl) I' (fp e ne he) (x.imp fun T _ z=>fp T z.1 z.2) q
theorem Bd {P:Program} {w:World} {K:PySem.W.Frag} {mg:Str->Option Value} {base:Heap} {N:List Str} {qual:Str} {scope:Scope} {f:Addr} {cd:Value} {A:Around} {outer:List Env} {s:Shared} {H:Hp} {E:XK}:
 Rz (mY (rC P w) P w K mg base N qual scope f cd A outer s H E) (fun _=>E):=by
 intro pins σ H1 s1 e cls dx fl hfl I fe x q;show wpAny (model P w) _ (leaving _ (.ref e)) _ _ s1;unfold leaving;have lo1:∀b,(b=e\/(Ir (mY (rC P w) P w K mg base N qual scope f cd A outer s H E) pins H1 b\/s1.heap.get? b=none))->Ir (mY (rC P w) P w K mg base N qual scope f cd A outer s H E) pins H1 b\/s1.heap.get? b=none:=fun b z=>z.elim (fun z=> .inl (by rw [z];exact fe)) fun z=>z;have stk:(mY (rC P w) P w K mg base N qual scope f cd A outer s H E).A.frames=some ((mY (rC P w) P w K mg base N qual scope f cd A outer s H E).env::outer):=I.ok.frames;refine wpAny_bind (UW (base:=base) (lo:=fun T=>Ir (mY (rC P w) P w K mg base N qual scope f cd A outer s H E) pins H1 T\/s1.heap.get? T=none) hfl stk I.stack rfl (x.imp fun T _ z=> .inl z) (fun T z=> .inr z) fun h1 n1 x1=> ?_);refine U0 (fr:=frs ((mY (rC P w) P w K mg base N qual scope f cd A outer s H E).env::outer)) x1 fun h2 n2 x2=> ?_;have I2:Inv (mY (rC P w) P w K mg base N qual scope f cd A outer s H E) pins σ H1 {s1 with heap:=h2}:=I.noted (n1.trans n2) lo1;refine ⟨e,cls,dx,H1,rfl,I2.os,I2.bare,I2.base,I2.hok,fe.2.2.2.1,fe.1,x2.imp fun T _ z=> ?_,q⟩;rcases z with z|z
 ·exact ⟨z.2.2.2.1,z.1⟩
 ·have y:=I.xfp rfl z
  exact ⟨y.2.2.2.1,y.1⟩
end
end L2
set_option Elab.async false
set_option linter.all false
set_option maxRecDepth 100000
set_option maxHeartbeats 4000000
namespace L2
open PySem PySem.Spec PyProof.Rows
def LR (P:Program) (w:World) (K:PySem.W.Frag) (mg:Str->Option Value) (base:Heap) (k:Nat) (x:Str) (ps:List Str) (sp:Sp):Prop:=
 ∃f fd,bV P w K mg base (rC P w) k f fd ps sp/\mg x=some (.ref f)/\PySem.W.keepIn K (.ref f)=true/\Binds K fd ps []
def QZ (sp:Sp) (E:St->XK) (t:TA):TE:=fun σ H Q=>t σ H fun vs H1=>sp vs H1 Q (E σ)
section
variable {X:Cx} {k:Nat} {x:Str} {ps:List Str} {sp:Sp} {e:Expr} {es:List Expr} {t:TA} {p pos:Pos} {E:St->XK}
theorem Ro (F:LR X.prog X.w X.K X.mg X.base k x ps sp) (hx:X.ex=[]) (R:Rz X E) (hr:cZ k X.A) (hg:Gl X x) (ha:PA X (e::es) t) (hd:(x==("__debug__" :Str))=false:=by decide)
 (he:starEach (e::es) X.env=(false,eval e X.env)::starEach es X.env:=by rfl) (hpl:(backTo pos (starEach es X.env)).any (·.1)=false:=by rfl):
 PE X (.Call (.Name x p) (e::es) [] pos) (QZ sp E t):=by
 obtain ⟨f,fd,G,hm,hk,hb⟩:=F;intro pins s σ H Q I h;refine wpAny_Call_Name_kw (oX I hg hm ?_ hd);refine PySem.W.callWith_K (h₀:=X.base) I.ok.mod.CQ hk (dZ (ha pos pins s σ H _ I h) fun us s1 ⟨vs,H1,I1,r,q⟩=>⟨I1.pA, ?_⟩) he hpl;have hlen:us.length=ps.length:=by rw [←r.length];exact G.len _ _ _ _ q
 have hbd:=hb s1 us I1.pA (by rw [List.append_nil];exact hlen);rw [List.append_nil] at hbd;refine wpAny_call (codeAny_mono (G.run X.A X.stack s1 H1 ⟨us,[]⟩ us vs Q (E σ) hr I1.env0 hbd r q) fun res s' hq=> ?_)
 match res,hq with
 | .error ev,hq=>exact zx hx R I1 hq
 | .ok (.ret u),hq=>exact I1.after hq
end
section
variable {P:Program} {w:World} {K:PySem.W.Frag} {mg:Str->Option Value} {base:Heap}
theorem iY.RL {x qual:Str} {st:Stmt} {f:Addr} {fd:FuncData} {N ps:List Str} {k:Nat} {sp:Sp} (F:iY K x qual st f fd) (S:bh N ps (aD st)) (len:∀vs H Q E,sp vs H Q E->vs.length=ps.length)
 (hbody:∀(cdv:Value) (A:Around) (outer:List Env) (s:Shared) (H:Hp) (vs:List V) (Q:VK) (E:XK),cZ k (A.deeper (envOfC qual (aD st) s.heap.objs.size f cdv))->sp vs H Q E ->
   Rz (mY (rC P w) P w K mg base N qual (aD st) f cdv A outer s H E) (fun _=>E) ->
   ∃t,Eu (mY (rC P w) P w K mg base N qual (aD st) f cdv A outer s H E) (aK st) t/\t {nx:=fun _ H'=>Q .non H',rt:=Q} (start N vs) H):bV P w K mg base (rC P w) (k+1) f fd ps sp:=by
 obtain ⟨oc,od,kV,doc,pm,an,cdv,ct,osl,rfl,lk,hcd⟩:=F.ex;exact K7 lk hcd S len fun A outer s H vs Q E hr hsp=>hbody cdv A outer s H vs Q E hr hsp Bd
end
theorem O4 {K:PySem.W.Frag} {h:Heap} {C:Addr} {bmB:List Value} {newId:String} (X:K.In h) (q:PySem.W.excIn K C bmB newId=true):
 ∃bm N nm qn bs hdct sn sub ab col dd k0 k1 k2 k3 k5 mN,h.get? C=some (excClassObj nm qn C N bs bm hdct sn sub ab col dd k0 k1 k2 k3 k5 newId)/\h.Ns N mN/\mN "__init__" = none/\OwnTail h bmB bm:=by
 unfold PySem.W.excIn at q;split at q
 ·rename_i d0 c0 s0 lk
  split at q
  ·rename_i C1 tl a0 a1 a2 a3 nn a5 em es
   simp only [Bool.and_eq_true,beq_iff_eq,Bool.not_eq_true'] at q;obtain ⟨⟨⟨⟨⟨e1,e2⟩,e3⟩,e4⟩,e5⟩,e6⟩:=q;subst e1 e2;obtain ⟨f1,f2,f3,f4,f5,f6,f7,f8,f9,Ux,f11⟩:=c0;dsimp only at em e3 e5 e6;subst em e3
   have ez:s0 = #[a0,a1,a2,a3,some (.builtin nn),a5]:=by
    obtain ⟨l⟩:=s0;simp only at es;rw [es]
   subst ez;exact ⟨tl,f4,_,_,_,_,_,_,_,_,_,_,_,_,_,_,_,X _ _ lk,.of_isNs (PySem.W.isNs_of_in X e5),PySem.W.nsMap_none_of_in X e5 e6,PySem.W.tail_of_in X e4⟩
  ·cases q
 ·cases q
def QS (cls:Value) (E:St->XK) (ta:TA):TS:=fun _ σ H=>ta σ H fun vs H1=>vs.length<=sizeLine/\E σ cls none H1
section
variable {X:Cx} {E:St->XK} {x:Str} {C:Addr} {B newId initId:String} {bmB:List Value} {e0:Expr} {rest:List Expr} {ta:TA} {np cpos pos:Pos}
theorem qM (FB:ExcBaseFacts B newId initId bmB) (q:PySem.W.excIn X.K C bmB newId=true) (hm:X.mg x=some (.ref C)) (hg:Gl X x) (hc:X.calm=true) (hx:X.ex=[]) (R:Rz X E) (ha:PA X (e0::rest) ta)
 (he:starEach (e0::rest) X.env=(false,eval e0 X.env)::starEach rest X.env:=by rfl) (hplain:(backTo cpos (starEach rest X.env)).any (·.1)=false:=by rfl) (hd:(x==("__debug__" :Str))=false:=by decide):
 PS X (.Raise (some (.Call (.Name x np) (e0::rest) [] cpos)) none pos) (QS (.ref C) E ta):=by
 intro pins s σ H D I h;obtain ⟨bm,N,nm,qn,bs,hdct,sn,sub,ab,col,dd,k0,k1,k2,k3,k5,mN,hC,hN,hni,T⟩:=O4 I.ok.mod.CQ q
 refine wpAny_Raise_call_subT (k5:=k5) (k3:=k3) (k2:=k2) (k1:=k1) (k0:=k0) (dd:=dd) (col:=col) (ab:=ab) (sub:=sub) (sn:=sn) (hdct:=hdct) (bs:=bs) (q:=qn) (nm:=nm)
  (C:=C) (N:=N) (bm:=bm) (mN:=mN) FB (T.hasType FB.hasBase) (I.ok.hd hc) (by rw [he];show (false||(backTo cpos (starEach rest X.env)).any (·.1))=false;rw [hplain];rfl) hni (oX I hg hm ⟨rfl, ?_⟩ hd)
 have h2:=ha cpos pins s σ H _ I h;rw [he] at h2 ⊢;refine Calls.evalArgs_plain (dZ h2 fun us s1 ⟨vs,H1,I1,r,hl,hE⟩=>⟨rfl,by rw [←r.length];exact hl,I1.bk _ _ hC,hN.keeps I1.bk,T.keeps I1.bk,fun h' e mk=> ?_⟩);obtain ⟨t,ht,_,_⟩:=mk.there;have I2:Inv X pins σ H1 {s1 with heap:=h'}:=I1.kept (t':=s1.toks) mk.keeps;exact R pins σ H1 _ e (.ref C) none none (.inl rfl) I2 (I1.xfp hx mk.new) ⟨_,_,ht,rfl,rfl,rfl,rfl⟩ hE
end
section
variable {X:Cx} {pins:List (Addr×Obj)} {σ:St} {H:Hp} {s:Shared}
end
section
variable {M:Model} {A:Around} {Er:Value->Shared->Prop} {s:Shared} {K:PySem.W.Frag} {e C D:Addr}
end
end L2
set_option Elab.async false
set_option linter.all false
set_option maxRecDepth 100000
set_option maxHeartbeats 4000000
namespace L2
open PySem PySem.Spec PyProof.Rows
section
variable {X:Cx} {pins:List (Addr×Obj)} {σ:St} {H:Hp} {s:Shared}
end
structure XHd (K:PySem.W.Frag) (D:Addr):Prop where
 cl:(PySem.W.clsIn K D).isSome=true
 ty:PySem.W.typeIn K (.ref D)=some (.type "type")
 bs:PySem.W.subIn K (.ref D) (.type "BaseException")=some true
section
variable {X:Cx} {body suite:List Stmt} {b0:Stmt} {n cn:Str} {i:Nat} {Dc:Addr} {tb:(St->XK)->TS} {th:TS} {cp hpos pos:Pos}
end
section
variable {X:Cx} {K:PySem.W.Frag}
end
end L2
set_option Elab.async false
set_option linter.all false
set_option maxRecDepth 100000
set_option maxHeartbeats 4000000
namespace L2
open PySem PySem.Spec PyProof.Rows
section
variable {X:Cx} {K:PySem.W.Frag}
end
structure Yk (K:PySem.W.Frag) (C D:Addr) (b:Bool):Prop where
 ne:(Value.ref C==Value.ref D)=false
 sub:PySem.W.subIn K (.ref C) (.ref D)=some b
end L2
namespace L2
open PySem
structure Xr (K:PySem.W.Frag) (mg:Str->Option Value) (C:Addr) (nm:Str):Prop where
 bd:mg nm=some (.ref C)
 hd:XHd K C
 xc:PySem.W.aix K C
 ex:PySem.W.excIn K C [.type "ValueError",.type "Exception",.type "BaseException",.type "object"] "ValueError.__new__" = true
 ve:PySem.W.subIn K (.ref C) (.type "ValueError")=some true
structure Xo (K:PySem.W.Frag) (mg:Str->Option Value) (C D:Addr) (nm:Str) (b:Bool):Prop where
 bd:mg nm=some (.ref D)
 hd:XHd K D
 pr:Yk K C D b
end L2
set_option Elab.async false
set_option linter.all false
set_option maxRecDepth 100000
set_option maxHeartbeats 4000000
namespace L2
open PySem PySem.Spec PyProof.Rows
section
variable {X:Cx} {pins:List (Addr×Obj)} {σ:St} {H:Hp} {s:Shared} {h':Heap}
theorem Inv.Fj {t':Nat} {fp:List Addr} (I:Inv X pins σ H s) (hf:∀b∈fp,qm X pins H b) (k:∀b o,b∉fp->s.heap.get? b=some o->h'.get? b=some o):Inv X pins σ H {s with heap:=h',toks:=t'}:=by
 have V4:∀b u,H b=some u->b∉fp:=fun b u e z=>by rw [(hf b z).1] at e;cases e
 refine I.step (g':=s.gens) (d':=s.drawn) (ch:=fp) (fun b hb=> ?_) (fun b o _ _ hc e _=>k b o hc e) (fun b o _ _ hc e _=>⟨o.slots,k b o hc e⟩) (fun _ _ _ _ n=>n)
  (fun b o hc e=>⟨o,k b o hc e⟩) (fun _ _ e=>e) (fun _ _ _ e=>e) (fun b ps e=>⟨#[],by rw [e];simp⟩) (fun m hm=> ?_) (fun b u e=> ?_) I.bare
 ·obtain ⟨f0,f1,f2,f3,f4,f5⟩:=hf b hb
  exact ⟨f3,f1,f4,f5⟩
 ·obtain ⟨o,es,ep,ho,r⟩:=hm
  exact ⟨o,es,ep,k _ o (fun z=>(hf _ z).2.1 rfl) ho,r⟩
 ·refine (I.hok b u e).stay (fun c v hc q=>k c v ?_ q) (fun _ q=>q) fun _ _ q=>q
  rcases hc with z|z
  ·rw [z];exact V4 b u e
  ·exact V4 c _ z
theorem qm.upd {b p:Addr} {o:HO} (h:qm X pins H b) (n:b≠p):qm X pins (upd H p o) b:=by
 obtain ⟨f0,r⟩:=h;exact ⟨by rw [aG n];exact f0,r⟩
theorem K4 {h:Heap} {o u:Obj} {b:Addr} (ho:o.isFreed=false) (e:(h.push o).get? b=some u):(b=h.objs.size/\u=o)\/h.get? b=some u:=by
 by_cases hb:b=h.objs.size
 ·subst hb
  rw [Heap.get?_push_size _ ho] at e;exact .inl ⟨rfl,(Option.some.inj e).symm⟩
 ·refine .inr ?_
  have lt:=Heap.lt_size e
  have Y_:b<h.objs.size:=by
   have:(h.push o).objs.size=h.objs.size+1:=by simp [Heap.push]
   rw [this] at lt;exact Nat.lt_of_le_of_ne (Nat.le_of_lt_succ lt) hb
  have:(h.push o).get? b=h.get? b:=by
   simp only [Heap.get?,Heap.push];rw [Array.getElem?_push_lt Y_,Array.getElem?_eq_getElem Y_]
  rw [←this];exact e
end
section
variable {X:Cx}
end
def Yq (K:PySem.W.Frag) (l1 l2:Addr):It:=
 ⟨fun i H=>∃xs ys x y,bC K H l1 xs/\bC K H l2 ys/\xs[i]? = some x/\ys[i]? = some y,
  fun i H x H'=>∃(p:Addr) (y z:V),x = .ref p/\H p=none/\(∀xs,bC K H l1 xs->xs[i]? = some y)/\(∀ys,bC K H l2 ys->ys[i]? = some z)/\H'=upd H p (.tup [y,z]),
  fun i H=>∃xs ys,bC K H l1 xs/\bC K H l2 ys/\(xs.length<=i\/ys.length<=i)⟩
theorem Jj {P:Program} {w:World} {K:PySem.W.Frag} {elts:List Expr} {x1:Nat} {pos:Pos} (z TI TO i1 i2 l1 l2:Addr) (ap:ZipApart z TI TO i1 i2 l1 l2):Turn P w K (.Tuple elts x1 pos) (Yq K l1 l2) [z,TI,TO,i1,i2] z
 (fun i h=>IsZip h z TI TO .none/\IsPair h TI (.ref i1) (.ref i2)/\(∃a b,IsPair h TO a b)/\h.IsListIter i1 l1 i/\h.IsListIter i2 l2 i) where
 mem:=by simp
 obj:=fun i h st b hb=>by
  obtain ⟨hz,hTI,⟨a,c,hTO⟩,⟨o1,h1,c1,d1⟩,⟨o2,h2,c2,d2⟩⟩:=st;have hb':b=z\/b=TI\/b=TO\/b=i1\/b=i2:=by simpa using hb
  rcases hb' with rfl|rfl|rfl|rfl|rfl
  ·exact ⟨_,hz,fun v z=>by cases z⟩
  ·exact ⟨_,hTI,fun v z=>by cases z⟩
  ·exact ⟨_,hTO,fun v z=>by cases z⟩
  ·exact ⟨_,h1,fun v z=>by rw [d1] at z;cases z⟩
  ·exact ⟨_,h2,fun v z=>by rw [d2] at z;cases z⟩
 keep:=fun i h h' st k=>by
  obtain ⟨hz,hTI,⟨a,c,hTO⟩,⟨o1,h1,c1,d1⟩,⟨o2,h2,c2,d2⟩⟩:=st;exact ⟨k z (by simp) _ hz,k TI (by simp) _ hTI,⟨a,c,k TO (by simp) _ hTO⟩,⟨o1,k i1 (by simp) _ h1,c1,d1⟩,⟨o2,k i2 (by simp) _ h2,c2,d2⟩⟩
 item:=by
  intro X hP hw hK hc i pins s σ H E I hf st hg;subst hP hw hK;obtain ⟨xs,ys,x,y,hq1,hq2,hx,hy⟩:=hg;obtain ⟨Wd,YW,p1,hz1⟩:=I.list hq1;obtain ⟨its2,YT,p2,hz2⟩:=I.list hq2;obtain ⟨u1,hu1,ru1⟩:=YW.get hx;obtain ⟨u2,hu2,ru2⟩:=YT.get hy;obtain ⟨hz,hTI,⟨a,c,hTO⟩,hi1,hi2⟩:=st;have zlt:=Heap.lt_size hz;have aiA:=Heap.lt_size hTI;have aiz:=Heap.lt_size hTO;have afq:i1<s.heap.objs.size:=by obtain ⟨o,ho,_⟩:=id hi1;exact Heap.lt_size ho
  have afp:i2<s.heap.objs.size:=by obtain ⟨o,ho,_⟩:=id hi2;exact Heap.lt_size ho
  refine wpAny_pyNext_zip_item ap hz hTI hTO hi1 hi2 p1.isList p2.isList (x:=u1) (y:=u2) (by simpa using hu1) (by simpa using hu2) fun h' hz' afF afB hi2' hnew hsz hk=> ?_;refine ⟨_,rfl, ?_⟩;refine wpAny_letOwnedTupleGo_zip hz' fun h2 afr sb=> ?_;have hfr:H s.heap.objs.size=none:=I.hok.fresh (Nat.le_refl _)
  have I0:Inv X pins σ (upd H s.heap.objs.size (.tup [x,y])) {s with heap:=s.heap.push {cls:= .type "tuple",data:= .seq #[u1,u2]}}:=
   I.laid (t':=s.toks) (fun b u e=>Heap.get?_push_of_some _ e) (Nat.le_refl _) ⟨by show 2<=sizeLine;decide,[u1,u2],.cons ru1 (.cons ru2 .nil),⟨_,Heap.get?_push_size _ rfl,rfl,_,rfl⟩⟩
  have hf0:∀b∈[z,TI,TO,i1,i2],qm X pins (upd H s.heap.objs.size (.tup [x,y])) b:=fun b hb=>by
   refine (hf b hb).upd ?_;have hb':b=z\/b=TI\/b=TO\/b=i1\/b=i2:=by simpa using hb
   rcases hb' with rfl|rfl|rfl|rfl|rfl
   ·exact Nat.ne_of_lt zlt
   ·exact Nat.ne_of_lt aiA
   ·exact Nat.ne_of_lt aiz
   ·exact Nat.ne_of_lt afq
   ·exact Nat.ne_of_lt afp
  have I1:=I0.Fj (h':=h2) (t':=s.toks) hf0 (fun b o hb eb=>by
   have b1:b≠z:=fun e=>hb (by simp [e]);have b2:b≠TO:=fun e=>hb (by simp [e]);have b3:b≠i1:=fun e=>hb (by simp [e]);have b4:b≠i2:=fun e=>hb (by simp [e]);rw [sb.2 b b1];rcases K4 rfl eb with ⟨rfl,rfl⟩|eb
   ·exact hnew
   ·exact hk b o b1 b2 b3 b4 eb)
  refine ⟨.ref s.heap.objs.size,_,I1,rfl,⟨s.heap.objs.size,x,y,rfl,hfr,fun ys hy=>by rw [I.vV hy hq1];exact hx,fun ys' hy'=>by rw [I.vV hy' hq2];exact hy,rfl⟩, ?_,fun b hb=>(hf0 b hb).1⟩;obtain ⟨o1,ho1,c1,d1⟩:=afB;obtain ⟨o2,ho2,c2,d2⟩:=hi2';exact ⟨afr,(sb.2 TI ap.TIz).trans (hk TI _ ap.TIz ap.TITO ap.TIi1 ap.TIi2 hTI),⟨_,_,(sb.2 TO ap.TOz).trans afF⟩,⟨o1,(sb.2 i1 ap.i1z).trans ho1,c1,d1⟩,⟨o2,(sb.2 i2 ap.i2z).trans ho2,c2,d2⟩⟩
 done:=by
  intro X hP hw hK hc i pins s σ H E I hf st hg;subst hP hw hK;obtain ⟨xs,ys,hq1,hq2,hx⟩:=hg;obtain ⟨Wd,YW,p1,hz1⟩:=I.list hq1;obtain ⟨its2,YT,p2,hz2⟩:=I.list hq2;obtain ⟨hz,hTI,⟨a,c,hTO⟩,hi1,hi2⟩:=st;have hl1:=YW.length;have hl2:=YT.length;refine wpAny_pyNext_zip_end (I.ok.hd hc) ap hz hTI hTO hi1 hi2 p1.isList p2.isList ?_ fun h' eb=>⟨rfl,I.Fj (t':=s.toks) hf (fun b o hb e=>eb b o (fun z=>hb (by simp [z])) (fun z=>hb (by simp [z])) (fun z=>hb (by simp [z])) (fun z=>hb (by simp [z])) e)⟩;rcases hx with hx|hx
  ·exact .inl (by simp;omega)
  ·exact .inr (by simp;omega)
 self:=fun _ _ _ _ _ st h=>wpAny_pyIter_zip st.1 h
section
variable {X:Cx}
def afn (K:PySem.W.Frag) (ta:TA):TI:=fun σ H R=>ta σ H fun vs H1=>∃l1 l2 xs ys,vs=[.ref l1,.ref l2]/\bC K H1 l1 xs/\bC K H1 l2 ys/\R (Yq K l1 l2) H1
theorem Nm {K:PySem.W.Frag} {a b:Expr} {ta:TA} {p pos:Pos} {elts:List Expr} {x1:Nat} {tpos:Pos} (hK:X.K=K) (hg:Gl X "zip") (hm:X.mg "zip" = none) (ha:PA X [a,b] ta) (hs:starEach [a,b] X.env=[(false,eval a X.env),(false,eval b X.env)]:=by rfl) (hs2:starEach [b] X.env=[(false,eval b X.env)]:=by rfl):PI X (.Tuple elts x1 tpos) (.Call (.Name "zip" p) [a,b] [] pos) (afn K ta):=by
 subst hK;intro pins s σ H R I h;refine Call_ (vY I hg hm boot_zip (PyProof.Rows.callWith_type1 (dZ (ha pos pins s σ H _ I h) fun us s1 ⟨vs,H1,I1,r1,q1⟩=> ?_) (by rw [hs,hs2]) (by rw [hs2];rfl)));obtain ⟨l1,l2,xs,ys,e,hq1,hq2,q⟩:=q1;subst e;cases r1 with
 | cons r rr=>
   cases rr with
   | cons r' rr=>
     cases rr;cases r;cases r';obtain ⟨Wd,YW,pl1,hz1⟩:=I1.list hq1;obtain ⟨its2,YT,pl2,hz2⟩:=I1.list hq2;have lt1:l1<s1.heap.objs.size:=by obtain ⟨o,ho,_⟩:=pl1.isList;exact Heap.lt_size ho
     have Y_:l2<s1.heap.objs.size:=by obtain ⟨o,ho,_⟩:=pl2.isList;exact Heap.lt_size ho
     refine call_zip_2 pl1.isList pl2.isList fun h' hZ hTI hTO hi1 hi2 hsz hk=> ?_;refine wpAny_pyIter_zip hZ ?_;have I2:Inv X pins σ H1 {s1 with heap:=h'}:=I1.kept (t':=s1.toks) hk;refine ⟨s1.heap.objs.size+4,[s1.heap.objs.size+4,s1.heap.objs.size+2,s1.heap.objs.size+3,s1.heap.objs.size,s1.heap.objs.size+1],_,_,H1,rfl,I2,Jj _ _ _ _ _ l1 l2 (zipApart_new lt1 Y_),⟨hZ,hTI,⟨_,_,hTO⟩,hi1,hi2⟩,fun b hb=> ?_,q⟩
     have hb':s1.heap.objs.size<=b:=by
      have:b=s1.heap.objs.size+4\/b=s1.heap.objs.size+2\/b=s1.heap.objs.size+3\/b=s1.heap.objs.size\/b=s1.heap.objs.size+1:=by simpa using hb
      rcases this with rfl|rfl|rfl|rfl|rfl
      ·exact Nat.le_add_right _ _
      ·exact Nat.le_add_right _ _
      ·exact Nat.le_add_right _ _
      ·exact Nat.le_refl _
      ·exact Nat.le_add_right _ _
     exact I1.HX hb' (I1.hok.fresh hb')
end
end L2
set_option Elab.async false
set_option linter.all false
set_option maxRecDepth 100000
set_option maxHeartbeats 4000000
namespace L2
open PySem PySem.Spec PyProof.Rows
section
variable {K:PySem.W.Frag} {a l1 l2 D:Addr} {xs ys:List V} {g:TG} {tc:TT} {te:TE} {Q:VK} {σ0:St} {H1:Hp}
end
section
variable {K:PySem.W.Frag} {a l1 l2:Addr} {xs ys:List V} {g:TG} {tb:TS} {D:Ends} {σ:St} {H:Hp}
end
section
variable {X:Cx}
theorem Ar:∀{ns:List Int} {us:List Value},Vals (ns.map V.int) us->IntsAre us ns
 | [],us,r=>by cases r;exact .nil
 | n::ns,us,r=>by
   cases r with
   | cons r rs=>
     obtain ⟨t,rfl⟩:=r;exact .cons n t (Ar rs)
def Ng:V->List V->Hp->VK->Prop:=fun x vs H Q=>∃(l:Addr) (ns:List Int) (i:Int),x = .ref l/\vs=[.int i]/\bC X.K H l (ns.map V.int)/\Q (.int (ns.count i)) H
theorem Kq:T_ X "list.count" (Ng (X:=X)):=by
 intro pins s σ H x vs v us Q I rx rv h;obtain ⟨l,ns,i,rfl,rfl,hq,q⟩:=h;cases rx;obtain ⟨u,rfl,ru⟩:=rv.one;obtain ⟨t,rfl⟩:=ru;obtain ⟨its,r',pl,hz⟩:=I.list hq;exact count_list_ints pl.isList (Ar r') ⟨.int _,H,I.tok _,⟨_,rfl⟩,q⟩
theorem sI {K:PySem.W.Frag} {T name id:String} {r:V->List V->Hp->VK->Prop} {o e:Expr} {es:List Expr} {to:TE} {t:TA} {apos cpos:Pos} (h:X.K=K) (pa:PlainAttrs T) (slot:Slot T name id) (hty:typeOf (.builtin id)=pure (.type "method_descriptor")) (hm:T_ X id r) (ho:PE X o to) (ha:PA X (e::es) t)
 (hbase:attributeBase o name X.env (eval o X.env)=eval o X.env:=by rfl)
 (hfew:((backTo cpos (starEach (e::es) X.env)).all (fun x=> !x.1)&&(backToKw cpos (keywordEach [] X.env)).all (fun x=>x.1.isSome)
   && decide ((e::es).length+([]:List Keyword).length+(if ([]:List Keyword).isEmpty then 0 else 1)<30))=true:=by rfl)
 (hline:(apos.endLine==cpos.line)=true:=by rfl) (hs:starEach (e::es) X.env=(false,eval e X.env)::starEach es X.env:=by rfl) (hplain:(backTo cpos (starEach es X.env)).any (·.1)=false:=by rfl):
 PE X (.Call (.Attribute o name apos) (e::es) [] cpos) (tBM K T r to t):=by
 subst h;exact Qi pa slot hty hm ho ha hbase hfew hline hs hplain
def Rb (K:PySem.W.Frag):V->List V->Hp->VK->Prop:=fun x vs H Q=>∃(l:Addr) (ns:List Int) (i:Int),x = .ref l/\vs=[.int i]/\bC K H l (ns.map V.int)/\Q (.int (ns.count i)) H
theorem Hw {K:PySem.W.Frag} (h:X.K=K):T_ X "list.count" (Rb K):=by subst h;exact Kq
theorem jB {K:PySem.W.Frag} {es:List Expr} {k:Nat} {t:Qu} {n:Nat} {pos:Pos} (hK:X.K=K) (hc:X.calm=true) (h:Yp X es t)
 (hn:(assignEach es X.env).length=n:=by rfl) (hst:(assignEach es X.env).findIdx? (·.1)=none:=by rfl):PG X (.Tuple es k pos) (Wy K n t):=by subst hK;exact Rm hc h hn hst
end
end L2
set_option Elab.async false
set_option linter.all false
set_option maxRecDepth 100000
set_option maxHeartbeats 4000000
namespace L2
open PySem
section
variable {K:PySem.W.Frag} {a D:Addr} {xs:List V} {tc:TT} {te:TE} {Q:VK} {rest:St} {H1:Hp}
theorem j4 {α:Type} (f:Nat->Option α) (n:Nat):(List.range (n+1)).filterMap f=(List.range n).filterMap f++(f n).toList:=by
 rw [List.range_succ,List.filterMap_append];cases h:f n<;>simp [h]
theorem Ek {α:Type} (f:Nat->Option α) (n:Nat):((List.range n).filterMap f).length<=n:=by
 have:=List.length_filterMap_le f (List.range n);simpa using this
theorem Same.newly {H H1:Hp} {D:Addr} {o:HO} (h:Same H H1) (n:H D=none):Same H (upd H1 D o):=fun b u e=>by rw [aG (aB e n)];exact h b u e
theorem wI (f:Nat->Option V) (hD:H1 D=none) (hq:bC K H1 a xs) (hx:xs.length<=100000)
 (hs:∀i x H (G:Hp->Prop) (F:VK),xs[i]? = some x->Same H1 H->(∀H',Same H H'->f i=none->G H')->(∀y H',Same H H'->f i=some y->F y H')->tc (some x::rest) H fun b H3=>if b=true then te (some x::rest) H3 F else G H3)
 (hd:∀H,Same H1 H->H D=some (.lst ((List.range xs.length).filterMap f))->Q (.ref D) H):oK (Mq K a) (dO 0) tc te Q D (none::rest) H1:=by
 refine iT (K:=K) (xs:=xs) (fun i σ H=>(∃v,σ=v::rest)/\Same H1 H/\H D=some (.lst ((List.range i).filterMap f))) ⟨⟨none,rfl⟩,aF hD,ak⟩ (fun i σ H _ ⟨_,sm,_⟩=>sm.sqL _ _ hq) ?_ (fun σ H ⟨_,sm,e⟩=>hd H sm e);rintro i x σ H hi ⟨⟨v,rfl⟩,sm,e⟩;have hil:i<xs.length:=(List.getElem?_eq_some_iff.mp hi).1;refine hs i x H _ _ hi sm (fun H3 s3 ef=>⟨⟨_,rfl⟩,sm.trans s3,by rw [s3 _ _ e,j4,ef];simp⟩) (fun y H4 s4 ef=> ?_);refine ⟨_,s4 _ _ e, ?_,⟨_,rfl⟩,(sm.trans s4).newly hD, ?_⟩
 ·have:=Ek f i
  rw [sizeLine_eq];omega
 ·rw [ak,j4,ef];rfl
theorem yu {n:Nat} (f:Nat->Option V) (hD:H1 D=none) (hx:n<=100000)
 (hs:∀i H (G:Hp->Prop) (F:VK),i<n->Same H1 H->(∀H',Same H H'->f i=none->G H')->(∀y H',Same H H'->f i=some y->F y H')->tc (some (.int (0+i))::rest) H fun b H3=>if b=true then te (some (.int (0+i))::rest) H3 F else G H3)
 (hd:∀H,Same H1 H->H D=some (.lst ((List.range n).filterMap f))->Q (.ref D) H):oK (PN 0 n) (dO 0) tc te Q D (none::rest) H1:=by
 refine mL (lo:=0) (n:=n) (fun i σ H=>(∃v,σ=v::rest)/\Same H1 H/\H D=some (.lst ((List.range i).filterMap f))) ⟨⟨none,rfl⟩,aF hD,ak⟩ ?_ (fun σ H ⟨_,sm,e⟩=>hd H sm e);rintro i σ H hi ⟨⟨v,rfl⟩,sm,e⟩;refine hs i H _ _ hi sm (fun H3 s3 ef=>⟨⟨_,rfl⟩,sm.trans s3,by rw [s3 _ _ e,j4,ef];simp⟩) (fun y H4 s4 ef=> ?_);refine ⟨_,s4 _ _ e, ?_,⟨_,rfl⟩,(sm.trans s4).newly hD, ?_⟩
 ·have:=Ek f i
  rw [sizeLine_eq];omega
 ·rw [ak,j4,ef];rfl
theorem BR {α β:Type} {f g:α->Option β}:∀(l:List α) (_:True) (h:∀x∈l,f x=g x),l.filterMap f=l.filterMap g
 | [],_,_=>rfl
 | x::l,_,h=>by
   rw [List.filterMap_cons,List.filterMap_cons,h x (by simp),BR l trivial fun y hy=>h y (by simp [hy])]
theorem snocInd {α:Type} {P:List α->Prop} (h0:P []) (hs:∀xs x,P xs->P (xs++[x])) (xs:List α):P xs:=by
 rw [←List.reverse_reverse xs]
 induction xs.reverse with
 | nil=>exact h0
 | cons x l ih=>rw [List.reverse_cons];exact hs _ _ ih
theorem Gm {α β:Type} (xs:List α) (g:α->β):(List.range xs.length).filterMap (fun i=>(xs[i]?).map g)=xs.map g:=by
 refine snocInd (P:=fun xs=>(List.range xs.length).filterMap (fun i=>(xs[i]?).map g)=xs.map g) rfl (fun xs x ih=> ?_) xs
 ·show (List.range (xs++[x]).length).filterMap (fun i=>((xs++[x])[i]?).map g)=(xs++[x]).map g
  rw [List.length_append,List.length_singleton,j4,List.map_append];congr 1
  ·rw [←ih]
   refine BR _ trivial fun i hi=> ?_;have:i<xs.length:=by simpa using hi
   rw [List.getElem?_append_left this]
  ·simp
end
end L2
namespace L2
open PySem
section
variable {X:Cx} {K:PySem.W.Frag}
end
end L2
namespace L2
open PySem
theorem qH {a b:TS} {D:Ends} {σ:St} {H:Hp} (h:∀R:St->Hp->Prop,(∀σ' H',b D σ' H'->R σ' H')->a {D with nx:=R} σ H):Jq a b D σ H:=h _ (fun _ _ x=>x)
theorem gU {a b:TS} {D:Ends} {σ:St} {H:Hp} (P:St->Hp->Prop) (h1:∀D':Ends,(∀σ' H',P σ' H'->D'.nx σ' H')->D'.rt=D.rt->a D' σ H) (h2:∀σ' H',P σ' H'->b D σ' H'):Jq a b D σ H:=h1 _ h2 rfl
end L2
namespace L2
open PySem PySem.Spec PyProof.Rows
section
variable {X:Cx} {K:PySem.W.Frag} {a:Expr} {ta:TE} {pos:Pos}
end
end L2
set_option Elab.async false
set_option linter.all false
set_option maxRecDepth 100000
set_option maxHeartbeats 4000000
namespace L2
open PySem PySem.Spec PyProof.Rows
section
variable {X:Cx} {K:PySem.W.Frag}
theorem FQ {T name id:String} {r:V->List V->Hp->VK->Prop} {o:Expr} {to:TE} {apos cpos:Pos} (h:X.K=K) (pa:PlainAttrs T) (slot:Slot T name id) (hty:typeOf (.builtin id)=pure (.type "method_descriptor")) (hm:T_ X id r) (ho:PE X o to)
 (hbase:attributeBase o name X.env (eval o X.env)=eval o X.env:=by rfl) (hline:(apos.endLine==cpos.line)=true:=by rfl):PE X (.Call (.Attribute o name apos) [] [] cpos) (Vk K T r to):=by
 subst h;exact Rq pa slot hty hm ho hbase hline
end
section
variable {K:PySem.W.Frag} {a D:Addr} {xs:List V} {te:TE} {Q:VK} {rest:St} {H1:Hp}
theorem sY {H:Hp} {vs:List V} {ds:List PyData} {v:V} {d:PyData} (h:bf H vs ds) (hd:Dat H v d):bf H (vs++[v]) (ds++[d]):=bf.append h (by simp only [bf,and_true];exact hd)
end
end L2
set_option Elab.async false
set_option linter.all false
namespace L2
open PySem
def Gv (mg:Str->Option Value) (x:Str) (v:V):Prop:=∃u,mg x=some u/\RelV v u
end L2
set_option Elab.async false
set_option linter.all false
set_option maxRecDepth 100000
set_option maxHeartbeats 4000000
namespace L2
open PySem PySem.Spec PyProof.Rows
section
variable {prog:Program} {w:World} {K:Type} [DecidableEq K] {knd:HeapKind prog w K}
end
section
variable {X:Cx} {o e f:Expr} {td ty tx:TE} {apos cpos:Pos}
end
end L2
namespace L2
open PySem PySem.Spec PyProof.Rows
section
variable {X:Cx} {K:PySem.W.Frag}
end
end L2
namespace L2
open PySem
end L2
set_option Elab.async false
set_option linter.all false
set_option maxRecDepth 100000
set_option maxHeartbeats 4000000
namespace L2
open PySem PySem.Spec PyProof.Rows
section
variable {X:Cx} {K:PySem.W.Frag}
end
def cat:List Str->Str
 | []=>Str.empty
 | x::xs=>x++cat xs
end L2
set_option Elab.async false
set_option linter.all false
set_option maxRecDepth 100000
set_option maxHeartbeats 4000000
namespace L2
open PySem PySem.Spec PyProof.Rows
section
variable {X:Cx} {body suite:List Stmt} {b0:Stmt} {cn:Str} {Dc:Addr} {tb:(St->XK)->TS} {th:TS} {cp hpos pos:Pos}
end
end L2
namespace L2
open PySem PySem.Spec PyProof.Rows
section
variable {X:Cx}
def Ys (i j:Int):Prop:=0<j/\j<1329227995784915872903807060280344576
theorem Bm:oG X (binaryOp .FloorDiv) (rI Ys fun i j=> .int (i / j)):=VF fun i j _ _ _ _ _ hc q=>by
 have h1:(0:Int)<j:=hc.1;have h2:j<1329227995784915872903807060280344576:=hc.2;refine floordiv_int (by omega) (by rw [Int.fdiv_eq_ediv_of_nonneg i (by omega)];exact q) (.inl ?_);unfold Builtin.divisionGoesByPylong;have hn:j.natAbs<2 ^ 120:=by omega
 have hl:j.natAbs.log2<120:=(Nat.log2_lt (by omega)).mpr hn
 have hz:(j==0)=false:=by
  rw [beq_eq_false_iff_ne];omega
 simp only [hz,Bool.false_eq_true,if_false];have:¬j.natAbs.log2 / 30+1>300:=by omega
 rw [decide_eq_false this,Bool.false_and]
end
end L2
set_option Elab.async false
set_option linter.all false
set_option maxRecDepth 100000
set_option maxHeartbeats 4000000
namespace L2
open PySem PySem.Spec PyProof.Rows
section
variable {X:Cx} {pins:List (Addr×Obj)} {σ:St} {H:Hp} {s:Shared} {d:Addr} {u u':HO}
end
section
variable {X:Cx} {tg:Expr}
end
section
variable {d D:Addr} {o:Obj} {kvs:List (Key×V)} {tc:TT} {te:TE} {Q:VK} {rest:St} {H1:Hp}
end
end L2
set_option Elab.async false
set_option linter.all false
set_option maxRecDepth 100000
set_option maxHeartbeats 4000000
namespace L2
open PySem PySem.Spec PyProof.Rows
section
variable {X:Cx} {tg:Expr}
end
end L2
set_option Elab.async false
set_option linter.all false
set_option maxRecDepth 100000
set_option maxHeartbeats 4000000
namespace L2
open PySem PySem.Spec PyProof.Rows
section
variable {X:Cx} {tg:Expr}
end
end L2
set_option Elab.async false
set_option linter.all false
set_option maxRecDepth 100000
set_option maxHeartbeats 4000000
namespace L2
open PySem PySem.Spec PyProof.Rows
section
variable {X:Cx}
end
end L2
set_option Elab.async false
set_option linter.all false
set_option maxRecDepth 100000
set_option maxHeartbeats 4000000
namespace L2
open PySem PySem.Spec PyProof.Rows
section
variable {H H':Hp}
mutual
theorem Dat.same (k:Same H H'):∀(d:PyData) {v:V},Dat H v d->Dat H' v d
 | .none,_,h=>by simp only [Dat] at h ⊢;exact h
 | .bool _,_,h=>by simp only [Dat] at h ⊢;exact h
 | .int _,_,h=>by simp only [Dat] at h ⊢;exact h
 | .str _,_,h=>by simp only [Dat] at h ⊢;exact h
 | .list ds,_,h=>by simp only [Dat] at h ⊢;obtain ⟨a,vs,e,q,r⟩:=h;exact ⟨a,vs,e,k _ _ q,bf.same k ds r⟩
 | .tuple ds,_,h=>by simp only [Dat] at h ⊢;obtain ⟨a,vs,e,q,r⟩:=h;exact ⟨a,vs,e,k _ _ q,bf.same k ds r⟩
 | .dict _,_,h=>by simp only [Dat] at h
theorem bf.same (k:Same H H'):∀(ds:List PyData) {vs:List V},bf H vs ds->bf H' vs ds
 | [],[],_=>by simp only [bf]
 | d::ds,v::vs,h=>by simp only [bf] at h ⊢;exact ⟨Dat.same k d h.1,bf.same k ds h.2⟩
 | _::_,[],h=>by simp only [bf] at h
 | [],_::_,h=>by simp only [bf] at h
end
end
section
variable {X:Cx} {K:PySem.W.Frag}
end
section
variable {K:PySem.W.Frag} {a D:Addr} {xs:List V} {tc:TT} {te:TE} {Q:VK} {rest:St} {H1:Hp}
end
section
variable {X:Cx}
end
end L2
set_option Elab.async false
set_option linter.all false
set_option maxRecDepth 100000
set_option maxHeartbeats 4000000
namespace L2
open PySem PySem.Spec PyProof.Rows
theorem cZ.Dh {k:Nat} {A:Around} (r:cZ k A):A.in1.units+64<cLine:=by have:=r.un;show A.units+1+64<_;omega
section
variable {X:Cx} {K:PySem.W.Frag} {e st:Expr} {te tk:TE} {pos p2:Pos}
end
end L2
set_option Elab.async false
set_option linter.all false
set_option maxRecDepth 100000
set_option maxHeartbeats 4000000
namespace L2
open PySem PySem.Spec PyProof.Rows
section
variable {H:Hp}
mutual
theorem Dat.fn:∀(d e:PyData) {v:V},Dat H v d->Dat H v e->d=e
 | .none,e,v,h,g=>by cases e<;>simp only [Dat] at h g<;>first |rfl|(subst h;first |(obtain ⟨_,_,z,_⟩:=g;cases z;done)|(cases g;done))
 | .bool _,e,v,h,g=>by cases e<;>simp only [Dat] at h g<;>first |(subst h;first |(injection g with g;rw [g];done)|(obtain ⟨_,_,z,_⟩:=g;cases z;done)|(cases g;done))
 | .int _,e,v,h,g=>by cases e<;>simp only [Dat] at h g<;>first |(subst h;first |(injection g with g;rw [g];done)|(obtain ⟨_,_,z,_⟩:=g;cases z;done)|(cases g;done))
 | .str _,e,v,h,g=>by cases e<;>simp only [Dat] at h g<;>first |(subst h;first |(injection g with g;rw [g];done)|(obtain ⟨_,_,z,_⟩:=g;cases z;done)|(cases g;done))
 | .list ds,.list es,v,h,g=>by
   simp only [Dat] at h g;obtain ⟨a,vs,rfl,ha,da⟩:=h;obtain ⟨b,ws,e,hb,db⟩:=g;injection e with e
   subst e;rw [ha] at hb;injection hb with hb
   injection hb with hb
   subst hb;rw [bf.fn ds es da db]
 | .tuple ds,.tuple es,v,h,g=>by
   simp only [Dat] at h g;obtain ⟨a,vs,rfl,ha,da⟩:=h;obtain ⟨b,ws,e,hb,db⟩:=g;injection e with e
   subst e;rw [ha] at hb;injection hb with hb
   injection hb with hb
   subst hb;rw [bf.fn ds es da db]
 | .list ds,.tuple es,v,h,g=>by
   simp only [Dat] at h g;obtain ⟨a,vs,rfl,ha,da⟩:=h;obtain ⟨b,ws,e,hb,db⟩:=g;injection e with e
   subst e;rw [ha] at hb;injection hb with hb
   cases hb
 | .tuple ds,.list es,v,h,g=>by
   simp only [Dat] at h g;obtain ⟨a,vs,rfl,ha,da⟩:=h;obtain ⟨b,ws,e,hb,db⟩:=g;injection e with e
   subst e;rw [ha] at hb;injection hb with hb
   cases hb
 | .list ds,.none,v,h,g=>by simp only [Dat] at h g;obtain ⟨a,vs,rfl,_⟩:=h;cases g
 | .list ds,.bool _,v,h,g=>by simp only [Dat] at h g;obtain ⟨a,vs,rfl,_⟩:=h;cases g
 | .list ds,.int _,v,h,g=>by simp only [Dat] at h g;obtain ⟨a,vs,rfl,_⟩:=h;cases g
 | .list ds,.str _,v,h,g=>by simp only [Dat] at h g;obtain ⟨a,vs,rfl,_⟩:=h;cases g
 | .tuple ds,.none,v,h,g=>by simp only [Dat] at h g;obtain ⟨a,vs,rfl,_⟩:=h;cases g
 | .tuple ds,.bool _,v,h,g=>by simp only [Dat] at h g;obtain ⟨a,vs,rfl,_⟩:=h;cases g
 | .tuple ds,.int _,v,h,g=>by simp only [Dat] at h g;obtain ⟨a,vs,rfl,_⟩:=h;cases g
 | .tuple ds,.str _,v,h,g=>by simp only [Dat] at h g;obtain ⟨a,vs,rfl,_⟩:=h;cases g
 | .list ds,.dict _,v,h,g=>by simp only [Dat] at g
 | .tuple ds,.dict _,v,h,g=>by simp only [Dat] at g
 | .dict _,_,v,h,g=>by simp only [Dat] at h
theorem bf.fn:∀(ds es:List PyData) {vs:List V},bf H vs ds->bf H vs es->ds=es
 | [],[],_,_,_=>rfl
 | d::ds,e::es,v::vs,h,g=>by
   simp only [bf] at h g;rw [Dat.fn d e h.1 g.1,bf.fn ds es h.2 g.2]
 | [],_::_,[],_,g=>by simp only [bf] at g
 | [],_::_,_::_,h,_=>by simp only [bf] at h
 | _::_,[],[],h,_=>by simp only [bf] at h
 | _::_,[],_::_,_,g=>by simp only [bf] at g
 | _::_,_::_,[],h,_=>by simp only [bf] at h
end
end
section
variable {X:Cx}
end
end L2
set_option Elab.async false
set_option linter.all false
set_option maxRecDepth 100000
set_option maxHeartbeats 4000000
namespace L2
open PySem PySem.Spec PyProof.Rows
section
variable {X:Cx} {K:PySem.W.Frag} {e e1 e2 l:Expr} {te t1 t2 tl:TE} {pos:Pos} {tg:Expr}
end
section
variable {X:Cx}
end
end L2
set_option Elab.async false
set_option linter.all false
set_option maxRecDepth 100000
set_option maxHeartbeats 4000000
namespace L2
open PySem PySem.Spec PyProof.Rows PySem.Builtin PySem.Builtin.Str
section
variable {X:Cx} {K:PySem.W.Frag}
def Its (x:Str):It:=⟨fun i _=>i<x.cps.size,fun i H v H'=>H'=H /\ ∃c,x.cps[i]? = some c/\v = .str ⟨#[c]⟩,fun i _=>x.cps.size<=i⟩
theorem Jk {P:Program} {w:World} {K:PySem.W.Frag} {tg:Expr} (x:Str) (t:Tok) (it:Addr):Turn P w K tg (Its x) [it] it (fun i h=>i<=x.cps.size/\(h.IsStrIter it "str_ascii_iterator" x t i\/h.IsStrIter it "str_iterator" x t i)) where
 mem:=by simp
 obj:=fun i h st b hb=>by
  have e:b=it:=by simpa using hb
  subst e;rcases st.2 with ⟨o,e,c,d⟩|⟨o,e,c,d⟩
  ·exact ⟨o,e,fun v z=>by rw [d] at z;cases z⟩
  ·exact ⟨o,e,fun v z=>by rw [d] at z;cases z⟩
 keep:=fun i h h' st k=>⟨st.1,st.2.imp (fun ⟨o,e,r⟩=>⟨o,k it (by simp) o e,r⟩) (fun ⟨o,e,r⟩=>⟨o,k it (by simp) o e,r⟩)⟩
 item:=by
  intro X hP hw hK hc i pins s σ H E I hf st hg;subst hP hw hK;have hi:i<x.cps.size:=hg;have hx:x.cps[i]? = some x.cps[i]:=by simp [hi]
  obtain ⟨f0,f1,f2,f3,f4,f5⟩:=hf it (by simp);rcases st.2 with st|st
  ·refine wpAny_pyNext_ascii_item st hx fun h' st' sb=> ?_
   have I1:Inv X pins σ H {s with heap:=h',toks:=s.toks+1}:=I.turned (t':=s.toks+1) (fun b o hb e=>(sb.2 b hb).trans e) f0 f1 f3 f4 f5;obtain ⟨o,e,c,d⟩:=id st';exact ⟨_,rfl,Gj (s:={s with heap:=h',toks:=s.toks+1}) e c d (by decide) ⟨.str ⟨#[x.cps[i]]⟩,H,I1,⟨_,rfl⟩,⟨rfl,_,hx,rfl⟩,⟨hi,.inl st'⟩,fun b hb=>(hf b hb).1⟩⟩
  ·refine wpAny_pyNext_wide_item st hx fun h' st' sb=> ?_
   have I1:Inv X pins σ H {s with heap:=h',toks:=s.toks+1}:=I.turned (t':=s.toks+1) (fun b o hb e=>(sb.2 b hb).trans e) f0 f1 f3 f4 f5;obtain ⟨o,e,c,d⟩:=id st';exact ⟨_,rfl,Gj (s:={s with heap:=h',toks:=s.toks+1}) e c d (by decide) ⟨.str ⟨#[x.cps[i]]⟩,H,I1,⟨_,rfl⟩,⟨rfl,_,hx,rfl⟩,⟨hi,.inr st'⟩,fun b hb=>(hf b hb).1⟩⟩
 done:=by
  intro X hP hw hK hc i pins s σ H E I hf st hg;subst hP hw hK;have hx:x.cps[i]? = none:=by simpa using (show x.cps.size<=i from hg)
  obtain ⟨f0,f1,f2,f3,f4,f5⟩:=hf it (by simp);rcases st.2 with st|st
  ·exact wpAny_pyNext_ascii_end (I.ok.hd hc) st hx fun h' eb=>⟨rfl,I.turned (t':=s.toks) (fun b o hb e=>eb b o hb e) f0 f1 f3 f4 f5⟩
  ·exact wpAny_pyNext_wide_end (I.ok.hd hc) st hx fun h' eb=>⟨rfl,I.turned (t':=s.toks) (fun b o hb e=>eb b o hb e) f0 f1 f3 f4 f5⟩
 self:=fun _ _ _ _ _ st h=>st.2.elim (fun st=>wpAny_pyIter_striter_ascii st h) (fun st=>wpAny_pyIter_striter_wide st h)
def afo (tl:TE):TI:=fun σ H R=>tl σ H fun x H1=>∃a,x = .str a/\R (Its a) H1
theorem Rk {tg l:Expr} {tl:TE} (hl:PE X l tl):PI X tg l (afo tl):=by
 intro pins s σ H R I h;refine dZ (hl pins s σ H _ I h) fun v s1 ⟨x,H1,I1,r1,q1⟩=> ?_;obtain ⟨a,rfl,q⟩:=q1;obtain ⟨t,rfl⟩:=r1
 have fin:∀o,(s1.heap.push o).IsStrIter s1.heap.objs.size "str_ascii_iterator" a t 0\/(s1.heap.push o).IsStrIter s1.heap.objs.size "str_iterator" a t 0->PIE X pins σ tg R (.ref s1.heap.objs.size) {s1 with heap:=s1.heap.push o}:=by
  intro o st;refine ⟨s1.heap.objs.size,[s1.heap.objs.size],_,_,H1,rfl,I1.kept (t':=s1.toks) fun b o e=>Heap.get?_push_of_some _ e,Jk a t _,⟨Nat.zero_le _,st⟩,fun b hb=> ?_,q⟩;have e:b=s1.heap.objs.size:=by simpa using hb
  subst e;exact I1.HX (Nat.le_refl _) (I1.hok.fresh (Nat.le_refl _))
 cases ha:a.cps.all (· < 128)
 ·exact wpAny_pyIter_wide ha (fin _ (.inr ⟨_,Heap.get?_push_size _ rfl,rfl,rfl⟩))
 ·exact wpAny_pyIter_ascii ha (fin _ (.inl ⟨_,Heap.get?_push_size _ rfl,rfl,rfl⟩))
end
section
variable {K:PySem.W.Frag} {D:Addr} {tc:TT} {te:TE} {Q:VK} {rest:St} {H1:Hp}
theorem H_ {x:Str} {g:TG} {σ0:St} (Pv:Nat->St->Hp->Prop) (h0:Pv 0 σ0 (upd H1 D (.lst [])))
 (hs:∀i c σ H,x.cps[i]? = some c->Pv i σ H->g (.str ⟨#[c]⟩) σ H fun σ2 H2=>tc σ2 H2 fun b H3=>
   if b=true then te σ2 H3 fun y H4=>∃acc,H4 D=some (.lst acc)/\acc.length<sizeLine/\Pv (i+1) σ2 (upd H4 D (.lst (acc++[y]))) else Pv (i+1) σ2 H3)
 (hd:∀σ H,Pv x.cps.size σ H->Q (.ref D) H):oK (Its x) g tc te Q D σ0 H1:=by
 refine ⟨fun i m σ H=>m=x.cps.size - i/\i<=x.cps.size/\Pv i σ H,⟨x.cps.size,by simp,Nat.zero_le _,h0⟩, ?_⟩;rintro i m σ H ⟨rfl,hi,p⟩
 by_cases hlt:i<x.cps.size
 ·refine .inr ⟨hlt,Pv (i+1),fun σ' H' p'=>⟨x.cps.size - (i+1),by omega,rfl,hlt,p'⟩,fun y H' e=> ?_⟩
  obtain ⟨e,c,hc,rfl⟩:=e;subst e;exact hs i c σ _ hc p
 ·have e:i=x.cps.size:=by omega
  subst e;exact .inl ⟨Nat.le_refl _,hd σ H p⟩
theorem HY {x:Str} (f:Nat->Option V) (hD:H1 D=none) (hx:x.cps.size<=100000)
 (hs:∀i c H (G:Hp->Prop) (F:VK),x.cps[i]? = some c->Same H1 H->(∀H',Same H H'->f i=none->G H')->(∀y H',Same H H'->f i=some y->F y H')->tc (some (.str ⟨#[c]⟩)::rest) H fun b H3=>if b=true then te (some (.str ⟨#[c]⟩)::rest) H3 F else G H3)
 (hd:∀H,Same H1 H->H D=some (.lst ((List.range x.cps.size).filterMap f))->Q (.ref D) H):oK (Its x) (dO 0) tc te Q D (none::rest) H1:=by
 refine H_ (fun i σ H=>(∃v,σ=v::rest)/\Same H1 H/\H D=some (.lst ((List.range i).filterMap f))) ⟨⟨none,rfl⟩,aF hD,ak⟩ ?_ (fun σ H ⟨_,sm,e⟩=>hd H sm e);rintro i c σ H hi ⟨⟨v,rfl⟩,sm,e⟩;have hil:i<x.cps.size:=(Array.getElem?_eq_some_iff.mp hi).1;refine hs i c H _ _ hi sm (fun H3 s3 ef=>⟨⟨_,rfl⟩,sm.trans s3,by rw [s3 _ _ e,j4,ef];simp⟩) (fun y H4 s4 ef=> ?_);refine ⟨_,s4 _ _ e, ?_,⟨_,rfl⟩,(sm.trans s4).newly hD, ?_⟩
 ·have:=Ek f i
  rw [sizeLine_eq];omega
 ·rw [ak,j4,ef];rfl
end
section
variable {X:Cx}
end
end L2
set_option Elab.async false
set_option linter.all false
set_option maxRecDepth 100000
set_option maxHeartbeats 4000000
namespace L2
open PySem PySem.Spec PyProof.Rows PySem.Builtin PySem.Builtin.Str
end L2
set_option Elab.async false
set_option linter.all false
set_option maxRecDepth 100000
set_option maxHeartbeats 4000000
namespace L2
open PySem PySem.Spec PyProof.Rows
section
variable (P:Program) (w:World) (K:PySem.W.Frag) (mg:Str->Option Value) (base:Heap)
def MethAt (k:Nat) (C:Addr) (m:Str) (ps:List Str) (sp:Sp):Prop:=∃f fd,bV P w K mg base iD k f fd ps sp/\Meth K C m f/\Binds K fd ps []
def jc (k:Nat) (C:Addr) (m:Str) (ps:List Str) (sp:Sp):Prop:=∃f fd,bV P w K mg base (rC P w) k f fd ps sp/\Meth K C m f/\Binds K fd ps []
def oH (k:Nat) (C:Addr) (x:Str) (ps:List Str) (pG:List V) (sp:Sp):Prop:=∃f fd ds,bV P w K mg base iD k f fd ps sp/\Mk K C f/\mg x=some (.ref C)/\Binds K fd ps ds/\Vals pG ds
def uQ (k:Nat) (C:Addr) (x:Str) (ps:List Str) (pG:List V) (sp:Sp):Prop:=∃f fd ds,bV P w K mg base (rC P w) k f fd ps sp/\Mk K C f/\mg x=some (.ref C)/\Binds K fd ps ds/\Vals pG ds
def Af (k:Nat) (C:Addr) (x:Str) (ps:List Str) (kn:Str) (sp:Sp):Prop:=∃f fd,bV P w K mg base (rC P w) k f fd ps sp/\Mk K C f/\mg x=some (.ref C) /\
 ∀(s:Shared) (us:List Value) (z:Value),K.In s.heap->(us++[z]).length=ps.length->BindsTo s fd ⟨us,[(kn,z)]⟩ (ps.zip (us++[z]))
end
section
variable {P:Program} {w:World} {K:PySem.W.Frag} {mg:Str->Option Value} {base:Heap} {k:Nat} {C:Addr} {m x:Str} {ps:List Str} {sp:Sp} {pG:List V}
theorem bV.calm {f:Addr} {fd:FuncData} (G:bV P w K mg base (rC P w) k f fd ps sp):bV P w K mg base iD k f fd ps (fun vs H Q _=>sp vs H Q fun _ _ _=>False):=by
 refine ⟨fun vs H Q E q=>G.len vs H Q _ q,fun A outer s H args us vs Q E hr he hbd hv hs=> ?_⟩;refine codeAny_mono (G.run A outer s H args us vs Q (fun _ _ _=>False) hr he hbd hv hs) fun res s' hq=> ?_
 match res,hq with
 | .error ev,hq=>
   obtain ⟨e,cls,dx,H',_,_,_,_,_,_,_,_,z⟩:=hq;exact z.elim
 | .ok (.ret u),hq=>exact hq
theorem jc.calm (F:jc P w K mg base k C m ps sp):MethAt P w K mg base k C m ps (fun vs H Q _=>sp vs H Q fun _ _ _=>False):=by
 obtain ⟨f,fd,G,r⟩:=F;exact ⟨f,fd,G.calm,r⟩
theorem uQ.calm (F:uQ P w K mg base k C x ps pG sp):oH P w K mg base k C x ps pG (fun vs H Q _=>sp vs H Q fun _ _ _=>False):=by
 obtain ⟨f,fd,ds,G,r⟩:=F;exact ⟨f,fd,ds,G.calm,r⟩
end
section
variable {X:Cx} {k:Nat} {C:Addr} {x m:Str} {ps:List Str} {sp:Sp} {pG:List V} {e o:Expr} {es:List Expr} {ta:TE} {t:TA} {p pos apos:Pos} {E:St->XK}
theorem dN {pl:Sem Bool} (M:MethAt X.prog X.w X.K X.mg X.base k C m ps sp) (c:Cls X.K C) (hr:cZ k X.A) (he:PE X o ta) (ha:PA X (e::es) t)
 (hst:starEach (e::es) X.env=(false,eval e X.env)::starEach es X.env:=by rfl) (hpl:(backTo pos (starEach es X.env)).any (·.1)=false:=by rfl)
 (ht:eval (.Call (.Attribute o m apos) (e::es) [] pos) X.env=(do
   let ov ←eval o X.env
   standAt apos.atName
   let (f,first) ←holding [ov] (getMethod ov m pl)
   callWith pos f first (backTo pos (starEach (e::es) X.env)) (backToKw pos (keywordEach [] X.env))):=by rfl):
 PE X (.Call (.Attribute o m apos) (e::es) [] pos) (Fq C m sp [] E0 ta t):=by
 obtain ⟨f,fd,G,hm,hb⟩:=M;exact Nq he c hm G hr hb .nil Bl ha hst hpl ht
theorem cU {pl:Sem Bool} (M:MethAt X.prog X.w X.K X.mg X.base k C m ps sp) (c:Cls X.K C) (hr:cZ k X.A) (he:PE X o ta)
 (ht:eval (.Call (.Attribute o m apos) [] [] pos) X.env=(do
   let ov ←eval o X.env
   standAt apos.atName
   let (f,first) ←holding [ov] (getMethod ov m pl)
   callWith pos f first (backTo pos (starEach [] X.env)) (backToKw pos (keywordEach [] X.env))):=by rfl):
 PE X (.Call (.Attribute o m apos) [] [] pos) (Fq C m sp [] E0 ta xq):=by
 obtain ⟨f,fd,G,hm,hb⟩:=M;exact JH he c hm G hr hb .nil Bl ht
def QT (C:Addr) (m:Str) (sp:Sp) (E:St->XK) (ta:TE) (t:TA):TE:=fun σ H Q=>ta σ H fun x H1=>∃a dx fs,x = .ref a/\H1 a=some (.ins C dx fs)/\fs.lookup m=none/\t σ H1 fun vs H2=>sp (x::vs) H2 Q (E σ)
theorem M8 {pins:List (Addr×Obj)} {σ:St} {H:Hp} {s:Shared} {Q:VK} {us:List Value} {vs:List V} {f:Addr} {fd:FuncData} (G:bV X.prog X.w X.K X.mg X.base (rC X.prog X.w) k f fd ps sp) (hx:X.ex=[]) (R:Rz X E) (hr:cZ k X.A) (hb:Binds X.K fd ps [])
 (I:Inv X pins σ H s) (r:Vals vs us) (q:sp vs H Q (E σ)):wpAny (model X.prog X.w) X.A (call (.ref f) us) (EP X pins σ Q) X.xe s:=by
 have hlen:us.length=ps.length:=by rw [←r.length];exact G.len _ _ _ _ q
 have hbd:=hb s us I.pA (by rw [List.append_nil];exact hlen);rw [List.append_nil] at hbd;refine wpAny_call (codeAny_mono (G.run X.A X.stack s H ⟨us,[]⟩ us vs Q (E σ) hr I.env0 hbd r q) fun res s' hq=> ?_)
 match res,hq with
 | .error ev,hq=>exact zx hx R I hq
 | .ok (.ret u),hq=>exact I.after hq
theorem vP {pl:Sem Bool} (M:jc X.prog X.w X.K X.mg X.base k C m ps sp) (c:Cls X.K C) (hx:X.ex=[]) (R:Rz X E) (hr:cZ k X.A) (he:PE X o ta) (ha:PA X (e::es) t)
 (hst:starEach (e::es) X.env=(false,eval e X.env)::starEach es X.env:=by rfl) (hpl:(backTo pos (starEach es X.env)).any (·.1)=false:=by rfl)
 (ht:eval (.Call (.Attribute o m apos) (e::es) [] pos) X.env=(do
   let ov ←eval o X.env
   standAt apos.atName
   let (f,first) ←holding [ov] (getMethod ov m pl)
   callWith pos f first (backTo pos (starEach (e::es) X.env)) (backToKw pos (keywordEach [] X.env))):=by rfl):
 PE X (.Call (.Attribute o m apos) (e::es) [] pos) (QT C m sp E ta t):=by
 obtain ⟨f,fd,G,hm,hb⟩:=M;intro pins s σ H Q I h;refine PySem.W.methodCall_KW (pl:=pl) (dZ (he pins s σ H _ I h) fun u s1 ⟨x,H1,I1,rx,a,dx,fs,ex,ea,l,q⟩=> ?_) ht;subst ex;obtain rfl:u=Value.ref a:=rx;refine qe I1 ea c hm l ?_;refine PySem.W.callWith_K (first:=[.ref a]) (h₀:=X.base) I.ok.mod.CQ hm.kp (dZ (ha pos pins s1 σ H1 _ I1 q) fun us s2 ⟨vs,H2,I2,r,q2⟩=>⟨I2.pA, ?_⟩) hst hpl;exact M8 (us:= .ref a::us) (vs:= .ref a::vs) G hx R hr hb I2 (.cons rfl r) q2
theorem nG (M:oH X.prog X.w X.K X.mg X.base k C x ps pG sp) (hr:cZ (k+1) X.A) (hg:Gl X x) (ha:PA X (e::es) t) (hdb:(x==("__debug__" :Str))=false:=by decide)
 (he:starEach (e::es) X.env=(false,eval e X.env)::starEach es X.env:=by rfl) (hpl:(backTo pos (starEach es X.env)).any (·.1)=false:=by rfl):
 PE X (.Call (.Name x p) (e::es) [] pos) (Qf C sp pG E0 t):=by
 obtain ⟨f,fd,ds,G,mk,hm,hb,hd⟩:=M;exact Nr mk G hr hg hm hb hd Bl ha hdb he hpl
theorem G9 {pins:List (Addr×Obj)} {σ:St} {H:Hp} {s:Shared} {Q:VK} {args:Args} {us:List Value} {vs:List V} {f:Addr} {fd:FuncData} (M:Mk X.K C f) (G:bV X.prog X.w X.K X.mg X.base (rC X.prog X.w) k f fd ps sp) (hx:X.ex=[]) (R:Rz X E) (hr:cZ (k+1) X.A)
 (I:Inv X pins σ H s) (r:Vals vs us) (hb:∀s':Shared,X.K.In s'.heap -> ∀a:Addr,(Value.ref a::us).length=ps.length->BindsTo s' fd ⟨Value.ref a::args.pos,args.kw⟩ (ps.zip (Value.ref a::us)))
 (h:∀x dx,H x=none->H dx=none->dx≠x->sp (.ref x::vs) (upd (upd H dx (.own x)) x (.ins C dx [])) (fun v H2=>v = .non/\Q (.ref x) H2) (E σ)):
 wpAny (model X.prog X.w) X.A (call (.ref C) args.pos args.kw) (EP X pins σ Q) X.xe s:=by
 have hq:=h (s.heap.objs.size+1) s.heap.objs.size (I.hok.fresh (Nat.le_succ _)) (I.hok.fresh (Nat.le_refl _)) (Nat.ne_of_lt (Nat.lt_succ_self _));have I2:=Inv.made (C:=C) I;have r2:Vals (V.ref (s.heap.objs.size+1)::vs) (Value.ref (s.heap.objs.size+1)::us):= .cons rfl r
 have hl:(Value.ref (s.heap.objs.size+1)::us).length=ps.length:=by
  have e:=r2.length;rw [G.len _ _ _ _ hq] at e;exact e.symm
 refine wpAny_call (Bw (f:=f) I.pA M.makes M.init (beq_iff_eq.mp M.fn) (codeAny_mono (G.run _ X.stack _ _ ⟨Value.ref (s.heap.objs.size+1)::args.pos,args.kw⟩ (Value.ref (s.heap.objs.size+1)::us) _ _ (E σ) (hr.make C args.pos args.kw)
  (I2.env0.make C args.pos args.kw) (hb _ I2.pA _ hl) r2 hq) fun r s' hq'=> ?_))
 match r,hq' with
 | .error ev,hq'=>exact zx hx R I2 hq'
 | .ok (.ret u),hq'=>
   obtain ⟨v,H',I3,rv,ev,q3⟩:=I2.after hq';subst ev;exact ⟨rv,⟨V.ref (s.heap.objs.size+1),H',I3,rfl,q3⟩⟩
end
end L2
namespace L2
open PySem PySem.Spec PyProof.Rows PySem.Builtin PySem.Builtin.Str
section
variable {X:Cx} {K:PySem.W.Frag} {o e value:Expr} {f:Str} {pos pos' tpos:Pos} {ta tv:TE}
theorem bI (hK:X.K=K) (he:PE X e ta) (hb:attributeBase e f X.env (eval e X.env)=eval e X.env):PE X (.Attribute e f pos) (Vj K ta f):=by subst hK;exact Rp he hb
theorem dX (hK:X.K=K) (ha:PE X o ta) (hv:PE X value tv) (hs:swapsWith value (some (.Attribute o f pos')) pos.line X.env=pure false):PS X (.Assign [.Attribute o f pos'] value pos) (Vs K ta tv f):=by subst hK;exact Rh ha hv hs
theorem vN {op:Operator} {rd:V->V->Hp->VK->Prop} (hK:X.K=K) (ha:PE X o ta) (hv:PE X value tv) (hop:Yr X op rd):PS X (.AugAssign (.Attribute o f tpos) op value pos) (Fx K ta tv rd f):=by subst hK;exact G_ ha hv hop
def Vw:V->List V->Hp->VK->Prop:=fun x vs H Q=>∃(a y:Str) (i:Nat) (r:List Nat),x = .str a/\vs=[.str y]/\occurrences a y 0 a.length 1=i::r/\Q (.int i) H
theorem lC:T_ X "str.index" Vw:=by
 intro pins s σ H x vs v us Q I rx rv h;obtain ⟨a,y,i,r,rfl,rfl,ho,q⟩:=h;obtain ⟨t,rfl⟩:=rx;obtain ⟨u,rfl,ru⟩:=rv.one;obtain ⟨t2,rfl⟩:=ru;exact call_meets PySem.F.slot_str_index (typeIs_str _ _ _) PySem.F.entry_str_index (PySem.F.args_str_index_2 _ _) (gives_str_index a y t t2 i r ho).meets ⟨.int i,H,I.tok _,⟨_,rfl⟩,q⟩
end
structure PX (K:PySem.W.Frag) (x qual:Str) (st:Stmt) (ds:List Value) (f:Addr) (fd:FuncData):Prop where
 ex:∃(oc:Value) (od:Option Addr) (T:Addr) (kV doc pm:Value) (an:Option Addr) (cdv ct:Value) (osl:Array (Option Value)) (tc:Value) (td:Option Addr) (tn:Nat) (Mt:Array (Option Value)),
  fd=PySem.W.fnOf x qual (aM st) (aK st) (aD st) (.ref T) kV doc pm an cdv ct/\K.lookup f=some ⟨oc,od,.func fd,osl⟩/\PySem.W.codeIn K cdv qual=true/\K.lookup T=some ⟨tc,td,.seq ds.toArray tn,Mt⟩
 kp:PySem.W.keepIn K (.ref f)=true
section
variable {P:Program} {w:World} {K:PySem.W.Frag} {mg:Str->Option Value} {base:Heap}
theorem PX.RL {x qual:Str} {st:Stmt} {ds:List Value} {f:Addr} {fd:FuncData} {N ps:List Str} {k:Nat} {sp:Sp} (F:PX K x qual st ds f fd) (S:bh N ps (aD st)) (len:∀vs H Q E,sp vs H Q E->vs.length=ps.length)
 (hbody:∀(cdv:Value) (A:Around) (outer:List Env) (s:Shared) (H:Hp) (vs:List V) (Q:VK) (E:XK),cZ k (A.deeper (envOfC qual (aD st) s.heap.objs.size f cdv))->sp vs H Q E ->
   Rz (mY (rC P w) P w K mg base N qual (aD st) f cdv A outer s H E) (fun _=>E) ->
   ∃t,Eu (mY (rC P w) P w K mg base N qual (aD st) f cdv A outer s H E) (aK st) t/\t {nx:=fun _ H'=>Q .non H',rt:=Q} (start N vs) H):bV P w K mg base (rC P w) (k+1) f fd ps sp:=by
 obtain ⟨oc,od,T,kV,doc,pm,an,cdv,ct,osl,tc,td,tn,Mt,rfl,lk,hcd,_⟩:=F.ex;exact K7 lk hcd S len fun A outer s H vs Q E hr hsp=>hbody cdv A outer s H vs Q E hr hsp Bd
end
section
variable {X:Cx} {k:Nat} {C:Addr} {x kn:Str} {ps:List Str} {sp:Sp} {e ke:Expr} {es:List Expr} {te:TE} {t:TA} {p pos kpos:Pos} {E:St->XK}
def QV (C:Addr) (sp:Sp) (E:St->XK) (t:TA) (te:TE):TE:=fun σ H Q=>t σ H fun vs H1=>te σ H1 fun z H2=>∃z',[z]=[z'] /\ ∀x dx,H2 x=none->H2 dx=none->dx≠x ->
 sp (.ref x::(vs++[z'])) (upd (upd H2 dx (.own x)) x (.ins C dx [])) (fun v H3=>v = .non/\Q (.ref x) H3) (E σ)
theorem JK (M:Af X.prog X.w X.K X.mg X.base k C x ps kn sp) (hx:X.ex=[]) (R:Rz X E) (hr:cZ (k+1) X.A) (hg:Gl X x) (ha:PA X (e::es) t) (hk:PE X ke te) (hdb:(x==("__debug__" :Str))=false:=by decide)
 (hall:(backToKw pos (keywordEach [⟨some kn,ke,kpos⟩] X.env)).all (·.1.isSome)=true:=by rfl) (hks:(backToKw pos (keywordEach [⟨some kn,ke,kpos⟩] X.env)).filterMap (·.1)=[kn]:=by rfl)
 (he:starEach (e::es) X.env=(false,eval e X.env)::starEach es X.env:=by rfl)
 (hpl:((backTo pos (starEach (e::es) X.env)).any (·.1)||(backToKw pos (keywordEach [⟨some kn,ke,kpos⟩] X.env)).any (·.1.isNone))=false:=by rfl):
 PE X (.Call (.Name x p) (e::es) [⟨some kn,ke,kpos⟩] pos) (QV C sp E t te):=by
 obtain ⟨f,fd,G,mk,hm,hb⟩:=M;intro pins s σ H Q I h;refine wpAny_Call_Name_kw (oX I hg hm ?_ hdb);refine PySem.W.callWith_KW (h₀:=X.base) I.ok.mod.CQ mk.kp hall (dZ (ha pos pins s σ H _ I h) fun us s1 ⟨vs,H1,I1,r,q⟩=> ?_) hpl he
 refine dZ ((Nk (nm:=some kn) (kpos:=kpos) hk Rj) pos pins s1 σ H1 (fun zs H2=>∃z',zs=[z'] /\ ∀x dx,H2 x=none->H2 dx=none->dx≠x ->
  sp (.ref x::(vs++[z'])) (upd (upd H2 dx (.own x)) x (.ins C dx [])) (fun v H3=>v = .non/\Q (.ref x) H3) (E σ)) I1 q) fun ws s2 ⟨zs,H2,I2,rz,z',ez,q2⟩=>⟨I2.pA, ?_⟩
 subst ez;obtain ⟨z,rfl,rz1⟩:=rz.one;rw [hks];exact G9 (args:=⟨us,[(kn,z)]⟩) (us:=us++[z]) (vs:=vs++[z']) mk G hx R hr I2 (r.append rz) (fun s' ki a hl=>hb s' (Value.ref a::us) z ki hl) q2
end
end L2
set_option Elab.async false
set_option linter.all false
set_option maxRecDepth 100000
set_option maxHeartbeats 4000000
namespace L2
open PySem PySem.Spec PyProof.Rows
section
variable {prog:Program} {w:World} {A:Around} {E:Value->Shared->Prop} {s:Shared} {it d:Addr} {ep:Nat} {od:Obj} {es:Array DictEntry}
end
end L2
set_option Elab.async false
set_option linter.all false
set_option maxRecDepth 100000
set_option maxHeartbeats 4000000
namespace L2
open PySem PySem.Spec PyProof.Rows
section
variable {X:Cx} {pins:List (Addr×Obj)} {σ:St} {H:Hp} {s:Shared} {d:Addr}
end
section
variable {X:Cx} {tg:Expr}
end
section
variable {d D:Addr} {o:Obj} {kvs:List (List Key×V)} {tc:TT} {te:TE} {Q:VK} {rest:St} {H1:Hp}
end
end L2
set_option Elab.async false
set_option linter.all false
set_option maxRecDepth 100000
set_option maxHeartbeats 4000000
namespace L2
open PySem PySem.Spec PyProof.Rows
section
variable {prog:Program} {w:World} {A:Around} {E:Value->Shared->Prop} {s:Shared}
end
section
variable {X:Cx} {pos:Pos}
end
end L2
set_option Elab.async false
set_option linter.all false
set_option maxRecDepth 100000
set_option maxHeartbeats 4000000
namespace L2
open PySem
abbrev Tg:=Addr->List Nat
def aQ (τ:Tg) (x:Addr) (t:List Nat):Tg:=fun y=>if y=x then t else τ y
theorem bw {τ:Tg} {x:Addr} {t:List Nat}:aQ τ x t x=t:=if_pos rfl
theorem aP {τ:Tg} {x y:Addr} {t:List Nat} (h:y≠x):aQ τ x t y=τ y:=if_neg h
def oF (τ:Tg) (H:Hp):Prop:=∀x,H x=none->τ x=[]
theorem oF.dom {τ:Tg} {H H':Hp} (u:oF τ H) (d:∀x,H' x=none->H x=none):oF τ H':=fun x e=>u x (d x e)
theorem oF.same {τ:Tg} {H H':Hp} (u:oF τ H) (k:Same H H'):oF τ H':=u.dom fun _ e=>k.free e
theorem oF.claim {τ:Tg} {H H':Hp} {p:Addr} {t:List Nat} (u:oF τ H) (k:Same H H') (hp:∃o,H' p=some o):oF (aQ τ p t) H':=fun x e=>by
 have n:x≠p:=fun z=>by
  obtain ⟨o,ho⟩:=hp;rw [z,ho] at e;cases e
 rw [aP n];exact u.same k x e
theorem bY {τ:Tg} {a b:Addr} {s t:List Nat} (ha:τ a=s) (hb:τ b=t) (h:s≠t):a≠b:=fun e=>h (by rw [←ha,←hb,e])
structure Cv (i:Nat) (τ:Tg) (H H':Hp):Prop where
 keep:∀x o,H x=some o->(τ x).head?≠some i->H' x=some o
 tup:∀x xs,H x=some (.tup xs)->H' x=some (.tup xs)
 dom:∀x,H' x=none->H x=none
theorem Cv.of_same {i:Nat} {τ:Tg} {H H':Hp} (k:Same H H'):Cv i τ H H':=⟨fun x o e _=>k _ _ e,fun x xs e=>k _ _ e,fun x e=>k.free e⟩
theorem Cv.set {i:Nat} {τ:Tg} {H:Hp} {x:Addr} {o u:HO} (ht:(τ x).head?=some i) (hx:H x=some o) (hn:∀xs,o ≠ .tup xs):Cv i τ H (upd H x u):=by
 refine ⟨fun y v e n=> ?_,fun y xs e=> ?_,fun y e=> ?_⟩
 ·have z:y≠x:=fun z=>n (by rw [z];exact ht)
  rw [aG z];exact e
 ·rw [aG (cj e hx fun z=>hn xs z.symm)];exact e
 ·by_cases z:y=x
  ·rw [z,ak] at e;cases e
  ·rw [aG z] at e;exact e
theorem Cv.un {i:Nat} {τ:Tg} {H H':Hp} (a:Cv i τ H H') (u:oF τ H):oF τ H':=u.dom a.dom
structure Mv (i:Nat) (τ:Tg) (H:Hp) (τ':Tg) (H':Hp):Prop where
 keep:∀x o,H x=some o->τ x=[0]\/(τ x).head?=some i->H' x=some o/\τ' x=τ x
 tup:∀x xs,H x=some (.tup xs)->H' x=some (.tup xs)
theorem Mv.of_same {i:Nat} {τ:Tg} {H H':Hp} (k:Same H H'):Mv i τ H τ H':=⟨fun x o e _=>⟨k _ _ e,rfl⟩,fun x xs e=>k _ _ e⟩
theorem Mv.tags {i:Nat} {τ τ':Tg} {H H':Hp} (k:Same H H') (t:∀x o,H x=some o->τ' x=τ x):Mv i τ H τ' H':=⟨fun x o e _=>⟨k _ _ e,t x o e⟩,fun x xs e=>k _ _ e⟩
theorem Mv.claim {i:Nat} {τ:Tg} {H H':Hp} {p:Addr} {t:List Nat} (k:Same H H') (hp:H p=none):Mv i τ H (aQ τ p t) H':= .tags k fun x o e=>aP (aB e hp)
theorem Mv.DW {i j:Nat} {τ:Tg} {H H':Hp} (k:Cv j τ H H') (h:j≠i) (h0:j≠0):Mv i τ H τ H':=⟨fun x o e t=>⟨k.keep _ _ e (by
 rcases t with t|t
 ·rw [t];intro z;exact h0 (Option.some.inj z).symm
 ·rw [t];intro z;exact h (Option.some.inj z).symm),rfl⟩,k.tup⟩
theorem Mv.VH {i:Nat} {τ:Tg} {H H':Hp} {a:Addr} {o:HO} (k:Kp a H H') (ha:H a=some o) (hn:∀xs,o ≠ .tup xs) (ht:τ a=[]):Mv i τ H τ H':=⟨fun x u e t=>⟨k _ _ e (fun z=>by
 rw [z,ht] at t;rcases t with t|t<;>cases t),rfl⟩,fun x xs e=>k _ _ e (cj e ha fun z=>hn xs z.symm)⟩
theorem Mv.trans {i:Nat} {τ τ1 τ2:Tg} {H H1 H2:Hp} (a:Mv i τ H τ1 H1) (b:Mv i τ1 H1 τ2 H2):Mv i τ H τ2 H2:=⟨fun x o e t=>by
 obtain ⟨e1,t1⟩:=a.keep x o e t;obtain ⟨e2,t2⟩:=b.keep x o e1 (by rw [t1];exact t);exact ⟨e2,by rw [t2,t1]⟩,fun x xs e=>b.tup _ _ (a.tup _ _ e)⟩
end L2
set_option Elab.async false
set_option linter.all false
set_option maxRecDepth 100000
set_option maxHeartbeats 4000000
namespace Prf
open PySem L2
inductive Iu where
 | num (n:Int)
 | box (b:Nat)
 deriving DecidableEq
inductive Ao where
 | one (x:Iu)
 | two (p:Bool) (x y:Iu)
 deriving DecidableEq
inductive Rw where
 | load (b c:Nat)
 | store (c:Nat) (e:Ao)
 | swap (b c:Nat) (e:Ao)
 | o_ (b:Nat) (e:Ao)
 | say (e:Ao)
 | go (k:Nat)
 | mX (q:Bool) (e f:Ao) (k:Nat)
 deriving DecidableEq
def qt (b:Nat):Str:=⟨#[97+b]⟩
def wZ:Iu->PyData
 | .num n=> .tuple [.str "number",.int n]
 | .box b=> .tuple [.str "box",.str (qt b)]
def lD:Ao->PyData
 | .one x=>wZ x
 | .two p x y=> .tuple [.str (if p then "plus" else "minus"),wZ x,wZ y]
def gD:Rw->PyData
 | .load b c=> .tuple [.str "load",.str (qt b),.int c]
 | .store c e=> .tuple [.str "store",.int c,lD e]
 | .swap b c e=> .tuple [.str "swap",.str (qt b),.int c,lD e]
 | .o_ b e=> .tuple [.str "let",.str (qt b),lD e]
 | .say e=> .tuple [.str "say",lD e]
 | .go k=> .tuple [.str "go",.int k]
 | .mX q e f k=> .tuple [.str "unless",.str (if q then "=" else "<"),lD e,lD f,.int k]
def Jd:Iu->Prop
 | .num n=>0<=n/\n<1000
 | .box b=>b<8
def pB:Ao->Prop
 | .one x=>Jd x
 | .two _ x y=>Jd x/\Jd y
def o9 (m:Nat):Rw->Prop
 | .load b c=>b<8/\c<m
 | .store c e=>c<m/\pB e
 | .swap b c e=>b<8/\c<m/\pB e
 | .o_ b e=>b<8/\pB e
 | .say e=>pB e
 | .go _=>True
 | .mX _ e f _=>pB e/\pB f
theorem Ej:∀x:Iu,Gh (wZ x)=true
 | .num _=>rfl
 | .box _=>rfl
theorem sV:∀e:Ao,Gh (lD e)=true
 | .one x=>Ej x
 | .two p x y=>by simp only [lD,Gh,sU,Ej,Bool.and_self]
theorem p8:∀r:Rw,Gh (gD r)=true
 | .load _ _=>rfl
 | .store _ e=>by simp only [gD,Gh,sU,sV,Bool.and_self]
 | .swap _ _ e=>by simp only [gD,Gh,sU,sV,Bool.and_self]
 | .o_ _ e=>by simp only [gD,Gh,sU,sV,Bool.and_self]
 | .say e=>by simp only [gD,Gh,sU,sV,Bool.and_self]
 | .go _=>rfl
 | .mX _ e f _=>by simp only [gD,Gh,sU,sV,Bool.and_self]
section
variable {H:Hp} {v:V}
theorem GD {x:Iu} (h:Dat H v (wZ x)):∃t,v = .ref t/\H t=some (.tup (match x with | .num n=>[.str "number",.int n] | .box b=>[.str "box",.str (qt b)])):=by
 cases x<;>simp only [wZ,Dat] at h<;>obtain ⟨t,vs,rfl,e,d⟩:=h<;>refine ⟨t,rfl, ?_⟩<;>rw [e] <;>
 ·match vs,d with
  | [a,b],d=>
    simp only [bf,Dat,and_true] at d;obtain ⟨rfl,rfl⟩:=d;rfl
theorem LC {p:Bool} {x y:Iu} (h:Dat H v (lD (.two p x y))):∃t a b,v = .ref t/\H t=some (.tup [.str (if p then "plus" else "minus"),a,b])/\Dat H a (wZ x)/\Dat H b (wZ y):=by
 simp only [lD,Dat] at h;obtain ⟨t,vs,rfl,e,d⟩:=h
 match vs,d with
 | [a,b,c],d=>
   simp only [bf,Dat,and_true] at d;obtain ⟨rfl,d1,d2⟩:=d;exact ⟨t,_,_,rfl,e,d1,d2⟩
def Parts (H:Hp) (vs:List V):Rw->Prop
 | .load b c=>vs=[.str "load",.str (qt b),.int c]
 | .store c e=>∃x,vs=[.str "store",.int c,x]/\Dat H x (lD e)
 | .swap b c e=>∃x,vs=[.str "swap",.str (qt b),.int c,x]/\Dat H x (lD e)
 | .o_ b e=>∃x,vs=[.str "let",.str (qt b),x]/\Dat H x (lD e)
 | .say e=>∃x,vs=[.str "say",x]/\Dat H x (lD e)
 | .go k=>vs=[.str "go",.int k]
 | .mX q e f k=>∃x y,vs=[.str "unless",.str (if q then "=" else "<"),x,y,.int k]/\Dat H x (lD e)/\Dat H y (lD f)
theorem ug {r:Rw} (h:Dat H v (gD r)):∃t vs,v = .ref t/\H t=some (.tup vs)/\Parts H vs r:=by
 cases r<;>simp only [gD,Dat] at h<;>obtain ⟨t,vs,rfl,e,d⟩:=h<;>refine ⟨t,vs,rfl,e, ?_⟩
 ·match vs,d with
  | [a,b,c],d=>
    simp only [bf,Dat,and_true] at d;obtain ⟨rfl,rfl,rfl⟩:=d;rfl
 ·match vs,d with
  | [a,b,c],d=>
    simp only [bf,Dat,and_true] at d;obtain ⟨rfl,rfl,d⟩:=d;exact ⟨_,rfl,d⟩
 ·match vs,d with
  | [a,b,c,x],d=>
    simp only [bf,Dat,and_true] at d;obtain ⟨rfl,rfl,rfl,d⟩:=d;exact ⟨_,rfl,d⟩
 ·match vs,d with
  | [a,b,c],d=>
    simp only [bf,Dat,and_true] at d;obtain ⟨rfl,rfl,d⟩:=d;exact ⟨_,rfl,d⟩
 ·match vs,d with
  | [a,b],d=>
    simp only [bf,Dat,and_true] at d;obtain ⟨rfl,d⟩:=d;exact ⟨_,rfl,d⟩
 ·match vs,d with
  | [a,b],d=>
    simp only [bf,Dat,and_true] at d;obtain ⟨rfl,rfl⟩:=d;rfl
 ·match vs,d with
  | [a,b,c,x,y],d=>
    simp only [bf,Dat,and_true] at d;obtain ⟨rfl,rfl,d1,d2,rfl⟩:=d;exact ⟨_,_,rfl,d1,d2⟩
end
def v1 (bs:List Int):Iu->Int
 | .num n=>n % 1000
 | .box b=>(bs[b]?).getD 0
def vx (bs:List Int):Ao->Int
 | .one x=>v1 bs x
 | .two true x y=>(v1 bs x+v1 bs y) % 1000
 | .two false x y=>(v1 bs x - v1 bs y) % 1000
structure aX where
 (rws:List Rw) (pos:Nat) (bs sy:List Int) (st:Str)
def touch:Rw->Bool
 | .load _ _=>true
 | .store _ _=>true
 | .swap _ _ _=>true
 | _=>false
def jq (bs:List Int):Rw->Bool
 | .mX true e f _=>decide (vx bs e=vx bs f)
 | .mX false e f _=>decide (vx bs e<vx bs f)
 | _=>false
def jN (s:aX):Rw->aX
 | .o_ b e=>{s with pos:=s.pos+1,bs:=s.bs.set b (vx s.bs e)}
 | .say e=>{s with pos:=s.pos+1,sy:=s.sy++[vx s.bs e]}
 | .go k=>{s with pos:=k}
 | .mX q e f k=>{s with pos:=if jq s.bs (.mX q e f k) then s.pos+1 else k}
 | _=>s
def led:Nat->aX->aX
 | 0,s=>match s.rws[s.pos]? with
   | none=>{s with st:= "ends" }
   | some r=>if touch r then {s with st:= "waits" } else {s with st:= "lost" }
 | n+1,s=>match s.rws[s.pos]? with
   | none=>{s with st:= "ends" }
   | some r=>if touch r then {s with st:= "waits" } else led n (jN s r)
def lead (s:aX):aX:=led 60 s
theorem sX (s:aX) (r:Rw):(jN s r).rws=s.rws:=by cases r<;>rfl
theorem wD (s:aX) (r:Rw):(jN s r).sy.length<=s.sy.length+1:=by cases r<;>simp [jN]
theorem mK:∀(n:Nat) (s:aX),(led n s).rws=s.rws
 | 0,s=>by
   unfold led;split
   ·rfl
   ·split<;>rfl
 | n+1,s=>by
   unfold led;split
   ·rfl
   ·split
    ·rfl
    ·rw [mK,sX]
theorem Ed:∀(n:Nat) (s:aX),(led n s).sy.length<=s.sy.length+n
 | 0,s=>by
   unfold led;split
   ·simp
   ·split<;>simp
 | n+1,s=>by
   unfold led;split
   ·simp
   ·split
    ·simp
    ·rename_i r _ _
     have:=Ed n (jN s r);have:=wD s r;omega
theorem Ku:∀(n:Nat) (s:aX) (x:Str),led n {s with st:=x}=led n s
 | 0,s,x=>rfl
 | n+1,s,x=>by
   simp only [led];split
   ·rfl
   ·split
    ·rfl
    ·rename_i r _ tr
     rw [show jN {s with st:=x} r={jN s r with st:=x} by cases r<;>rfl];exact Ku n _ x
def rB (s:aX):Prop:=s.st = "waits" -> ∃r,s.rws[s.pos]? = some r/\touch r=true
theorem Gq:(Str.ofString "ends")≠Str.ofString "waits" :=by decide +kernel
theorem Oq:(Str.ofString "lost")≠Str.ofString "waits" :=by decide +kernel
theorem Ef:∀(n:Nat) (s:aX),rB (led n s)
 | 0,s=>by
   unfold led rB;split
   ·intro z;exact absurd z Gq
   ·rename_i r e
    split
    ·intro _;exact ⟨r,e,by assumption⟩
    ·intro z;exact absurd z Oq
 | n+1,s=>by
   unfold led;split
   ·intro z;exact absurd z Gq
   ·rename_i r e
    split
    ·intro _;exact ⟨r,e,by assumption⟩
    ·exact Ef n _
def new (rws:List Rw):aX:=⟨rws,0,List.replicate 8 0,[],"waits"⟩
structure jR where
 (m:Nat) (ns:List Int) (hs:List aX) (ts:List Int)
def uf:Rw->Nat
 | .load _ c=>c
 | .store c _=>c
 | .swap _ c _=>c
 | _=>0
def qx:Rw->Str
 | .load _ _=> "load"
 | .store _ _=> "store"
 | .swap _ _ _=> "swap"
 | .o_ _ _=> "let"
 | .say _=> "say"
 | .go _=> "go"
 | .mX _ _ _ _=> "unless"
def Qh (ns:List Int):Rw->Option Int
 | .load _ c=>ns[c]?
 | .swap _ c _=>ns[c]?
 | _=>none
def Qc (bs:List Int):Rw->Option Int
 | .store _ e=>some (vx bs e)
 | .swap _ _ e=>some (vx bs e)
 | _=>none
def oV:Option Int->V
 | none=> .non
 | some i=> .int i
def oD:Option Int->PyData
 | none=> .none
 | some i=> .int i
def Dl (ns bs:List Int) (r:Rw):List V:=[.str (qx r),.int (uf r),oV (Qh ns r),oV (Qc bs r)]
def wK (ns bs:List Int):Rw->List Int
 | .load b c=>bs.set b ((ns[c]?).getD 0)
 | .swap b c _=>bs.set b ((ns[c]?).getD 0)
 | _=>bs
def fY (ns bs:List Int):Rw->List Int
 | .store c e=>ns.set c (vx bs e)
 | .swap _ c e=>ns.set c (vx bs e)
 | _=>ns
def gF (ns:List Int) (s:aX) (r:Rw):aX:=lead {s with pos:=s.pos+1,bs:=wK ns s.bs r}
def qz (S:jR) (k:Nat):jR:=match S.hs[k]? with
 | none=>S
 | some s=>match s.rws[s.pos]? with
   | none=>S
   | some r=>{S with ns:=fY S.ns s.bs r,hs:=S.hs.set k (gF S.ns s r),ts:=S.ts++[(k:Int)]}
def qj (m:Nat) (ns:List Int) (rws:List (List Rw)):jR:=⟨m,ns,rws.map fun r=>lead (new r),[]⟩
end Prf
namespace L2
open PySem Prf
theorem bf.kp {H H':Hp} {vs:List V} {rws:List Rw} (d:bf H vs (rws.map gD)) (t:∀x xs,H x=some (.tup xs)->H' x=some (.tup xs)):bf H' vs (rws.map gD):=d.keep t _ (vZ gD p8 rws)
end L2
set_option Elab.async false
set_option linter.all false
set_option maxRecDepth 100000
set_option maxHeartbeats 4000000
namespace L2
open PySem PySem.Spec PyProof.Rows
section
variable {X:Cx} {k:Nat} {C:Addr} {sp:Sp}
theorem rzF:Rz X (fun _ _ _ _=>False):=by
 intro pins σ H s e cls dx fl hf I fp xo z;exact z.elim
theorem qK {pins:List (Addr×Obj)} {σ:St} {H:Hp} {s:Shared} {Q:VK} {us:List Value} {vs:List V} {f:Addr} {fd:FuncData} {ps:List Str} (G:bV X.prog X.w X.K X.mg X.base iD k f fd ps sp) (hr:cZ (k+1) X.A) (hb:Binds X.K fd ps [])
 (I:Inv X pins σ H s) (r:Vals vs us) (q:sp vs H Q E0):wpAny (model X.prog X.w) X.A.in1 (call (.ref f) us) (EP X pins σ Q) X.xe s:=by
 have hlen:us.length=ps.length:=by rw [←r.length];exact G.len _ _ _ _ q
 have hbd:=hb s us I.pA (by rw [List.append_nil];exact hlen);rw [List.append_nil] at hbd;refine wpAny_call (codeAny_mono (G.run X.A.in1 X.stack s H ⟨us,[]⟩ us vs Q E0 hr.in1 I.env0.in1 hbd r q) fun res s' hq=> ?_)
 match res,hq with
 | .error ev,hq=>exact False.elim hq
 | .ok (.ret u),hq=>exact I.after hq
def Vu (C:Addr) (sp:Sp):List V->Hp->VK->Prop:=fun xs H Q=>∃(a dx:Addr) (fs:List (Str×V)),xs=[.ref a]/\H a=some (.ins C dx fs)/\sp [.ref a] H (fun v H'=>∃n:Int,v = .int n/\0<=n/\n<2 ^ 62/\Q (.int n) H') E0
theorem yx (M:MethAt X.prog X.w X.K X.mg X.base k C "__len__" ["self"] sp) (hr:cZ (k+1) X.A):j7 X (.builtin "len") (Vu C sp):=by
 intro pins s σ H xs us Q I rv h;obtain ⟨f,fd,G,hm,hb⟩:=M;obtain ⟨a,dx,fs,rfl,ea,q⟩:=h;obtain ⟨u,rfl,ru⟩:=rv.one;obtain rfl:u=Value.ref a:=ru;obtain ⟨mm,Fm⟩:=I.fr;obtain ⟨mA,O,_⟩:=eG I.hok ea;obtain ⟨od,J,_⟩:=O.look;refine PySem.W.len_K Fm I.mod.CQ J hm.at_ hm.fn (dZ (qK (us:=[.ref a]) (vs:=[.ref a]) G hr hb I (.cons rfl .nil) q) fun v s' hv=> ?_)
 obtain ⟨x,H',I',rx,n,rfl,n0,n1,q'⟩:=hv;obtain ⟨t,rfl⟩:=rx;exact ⟨⟨n0,by omega⟩,.int n,H',I'.tok _,⟨_,rfl⟩,q'⟩
def abR (C:Addr) (sp:Sp):R2:=fun x y H Q=>∃(a b dx dy:Addr) (fs gs:List (Str×V)),x = .ref a/\y = .ref b/\H a=some (.ins C dx fs)/\H b=some (.ins C dy gs)/\sp [.ref a,.ref b] H (fun v H'=>∃t:Bool,v = .bl t/\Q (.bl t) H') E0
theorem DG (M:MethAt X.prog X.w X.K X.mg X.base k C "__eq__" ["self","other"] sp) (hr:cZ (k+1) X.A):oG X (compareOp .Eq) (abR C sp):=by
 intro pins s σ H x y u v Q I rx ry h;obtain ⟨f,fd,G,hm,hb⟩:=M;obtain ⟨a,b,dx,dy,fs,gs,rfl,rfl,ea,eb,q⟩:=h;obtain rfl:u=Value.ref a:=rx;obtain rfl:v=Value.ref b:=ry;obtain ⟨mA,O,_⟩:=eG I.hok ea;obtain ⟨od,J,_⟩:=O.look;obtain ⟨mB,O2,_⟩:=eG I.hok eb;obtain ⟨YZ,J2,_⟩:=O2.look;obtain ⟨mm,Fm⟩:=I.fr;refine PySem.W.cmp_ofEq (PySem.W.cmp_K hr.QD Fm I.mod.CQ J J2.type (by simp [PySem.W.notFirst]) hm.at_ hm.fn (dZ (zp (us:=[.ref a,.ref b]) (vs:=[.ref a,.ref b]) (pG:=[]) (ds:=[]) G (hr.mono (Nat.le_succ _)) hb .nil Bl I (.cons rfl (.cons rfl .nil)) q) fun v s' hv=> ?_));obtain ⟨x,H',I',rx,t,rfl,q'⟩:=hv;obtain rfl:v=Value.bool t:=rx;exact ⟨.bl t,H',I',rfl,q'⟩
end
structure IsO (K:PySem.W.Frag) (mg:Str->Option Value) (C:Addr) (nm:Str):Prop where
 bd:mg nm=some (.ref C)
 ha:PySem.W.findIn K (.ref C) "__class__" = some (some (.builtin "object.__class__"))
 hn:PySem.W.specialIn K (.builtin "object.__class__") "__get__" = some (some (.builtin "getset_descriptor.__get__"))
 ht:PySem.W.takesIn K (.builtin "object.__class__")=some true
 hm:PySem.W.mroIn K C (.type "object")=some true
theorem IsO.ty {K:PySem.W.Frag} {mg:Str->Option Value} {C:Addr} {nm:Str} (o:IsO K mg C nm) {H:Hp} {a dx:Addr} {fs:List (Str×V)} (e:H a=some (.ins C dx fs)) (c:Cls K C):jk K H (.ref a) (.ref C):= .ins e c o.ha o.hn o.ht o.hm
end L2
set_option Elab.async false
set_option linter.all false
set_option maxRecDepth 100000
set_option maxHeartbeats 4000000
namespace L2
open PySem PySem.Spec PyProof.Rows
section
variable {prog:Program} {w:World} {A:Around} {E:Value->Shared->Prop} {s:Shared}
end
end L2
set_option Elab.async false
set_option linter.all false
set_option maxRecDepth 100000
set_option maxHeartbeats 4000000
namespace L2
open PySem PySem.Spec PyProof.Rows
section
variable {prog:Program} {w:World} {A:Around} {E:Value->Shared->Prop} {s:Shared}
end
section
variable {X:Cx}
end
section
variable {K:PySem.W.Frag} {D:Addr} {xs:List V} {tc:TT} {te:TE} {Q:VK} {rest:St} {H1:Hp}
end
end L2
set_option Elab.async false
set_option linter.all false
set_option maxRecDepth 100000
set_option maxHeartbeats 4000000
namespace Prf
open PySem L2
def inR (x:Int):Prop:=0<=x/\x<1000
def allR (l:List Int):Prop:=∀x∈l,inR x
theorem Cu {l:List Int} (h:allR l) (i:Nat):inR ((l[i]?).getD 0):=by
 cases e:l[i]? with
 | none=>exact ⟨by decide,by decide⟩
 | some x=>exact h x (List.mem_of_getElem? e)
theorem wV {l:List Int} (h:allR l) (i:Nat) {x:Int} (hx:inR x):allR (l.set i x):=fun y hy=>by
 rcases List.mem_or_eq_of_mem_set hy with m|e
 ·exact h y m
 ·rw [e];exact hx
theorem zG (x:Int):inR (x % 1000):=⟨Int.emod_nonneg _ (by decide),Int.emod_lt_of_pos _ (by decide)⟩
theorem Jg {bs:List Int} (h:allR bs):∀e:Ao,inR (vx bs e)
 | .one (.num n)=>zG n
 | .one (.box b)=>Cu h b
 | .two true x y=>zG _
 | .two false x y=>zG _
theorem O8 {s:aX} (h:allR s.bs) (r:Rw):allR (jN s r).bs:=by
 cases r<;>first |exact h|exact wV h _ (Jg h _)
theorem Kv:∀(n:Nat) (s:aX),allR s.bs->allR (led n s).bs
 | 0,s,h=>by
   unfold led;split
   ·exact h
   ·split<;>exact h
 | n+1,s,h=>by
   unfold led;split
   ·exact h
   ·split
    ·exact h
    ·exact Kv n _ (O8 h _)
def MF (x:Str):Prop:=x = "waits" \/ x = "ends" \/ x = "lost"
theorem vX:∀(n:Nat) (s:aX),MF (led n s).st
 | 0,s=>by
   unfold led;split
   ·exact .inr (.inl rfl)
   ·split
    ·exact .inl rfl
    ·exact .inr (.inr rfl)
 | n+1,s=>by
   unfold led;split
   ·exact .inr (.inl rfl)
   ·split
    ·exact .inl rfl
    ·exact vX n _
structure iB (S:jR):Prop where
 n:allR S.ns
 b:∀s∈S.hs,allR s.bs
 t:∀s∈S.hs,MF s.st
theorem Pj {ns bs:List Int} (h:allR ns) (hb:allR bs) (r:Rw):allR (fY ns bs r):=by
 cases r<;>first |exact h|exact wV h _ (Jg hb _)
theorem Pn {ns bs:List Int} (h:allR ns) (hb:allR bs) (r:Rw):allR (wK ns bs r):=by
 cases r<;>first |exact hb|exact wV hb _ (Cu h _)
theorem iB.turn {S:jR} (g:iB S) (k:Nat):iB (qz S k):=by
 unfold qz;split
 ·exact g
 ·rename_i s es
  split
  ·exact g
  ·rename_i r er
   have hb:=g.b s (List.mem_of_getElem? es);refine ⟨Pj g.n hb r,fun s' hs'=> ?_,fun s' hs'=> ?_⟩
   ·rcases List.mem_or_eq_of_mem_set hs' with m|e
    ·exact g.b s' m
    ·rw [e]
     exact Kv _ _ (Pn g.n hb r)
   ·rcases List.mem_or_eq_of_mem_set hs' with m|e
    ·exact g.t s' m
    ·rw [e]
     exact vX _ _
theorem HW {m:Nat} {ns:List Int} {rws:List (List Rw)} (h:allR ns):iB (qj m ns rws):=⟨h,fun s hs=>by
 obtain ⟨r,_,rfl⟩:=List.mem_map.mp hs;refine Kv _ _ fun x hx=> ?_;rw [(List.mem_replicate.mp hx).2];exact ⟨by decide,by decide⟩,fun s hs=>by
 obtain ⟨r,_,rfl⟩:=List.mem_map.mp hs;exact vX _ _⟩
theorem zX:∀b:Fin 8,PyData.strOk (qt b.val)=true:=by decide +kernel
theorem Eo {x:Iu} (h:Jd x):(wZ x).canLay0=true/\(wZ x).depth<=1:=by
 cases x with
 | num n=>exact ⟨by show (PyData.strOk (Str.ofString "number")&&(true&&true))=true;decide +kernel,by show (max 0 (max 0 0))+1<=1;decide⟩
 | box b=>
   refine ⟨?_,by show (max 0 (max 0 0))+1<=1;decide⟩;show (PyData.strOk (Str.ofString "box")&&(PyData.strOk (qt b)&&true))=true;rw [show PyData.strOk (qt b)=true from zX ⟨b,h⟩];decide +kernel
theorem tH {e:Ao} (h:pB e):(lD e).canLay0=true/\(lD e).depth<=2:=by
 cases e with
 | one x=>obtain ⟨a,b⟩:=Eo (x:=x) h;exact ⟨a,by show (wZ x).depth<=2;omega⟩
 | two p x y=>
   obtain ⟨a1,b1⟩:=Eo h.1;obtain ⟨a2,b2⟩:=Eo h.2;refine ⟨?_, ?_⟩
   ·show (PyData.strOk (if p then Str.ofString "plus" else Str.ofString "minus")&&(PyData.canLay0 (wZ x)&&(PyData.canLay0 (wZ y)&&true)))=true
    rw [a1,a2];cases p<;>decide +kernel
   ·show max 0 (max (wZ x).depth (max (wZ y).depth 0))+1<=2
    omega
theorem Lp {m:Nat} {r:Rw} (h:o9 m r):(gD r).canLay0=true/\(gD r).depth<=3:=by
 cases r with
 | load b c=>
   refine ⟨?_,by show max 0 (max 0 (max 0 0))+1<=3;decide⟩;show (PyData.strOk (Str.ofString "load")&&(PyData.strOk (qt b)&&(true&&true)))=true;rw [show PyData.strOk (qt b)=true from zX ⟨b,h.1⟩];decide +kernel
 | store c e=>
   obtain ⟨a,d⟩:=tH h.2;refine ⟨?_, ?_⟩
   ·show (PyData.strOk (Str.ofString "store")&&(true&&(PyData.canLay0 (lD e)&&true)))=true
    rw [a];decide +kernel
   ·show max 0 (max 0 (max (lD e).depth 0))+1<=3
    omega
 | swap b c e=>
   obtain ⟨a,d⟩:=tH h.2.2;refine ⟨?_, ?_⟩
   ·show (PyData.strOk (Str.ofString "swap")&&(PyData.strOk (qt b)&&(true&&(PyData.canLay0 (lD e)&&true))))=true
    rw [a,show PyData.strOk (qt b)=true from zX ⟨b,h.1⟩];decide +kernel
   ·show max 0 (max 0 (max 0 (max (lD e).depth 0)))+1<=3
    omega
 | o_ b e=>
   obtain ⟨a,d⟩:=tH h.2;refine ⟨?_, ?_⟩
   ·show (PyData.strOk (Str.ofString "let")&&(PyData.strOk (qt b)&&(PyData.canLay0 (lD e)&&true)))=true
    rw [a,show PyData.strOk (qt b)=true from zX ⟨b,h.1⟩];decide +kernel
   ·show max 0 (max 0 (max (lD e).depth 0))+1<=3
    omega
 | say e=>
   obtain ⟨a,d⟩:=tH (e:=e) h;refine ⟨?_, ?_⟩
   ·show (PyData.strOk (Str.ofString "say")&&(PyData.canLay0 (lD e)&&true))=true
    rw [a];decide +kernel
   ·show max 0 (max (lD e).depth 0)+1<=3
    omega
 | go k=>exact ⟨by show (PyData.strOk (Str.ofString "go")&&(true&&true))=true;decide +kernel,by show max 0 (max 0 0)+1<=3;decide⟩
 | mX q e f k=>
   obtain ⟨a1,b1⟩:=tH h.1;obtain ⟨a2,b2⟩:=tH h.2;refine ⟨?_, ?_⟩
   ·show (PyData.strOk (Str.ofString "unless")&&(PyData.strOk (if q then Str.ofString "=" else Str.ofString "<")&&(PyData.canLay0 (lD e)&&(PyData.canLay0 (lD f)&&(true&&true)))))=true
    rw [a1,a2];cases q<;>decide +kernel
   ·show max 0 (max 0 (max (lD e).depth (max (lD f).depth (max 0 0))))+1<=3
    omega
def fU (l:List Int):PyData:= .list (l.map PyData.int)
theorem qW (l:List Int):(fU l).canLay0=true/\(fU l).depth<=1:=⟨iU PyData.int l fun _ _=>rfl,by
 have:=eH PyData.int 0 l fun _ _=>by show 0<=0;decide
 show PyData.depthAll (l.map PyData.int)+1<=1;omega⟩
def lB (s:aX):PyData:= .tuple [.str s.st,if s.st = "waits" then .int s.pos else .none,fU s.bs,fU s.sy]
theorem Aw {x:Str} (h:MF x):PyData.strOk x=true:=by
 rcases h with rfl|rfl|rfl<;>decide +kernel
theorem Gy {s:aX} (h:MF s.st):(lB s).canLay0=true/\(lB s).depth<=2:=by
 obtain ⟨a1,b1⟩:=qW s.bs;obtain ⟨a2,b2⟩:=qW s.sy;have a3:(if s.st = "waits" then PyData.int s.pos else .none).canLay0=true:=by split<;>rfl
 have b3:(if s.st = "waits" then PyData.int s.pos else .none).depth=0:=by split<;>rfl
 refine ⟨?_, ?_⟩
 ·show (PyData.strOk s.st&&(PyData.canLay0 (if s.st = "waits" then PyData.int s.pos else .none)&&(PyData.canLay0 (fU s.bs)&&(PyData.canLay0 (fU s.sy)&&true))))=true
  rw [a1,a2,a3,Aw h];rfl
 ·show max 0 (max (PyData.depth (if s.st = "waits" then PyData.int s.pos else .none)) (max (fU s.bs).depth (max (fU s.sy).depth 0)))+1<=2
  omega
def lA (rws:List Rw):PyData:= .list (rws.map gD)
def iu (S:jR):PyData:= .tuple [.int S.m,.list (S.hs.map fun s=>lA s.rws)]
def Dd (S:jR) (cs:List Int):PyData:= .tuple [iu S,fU S.ns,.list (S.hs.map lB),fU cs]
theorem Cd {m:Nat} {rws:List Rw} (h:∀r∈rws,o9 m r):(lA rws).canLay0=true/\(lA rws).depth<=4:=⟨iU gD rws fun r hr=>(Lp (h r hr)).1,by
 have:=eH gD 3 rws fun r hr=>(Lp (h r hr)).2;show PyData.depthAll (rws.map gD)+1<=4;omega⟩
theorem tG {S:jR} {cs:List Int} (g:iB S) (h:∀s∈S.hs,∀r∈s.rws,o9 S.m r):SeqAt.shaped (Dd S cs)=true:=by
 obtain ⟨a1,b1⟩:=qW S.ns;obtain ⟨a2,b2⟩:=qW cs;have a3:PyData.canLay0 (.list (S.hs.map lB))=true:=iU lB S.hs fun s hs=>(Gy (g.t s hs)).1;have b3:=eH lB 2 S.hs fun s hs=>(Gy (g.t s hs)).2;have a4:PyData.canLay0 (.list (S.hs.map fun s=>lA s.rws))=true:=iU (fun s:aX=>lA s.rws) S.hs fun s hs=>(Cd (h s hs)).1;have b4:=eH (fun s:aX=>lA s.rws) 4 S.hs fun s hs=>(Cd (h s hs)).2
 have e1:PyData.canLay0 (Dd S cs)=true:=by
  show ((true&&(PyData.canLay0 (.list (S.hs.map fun s=>lA s.rws))&&true))&&(PyData.canLay0 (fU S.ns)&&(PyData.canLay0 (.list (S.hs.map lB))&&(PyData.canLay0 (fU cs)&&true))))=true;rw [a1,a2,a3,a4];rfl
 have e2:PyData.depth (Dd S cs)<=64:=by
  show max (max 0 (max (PyData.depthAll (S.hs.map fun s=>lA s.rws)+1) 0)+1) (max (fU S.ns).depth (max (PyData.depthAll (S.hs.map lB)+1) (max (fU cs).depth 0)))+1<=64;omega
 unfold SeqAt.shaped;rw [e1,decide_eq_true e2];rfl
mutual
theorem BW:∀d:PyData,d.canLay0=true->PyData.eqv d d=true
 | .none,_=>rfl
 | .bool b,_=>by simp [PyData.eqv]
 | .int i,_=>by simp [PyData.eqv]
 | .str x,_=>by simp [PyData.eqv]
 | .list ds,h=>by simp only [PyData.eqv];exact sW ds (by simpa [PyData.canLay0] using h)
 | .tuple ds,h=>by simp only [PyData.eqv];exact sW ds (by simpa [PyData.canLay0] using h)
 | .dict _,h=>by simp [PyData.canLay0] at h
theorem sW:∀ds:List PyData,PyData.canLayAll0 ds=true->PyData.eqvAll ds ds=true
 | [],_=>rfl
 | d::ds,h=>by
   simp only [PyData.canLayAll0,Bool.and_eq_true] at h;simp only [PyData.eqvAll,Bool.and_eq_true];exact ⟨BW d h.1,sW ds h.2⟩
end
theorem K_ {d:PyData} (h:SeqAt.shaped d=true):PyData.eqv d d=true:=by
 unfold SeqAt.shaped at h;rw [Bool.and_eq_true] at h;exact BW d h.1
def isLoad:Rw->Bool
 | .load _ _=>true
 | _=>false
def apart (r q:Rw):Prop:=uf r≠uf q\/(isLoad r=true/\isLoad q=true)
end Prf
set_option Elab.async false
set_option linter.all false
set_option maxRecDepth 100000
set_option maxHeartbeats 4000000
namespace L2
open PySem
def nw (H H':Hp):Hp:=fun x=>match H x with
 | none=>H' x
 | some _=>none
theorem yg {H H':Hp} {x:Addr} {o:HO} (n:H x=none) (e:H' x=some o):nw H H' x=some o:=by
 unfold nw;rw [n];exact e
theorem DX {H H':Hp} {x:Addr} {o:HO} (e:nw H H' x=some o):H x=none/\H' x=some o:=by
 unfold nw at e;cases q:H x with
 | none=>rw [q] at e;exact ⟨rfl,e⟩
 | some u=>rw [q] at e;cases e
theorem Oh (H H':Hp):Same (nw H H') H':=fun x o e=>(DX e).2
section
variable {K:PySem.W.Frag} {a D:Addr} {xs:List V} {te:TE} {Q:VK} {rest:St} {H1:Hp}
def nwB (H1:Hp) (D:Addr) (H:Hp):Hp:=fun x=>if x=D then none else nw H1 H x
theorem Gb {H H1:Hp} {x:Addr} {o:HO} (e:nwB H1 D H x=some o):x≠D/\H1 x=none/\H x=some o:=by
 unfold nwB at e
 by_cases z:x=D
 ·rw [if_pos z] at e;cases e
 ·rw [if_neg z] at e;exact ⟨z,DX e⟩
theorem Kd {H H1:Hp} {x:Addr} {o:HO} (z:x≠D) (n:H1 x=none) (e:H x=some o):nwB H1 D H x=some o:=by
 unfold nwB;rw [if_neg z];exact yg n e
theorem Kc {H H4:Hp} {o:HO} (s:Same H H4):Same (nwB H1 D H) (nwB H1 D (upd H4 D o)):=fun x u e=>by
 obtain ⟨z,n,h⟩:=Gb e;exact Kd z n (by rw [aG z];exact s _ _ h)
theorem Oi {H H4:Hp} {o u:HO} (s:Same H1 H) (e:H D=some u):Same (nw H H4) (nwB H1 D (upd H4 D o)):=fun x v h=>by
 obtain ⟨n,h⟩:=DX h;have z:x≠D:=(aB e n).symm;exact Kd z (s.free n) (by rw [aG z];exact h)
theorem RM {H:Hp}:Same (nwB H1 D H) (nw H1 H):=fun x o e=>by
 obtain ⟨_,n,h⟩:=Gb e;exact yg n h
theorem Ia (f:Nat->PyData) (hD:H1 D=none) (hq:bC K H1 a xs) (hx:xs.length<=100000)
 (hs:∀i x H (F:VK),xs[i]? = some x->Same H1 H->(∀y H',Same H H'->Dat (nw H H') y (f i)->F y H')->te (some x::rest) H F)
 (hd:∀H,Same H1 H->Dat (nw H1 H) (.ref D) (.list ((List.range xs.length).map f))->Q (.ref D) H):oK (Mq K a) (dO 0) rM te Q D (none::rest) H1:=by
 refine iT (K:=K) (xs:=xs) (fun i σ H=>(∃v,σ=v::rest)/\Same H1 H /\ ∃vs,H D=some (.lst vs)/\bf (nwB H1 D H) vs ((List.range i).map f)) ⟨⟨none,rfl⟩,aF hD,[],ak,by simp [bf]⟩ (fun i σ H _ ⟨_,sm,_⟩=>sm.sqL _ _ hq) ?_ (fun σ H ⟨_,sm,vs,e,d⟩=>hd H sm (lF (yg hD e) (d.same RM _)));rintro i x σ H hi ⟨⟨v,rfl⟩,sm,vs,e,d⟩;have hil:i<xs.length:=(List.getElem?_eq_some_iff.mp hi).1;refine hs i x H _ hi sm fun y H4 s4 dy=> ?_;have hl:vs.length=i:=by rw [d.length];simp
 refine ⟨vs,s4 _ _ e, ?_,⟨_,rfl⟩,(sm.trans s4).newly hD,vs++[y],ak, ?_⟩
 ·rw [sizeLine_eq];omega
 ·rw [List.range_succ,List.map_append]
  exact sY (d.same (Kc s4) _) (dy.same (Oi sm e) _)
end
end L2
set_option Elab.async false
set_option linter.all false
set_option maxRecDepth 100000
set_option maxHeartbeats 4000000
namespace L2
open PySem PySem.Spec PyProof.Rows
structure NeO (K:PySem.W.Frag) (C:Addr):Prop where
 ne:PySem.W.findIn K (.ref C) "__ne__" = some (some (.builtin "object.__ne__"))
 ob:PySem.W.mroIn K C (.type "object")=some true
section
variable {prog:Program} {w:World} {A:Around} {E:Value->Shared->Prop} {s:Shared} {K:PySem.W.Frag} {x C f:Addr} {ox:Obj} {od:Option Obj} {b:Value}
theorem Kl {Q:PySem.Fin->Shared->Prop} (hu:A.units<cLine) (X:K.In s.heap) (I:PySem.W.InstAt s.heap x ox C od) (hs:PySem.W.findIn K (.ref C) "__eq__" = some (some (.ref f))) (hf:PySem.W.isFn K (.ref f)=true)
 (h:wpAny (model prog w) A (call (.ref f) [.ref x,b]) (fun v s'=>∃t,v = .bool t/\Q (.done (.ret (.bool (!t)))) s') E s):wpAny (model prog w) A (Builtin.«object.__ne__» ⟨[.ref x,b],[]⟩) Q E s:=by
 unfold Builtin.«object.__ne__»;refine wpAny_bind (m:=slotArgs "__ne__" 1 _) (wpAny_pure ?_);refine wpAny_bind (m:=cRoomFor _ _) (wpAny_cRoomFor hu ?_);refine wpAny_bind (m:=callSpecialIfBound? (.ref x) (Str.ofString "__eq__") [b]) (PySem.W.ifBound_K X I hs hf (wpAny_mono h (fun v s' hv=> ?_) fun _ _ e=>e));obtain ⟨t,rfl,q⟩:=hv;exact wpAny_bind (m:=truthy (.bool _)) (wpAny_truthy_bool (wpAny_pure q))
theorem Oj {Q:Value->Shared->Prop} {tb:Value} (hu:A.units+1<cLine) (X:K.In s.heap) (I:PySem.W.InstAt s.heap x ox C od) (hb:PySem.W.Looks (model prog w) s.heap (typeOf b) tb) (hn:PySem.W.notFirst K C tb=true) (N:NeO K C)
 (hs:PySem.W.findIn K (.ref C) "__eq__" = some (some (.ref f))) (hf:PySem.W.isFn K (.ref f)=true)
 (h:wpAny (model prog w) A.in1 (call (.ref f) [.ref x,b]) (fun v s'=>∃t,v = .bool t/\Q (.bool (!t)) s') E s):wpAny (model prog w) A (compareOp .NotEq (.ref x) b) Q E s:=by
 have hu0:A.units<cLine:=by omega
 have one:wpAny (model prog w) A (tryCompare (.ref x) "__ne__" b) (fun r s'=>∃v,r=some v/\Q v s') E s:=by
  unfold tryCompare;refine wpAny_bind ?_;simp only [callSpecialIfBound?,bindSpecialIfBound?];refine wpAny_holding (wpAny_bind (wpAny_bind (wpAny_bind (I.type.here ((PySem.W.looks_findIn X N.ne).here (wpAny_bind (wpAny_askSetting (wpAny_ite ?_))))))));have hbd:PySem.W.Looks (model prog w) s.heap (bindSpecial (.builtin "object.__ne__") (.ref x)) (.builtin "object.__ne__",[.ref x]):=PySem.W.Looks.of_pure (PySem.F.slot_object_ne.bind _)
  have fin:wpAny (model prog w) A (call (.builtin "object.__ne__") ([.ref x]++[b]) >>= fun v=>pure (some v)) (fun a s'=>wpAny (model prog w) A (match a with |some Value.notImplemented=>pure none|none=>pure none|some v=>pure (some v)) (fun r s'=>∃v,r=some v/\Q v s') E s') E s:=by
   refine wpAny_bind (wpAny_call (codeAny_call_builtin PySem.F.slot_object_ne.plain F.cmpEntry_ne (PySem.W.check_slot F.cmpKind_ne F.cmpSplit_ne (I.type.andThen (PySem.W.looks_mroIn X N.ob)) (F.cmpArgs_ne _ _) (Kl (A:=A.in1) hu X I hs hf (wpAny_mono h (fun v s' hv=> ?_) fun _ _ e=>e)))));obtain ⟨t,rfl,q⟩:=hv;refine ⟨t,rfl, ?_⟩;exact wpAny_pure (wpAny_pure ⟨_,rfl,q⟩)
  split
  ·exact wpAny_bind (hbd.here (wpAny_pure (by exact fin)))
  ·exact wpAny_tryCatch (wpAny_bind (hbd.here (wpAny_pure (by exact fin))))
 refine PySem.W.cmp_ofNotEq ?_;unfold richCompare;simp only [oneThing_ref];refine wpAny_holding (wpAny_bind (wpAny_cRoomFor hu0 (wpAny_bind (I.type.here (wpAny_bind (hb.here ?_))))));split
 ·rename_i ql
  have no:PySem.W.subIn K tb (.ref C)=some false:=by
   rcases Bool.or_eq_true_iff.mp hn with y|y
   ·rw [beq_iff_eq.mp y] at ql
    simp at ql
   ·exact beq_iff_eq.mp y
  refine wpAny_bind ((PySem.W.looks_subIn X no).here ?_);simp only [Bool.false_eq_true,if_false];refine wpAny_bind (wpAny_mono one (fun r t' y=> ?_) fun _ _ y=>y);obtain ⟨v,rfl,yq⟩:=y;exact wpAny_pure yq
 ·refine wpAny_bind (wpAny_pure ?_)
  simp only [Bool.false_eq_true,if_false];refine wpAny_bind (wpAny_mono one (fun r t' y=> ?_) fun _ _ y=>y);obtain ⟨v,rfl,yq⟩:=y;exact wpAny_pure yq
end
section
variable {X:Cx} {k:Nat} {C:Addr} {sp:Sp}
def abL (C:Addr) (sp:Sp):R2:=fun x y H Q=>∃(a b dx dy:Addr) (fs gs:List (Str×V)),x = .ref a/\y = .ref b/\H a=some (.ins C dx fs)/\H b=some (.ins C dy gs)/\sp [.ref a,.ref b] H (fun v H'=>∃t:Bool,v = .bl t/\Q (.bl (!t)) H') E0
theorem Rr (N:NeO X.K C) (M:MethAt X.prog X.w X.K X.mg X.base k C "__eq__" ["self","other"] sp) (hr:cZ (k+1) X.A):oG X (compareOp .NotEq) (abL C sp):=by
 intro pins s σ H x y u v Q I rx ry h;obtain ⟨f,fd,G,hm,hb⟩:=M;obtain ⟨a,b,dx,dy,fs,gs,rfl,rfl,ea,eb,q⟩:=h;obtain rfl:u=Value.ref a:=rx;obtain rfl:v=Value.ref b:=ry;obtain ⟨mA,O,_⟩:=eG I.hok ea;obtain ⟨od,J,_⟩:=O.look;obtain ⟨mB,O2,_⟩:=eG I.hok eb;obtain ⟨YZ,J2,_⟩:=O2.look;obtain ⟨mm,Fm⟩:=I.fr;refine Oj (by have:=hr.units;omega) (I.mod.CQ.keeps Fm.keep) J J2.type (by simp [PySem.W.notFirst]) N hm.at_ hm.fn (dZ (qK (us:=[.ref a,.ref b]) (vs:=[.ref a,.ref b]) G hr hb I (.cons rfl (.cons rfl .nil)) q) fun v s' hv=> ?_)
 obtain ⟨x,H',I',rx,t,rfl,q'⟩:=hv;obtain rfl:v=Value.bool t:=rx;exact ⟨t,rfl,.bl (!t),H',I',rfl,q'⟩
end
end L2
set_option Elab.async false
set_option linter.all false
set_option maxRecDepth 100000
set_option maxHeartbeats 4000000
namespace L2
open PySem PySem.Spec PyProof.Rows
section
variable {prog:Program} {w:World} {K:Type} [DecidableEq K] {knd:HeapKind prog w K} {A:Around} {E:Value->Shared->Prop} {s:Shared}
end
section
variable {X:Cx}
end
end L2
set_option Elab.async false
set_option linter.all false
set_option maxRecDepth 100000
set_option maxHeartbeats 4000000
namespace L2
open PySem PySem.Spec PyProof.Rows
section
variable {prog:Program} {w:World} {K:Type} [DecidableEq K] {knd:HeapKind prog w K} {A:Around} {E:Value->Shared->Prop} {s:Shared} {d:Addr} {xs:List (K×Addr×Value)}
end
section
variable {X:Cx} {pos:Pos} {k v a:Expr} {tk tv ta:TE}
end
end L2
namespace L2
open PySem PySem.Spec PyProof.Rows
section
variable {d:Addr} {o:Obj} {kvs:List (List Key×V)} {g:TG} {tb:TS} {D:Ends} {σ:St} {H:Hp}
end
end L2
namespace L2
open PySem PySem.Spec PyProof.Rows
section
variable {X:Cx}
end
end L2
set_option Elab.async false
set_option linter.all false
set_option maxRecDepth 100000
set_option maxHeartbeats 4000000
namespace L2
open PySem PySem.Spec PyProof.Rows PySem.Calls PyProof.V
section
variable {prog:Program} {w:World} {K:Type} [DecidableEq K] {knd:HeapKind prog w K} {A:Around} {E:Value->Shared->Prop} {s:Shared}
end
section
variable {X:Cx}
end
end L2
set_option Elab.async false
set_option linter.all false
set_option maxRecDepth 100000
set_option maxHeartbeats 4000000
namespace L2
open PySem PySem.Spec PyProof.Rows
section
variable {X:Cx} {k:Nat} {C:Addr} {sp:Sp}
theorem Ou {pins:List (Addr×Obj)} {σ:St} {H:Hp} {s:Shared} {Q:VK} {f:Addr} {fd:FuncData} {a dx:Addr} {fs:List (Str×V)} {n:Int} {tk:Tok} (G:bV X.prog X.w X.K X.mg X.base iD k f fd ["self","other"] sp) (hm:Meth X.K C "__eq__" f) (hb:Binds X.K fd ["self","other"] []) (hr:cZ (k+1) X.A)
 (hs:PySem.W.subIn X.K (.ref C) (.type "int")=some false) (I:Inv X pins σ H s) (ea:H a=some (.ins C dx fs)) (q:sp [.ref a,.int n] H Q E0) (Wf:∀v H',Q v H' -> ∃t:Bool,v = .bl t):
 wpAny (model X.prog X.w) X.A.in1 (richCompare .Eq (.int n tk) (.ref a)) (fun v s'=>∃t:Bool,v = .bool t /\ ∃H',Inv X pins σ H' s'/\Q (.bl t) H') X.xe s:=by
 obtain ⟨mA,O,_⟩:=eG I.hok ea;obtain ⟨od,J,_⟩:=O.look;obtain ⟨mm,Fm⟩:=I.fr;have XK:=I.mod.CQ.keeps Fm.keep;have hu:X.A.in1.units<cLine:=by have:=hr.Dh;omega
 have one:wpAny (model X.prog X.w) X.A.in1 (tryCompare (.int n tk) (cmpInfo .Eq).2.1 (.ref a)) (fun r s'=>r=none/\s'=s) X.xe s:=by
  refine wpAny_tryCompare_declines (typeIs_int s n tk) PySem.F.slot_int_eq ?_;refine wpAny_call_entry PySem.F.slot_int_eq (typeIs_int s n tk) PySem.F.entry_int_eq ?_ (PySem.F.args_int_eq_2 _ _);show wpAny _ _ (slotArgs "__eq__" 1 ⟨[.int n tk,.ref a],[]⟩ >>= _) _ _ s;refine wpAny_bind (wpAny_pure ?_);refine wpAny_bind (m:=pure n) (wpAny_pure ?_);refine wpAny_bind (m:=asInt? (.ref a)) ?_;show wpAny _ _ (load a >>= _) _ _ s;refine wpAny_bind (wpAny_load O.obj (wpAny_pure ?_));exact wpAny_bind (wpAny_rule (wpAny_pure ⟨_,rfl,rfl,rfl,rfl⟩))
 have two:wpAny (model X.prog X.w) X.A.in1 (tryCompare (.ref a) (cmpInfo .Eq).2.2 (.int n tk)) (fun r s'=>∃t:Bool,r=some (.bool t) /\ ∃H',Inv X pins σ H' s'/\Q (.bl t) H') X.xe s:=by
  unfold tryCompare;refine wpAny_bind (PySem.W.ifBound_K XK J hm.at_ hm.fn (wpAny_mono (qK (us:=[.ref a,.int n tk]) (vs:=[.ref a,.int n]) G hr hb I (.cons rfl (.cons ⟨_,rfl⟩ .nil)) q) (fun v s' hv=> ?_) fun _ _ e=>e));obtain ⟨x,H',I',rx,q'⟩:=hv;obtain ⟨t,rfl⟩:=Wf _ _ q';obtain rfl:v=Value.bool t:=rx;exact wpAny_pure ⟨t,rfl,H',I',q'⟩
 unfold richCompare;rw [show oneThing? .Eq (.int n tk) (.ref a)=none from rfl];refine wpAny_holding (wpAny_bind (wpAny_cRoomFor hu ?_));refine wpAny_bind (wpAny_typeOf (typeIs_int s n tk) (wpAny_bind (J.type.here ?_)));rw [if_pos (by rfl)];refine wpAny_bind ((PySem.W.looks_subIn XK hs).here ?_);simp only [Bool.false_eq_true,if_false];refine wpAny_bind (wpAny_mono one (fun r s' z=> ?_) fun _ _ e=>e);obtain ⟨rfl,rfl⟩:=z;simp only [Bool.not_false,if_true];refine wpAny_bind (wpAny_mono two (fun r s' z=> ?_) fun _ _ e=>e);obtain ⟨t,rfl,H',I',q'⟩:=z;exact wpAny_pure ⟨t,rfl,H',I',q'⟩
theorem FT {pins:List (Addr×Obj)} {σ:St} {H:Hp} {s:Shared} {Q:VK} {f:Addr} {fd:FuncData} {a b dx dy:Addr} {fs gs:List (Str×V)} (G:bV X.prog X.w X.K X.mg X.base iD k f fd ["self","other"] sp) (hm:Meth X.K C "__eq__" f) (hb:Binds X.K fd ["self","other"] []) (hr:cZ (k+1) X.A)
 (I:Inv X pins σ H s) (ea:H a=some (.ins C dx fs)) (eb:H b=some (.ins C dy gs)) (q:sp [.ref b,.ref a] H Q E0) (Wf:∀v H',Q v H' -> ∃t:Bool,v = .bl t):
 wpAny (model X.prog X.w) X.A.in1 (richCompare .Eq (.ref b) (.ref a)) (fun v s'=>∃t:Bool,v = .bool t /\ ∃H',Inv X pins σ H' s'/\Q (.bl t) H') X.xe s:=by
 obtain ⟨mA,O,_⟩:=eG I.hok ea;obtain ⟨od,J,_⟩:=O.look;obtain ⟨mB,O2,_⟩:=eG I.hok eb;obtain ⟨YZ,J2,_⟩:=O2.look;obtain ⟨mm,Fm⟩:=I.fr;have hu:X.A.in1.units<cLine:=by have:=hr.Dh;omega
 refine PySem.W.cmp_K hu Fm I.mod.CQ J2 J.type (by simp [PySem.W.notFirst]) hm.at_ hm.fn (wpAny_mono (qK (us:=[.ref b,.ref a]) (vs:=[.ref b,.ref a]) G hr hb I (.cons rfl (.cons rfl .nil)) q) (fun v s' hv=> ?_) fun _ _ e=>e)
 obtain ⟨x,H',I',rx,q'⟩:=hv;obtain ⟨t,rfl⟩:=Wf _ _ q';obtain rfl:v=Value.bool t:=rx;exact ⟨t,rfl,H',I',q'⟩
def Qy (K:PySem.W.Frag) (C:Addr) (sp:Sp) (l a:Addr) (vs:List V):List V->Hp->VK->Prop
 | [],H,Q=>Q (.bl false) H
 | v::r,H,Q=>(v = .ref a/\Q (.bl true) H) \/
   (∃n:Int,v = .int n/\sp [.ref a,.int n] H (fun t H'=>∃b:Bool,t = .bl b/\(b=true->Q (.bl true) H')/\(b=false->bC K H' l vs/\(∃dx fs,H' a=some (.ins C dx fs))/\Qy K C sp l a vs r H' Q)) E0) \/
   (∃(b dy:Addr) (gs:List (Str×V)),v = .ref b/\b≠a/\H b=some (.ins C dy gs)/\sp [.ref b,.ref a] H (fun t H'=>∃b:Bool,t = .bl b/\(b=true->Q (.bl true) H')/\(b=false->bC K H' l vs/\(∃dx fs,H' a=some (.ins C dx fs))/\Qy K C sp l a vs r H' Q)) E0)
theorem KD {pins:List (Addr×Obj)} {σ:St} {Q:VK} {f:Addr} {fd:FuncData} {a l:Addr} {vs:List V} (G:bV X.prog X.w X.K X.mg X.base iD k f fd ["self","other"] sp) (hm:Meth X.K C "__eq__" f) (hb:Binds X.K fd ["self","other"] []) (hr:cZ (k+1) X.A) (hs:PySem.W.subIn X.K (.ref C) (.type "int")=some false):
 ∀(r:List V) (i:Nat) (s:Shared) (H:Hp),vs.drop i=r->Inv X pins σ H s->bC X.K H l vs->(∃dx fs,H a=some (.ins C dx fs))->Qy X.K C sp l a vs r H Q ->
  wpAny (model X.prog X.w) X.A.in1 (Builtin.«list.__contains__.loop» ⟨[.ref l,.ref a,rawInt i],[]⟩) (fun fin s'=>match fin with
   | .done fl=>(match (Except.ok fl:Result) with | .ok (.ret v)=>∃t H',v = .bool t/\Inv X pins σ H' s'/\Q (.bl t) H' | .ok _=>False | .error e=>X.xe e s')
   | .again c'=>c'.quiet=true/\codeAny (model X.prog X.w) X.A c' (fun res s'=>match res with | .ok (.ret v)=>∃t H',v = .bool t/\Inv X pins σ H' s'/\Q (.bl t) H' | .ok _=>False | .error e=>X.xe e s') s') X.xe s:=by
 intro r
 induction r with
 | nil=>
   intro i s H ed I hq ha q;obtain ⟨its,rv,⟨o,n,e,_,_,d⟩,hz⟩:=I.list hq;have hl:vs.length<=i:=List.drop_eq_nil_iff.mp ed;refine (show wpAny _ _ (Builtin.List.listItems (.ref l) >>= _) _ _ s from wpAny_bind (wpAny_listItems e d ?_))
   have hi:its.toArray[((i:Nat):Int).toNat]? = none:=by
    have:=rv.length;simp;omega
   rw [hi];exact wpAny_pure ⟨false,H,rfl,I,q⟩
 | cons v r ih=>
   intro i s H ed I hq ⟨dx,fs,ea⟩ q;obtain ⟨its,rv,⟨o,n,e,_,_,d⟩,hz⟩:=I.list hq
   have hv:vs[i]? = some v:=by
    have:(vs.drop i)[0]? = some v:=by rw [ed];rfl
    simpa using this
   have ed':vs.drop (i+1)=r:=by
    have:=congrArg (List.drop 1) ed;rw [List.drop_drop] at this;simpa using this
   obtain ⟨y,hy,ry⟩:=rv.get hv;refine (show wpAny _ _ (Builtin.List.listItems (.ref l) >>= _) _ _ s from wpAny_bind (wpAny_listItems e d ?_))
   have hi:its.toArray[((i:Nat):Int).toNat]? = some y:=by
    rw [Int.toNat_natCast,List.getElem?_toArray];exact hy
   rw [hi];have hc:((i:Int)+1)=((i+1:Nat):Int):=by push_cast;rfl
   have fin:∀{b:Bool} {H':Hp} {s':Shared},Inv X pins σ H' s'->(b=true->Q (.bl true) H')->(b=false->bC X.K H' l vs/\(∃dx fs,H' a=some (.ins C dx fs))/\Qy X.K C sp l a vs r H' Q) ->
    wpAny (model X.prog X.w) X.A.in1 (if b=true then ret (.bool true) else again (.builtin "list.__contains__.loop" ⟨[.ref l,.ref a,rawInt ((i:Int)+1)],[]⟩)) (fun fin s'=>match fin with
    | .done fl=>(match (Except.ok fl:Result) with | .ok (.ret v)=>∃t H',v = .bool t/\Inv X pins σ H' s'/\Q (.bl t) H' | .ok _=>False | .error e=>X.xe e s')
    | .again c'=>c'.quiet=true/\codeAny (model X.prog X.w) X.A c' (fun res s'=>match res with | .ok (.ret v)=>∃t H',v = .bool t/\Inv X pins σ H' s'/\Q (.bl t) H' | .ok _=>False | .error e=>X.xe e s') s') X.xe s':=fun {b H' s'} I' h1 h2=>by
    cases b with
    | true=>exact wpAny_pure ⟨true,H',rfl,I',h1 rfl⟩
    | false=>
      obtain ⟨g1,g2,g3⟩:=h2 rfl;rw [hc];refine wpAny_pure ⟨plainId_quiet PySem.MeetsSeq.plain_contains_loop _,codeAny_builtin PySem.MeetsSeq.entry_contains_loop ?_⟩;rw [Around.under_plainId PySem.MeetsSeq.plain_contains_loop _];exact ih (i+1) s' H' ed' I' g1 g2 g3
   rcases q with ⟨rfl,q⟩|⟨n,rfl,q⟩|⟨b,dy,gs,rfl,ne,eb,q⟩
   ·obtain rfl:y=Value.ref a:=ry
    refine wpAny_bind (SeqAt.EqAt.same (.ref a) X.prog X.w _ _ ?_);exact fin (b:=true) I (fun _=>q) (fun z=>by cases z)
   ·obtain ⟨tk,rfl⟩:∃t,y=Value.int n t:=ry
    refine wpAny_bind ?_;unfold eqBool;refine wpAny_holding (wpAny_ite_split (fun z=>absurd (eq_of_beq z) nofun) fun _=> ?_);refine wpAny_bind (wpAny_mono (Ou (Q:=fun v H'=>∃b:Bool,v = .bl b/\(b=true->Q (.bl true) H')/\(b=false->bC X.K H' l vs/\(∃dx fs,H' a=some (.ins C dx fs))/\Qy X.K C sp l a vs r H' Q)) G hm hb hr hs I ea q (fun v H' ⟨b,e,_⟩=>⟨b,e⟩)) (fun w' s' hw=> ?_) fun _ _ z=>z)
    ·obtain ⟨t,rfl,H',I',b,eb,h1,h2⟩:=hw
     cases eb;exact wpAny_truthy_bool (fin I' h1 h2)
   ·obtain rfl:y=Value.ref b:=ry
    refine wpAny_bind ?_;unfold eqBool;refine wpAny_holding (wpAny_ite_split (fun z=>absurd (by have:=eq_of_beq z;injection this) ne) fun _=> ?_);refine wpAny_bind (wpAny_mono (FT (Q:=fun v H'=>∃b:Bool,v = .bl b/\(b=true->Q (.bl true) H')/\(b=false->bC X.K H' l vs/\(∃dx fs,H' a=some (.ins C dx fs))/\Qy X.K C sp l a vs r H' Q)) G hm hb hr I ea eb q (fun v H' ⟨b,e,_⟩=>⟨b,e⟩)) (fun w' s' hw=> ?_) fun _ _ z=>z)
    ·obtain ⟨t,rfl,H',I',b,eb,h1,h2⟩:=hw
     cases eb;exact wpAny_truthy_bool (fin I' h1 h2)
def abO (K:PySem.W.Frag) (C:Addr) (sp:Sp):R2:=fun x y H Q=>∃(a l dx:Addr) (fs:List (Str×V)) (vs:List V),x = .ref a/\y = .ref l/\H a=some (.ins C dx fs)/\bC K H l vs/\Qy K C sp l a vs vs H Q
theorem Ru {K:PySem.W.Frag} (hK:X.K=K) (M:MethAt X.prog X.w X.K X.mg X.base k C "__eq__" ["self","other"] sp) (hs:PySem.W.subIn K (.ref C) (.type "int")=some false) (hr:cZ (k+1) X.A):oG X (compareOp .In) (abO K C sp):=by
 subst hK;intro pins s σ H x y u v Q I rx ry h;obtain ⟨f,fd,G,hm,hb⟩:=M;obtain ⟨a,l,dx,fs,vs,rfl,rfl,ea,hq,q⟩:=h;obtain rfl:u=Value.ref a:=rx;obtain rfl:v=Value.ref l:=ry;obtain ⟨its,rv,pl,hz⟩:=I.list hq
 have hT:s.TypeIs (.ref l) "list" :=by
  obtain ⟨o,n,e,c,_⟩:=pl;exact ⟨o,e,c⟩
 show wpAny _ X.A (do return Value.bool (←contains (Value.ref l) (Value.ref a))) _ _ s;refine wpAny_bind (wpAny_contains_slot hT PySem.F.slot_list_contains (wpAny_call (codeAny_call_builtin PySem.F.slot_list_contains.plain PySem.F.entry_list_contains (PySem.F.slot_list_contains.check _ _ _ _ _ _ _ _ hT (PySem.F.args_list_contains_2 _ _) ?_))));show wpAny _ _ (slotArgs "__contains__" 1 ⟨[.ref l,.ref a],[]⟩ >>= _) _ _ s;refine wpAny_bind (wpAny_pure ?_);refine wpAny_pure ⟨plainId_quiet PySem.MeetsSeq.plain_contains_loop _,codeAny_builtin PySem.MeetsSeq.entry_contains_loop ?_⟩;rw [Around.under_plainId PySem.MeetsSeq.plain_contains_loop _];refine wpAny_mono (KD (pins:=pins) (σ:=σ) (Q:=Q) G hm hb hr hs vs 0 s H rfl I hq ⟨_,_,ea⟩ q) (fun fin s' hf=> ?_) fun _ _ z=>z;cases fin with
 | done fl=>
   cases fl with
   | ret w'=>
     obtain ⟨t,H',rfl,I',q'⟩:=hf;exact wpAny_truthy_bool (wpAny_pure ⟨.bl t,H',I',rfl,q'⟩)
   | next=>exact False.elim hf
   | brk=>exact False.elim hf
   | cont=>exact False.elim hf
 | again c'=>
   refine ⟨hf.1,codeAny_mono hf.2 fun res s2 hz=> ?_⟩
   match res,hz with
   | .error ev,hz=>exact hz
   | .ok (.ret w'),hz=>
     obtain ⟨t,H',rfl,I',q'⟩:=hz;exact wpAny_truthy_bool (wpAny_pure ⟨.bl t,H',I',rfl,q'⟩)
end
end L2
set_option Elab.async false
set_option linter.all false
set_option maxRecDepth 100000
set_option maxHeartbeats 4000000
namespace L2
open PySem PySem.Spec PyProof.Rows
section
variable {X:Cx} {k:Nat} {C:Addr} {sp:Sp}
theorem U8 {pins:List (Addr×Obj)} {σ:St} {H:Hp} {s:Shared} {x:V} {u:Value} {T:String} (I:Inv X pins σ H s) (rx:RelV x u) (ty:jk X.K H x (.type T)):s.TypeIs u T:=by
 generalize ht:Value.type T=t at ty;cases ty with
 | non=>cases (show u=Value.none from rx);cases ht;rfl
 | bl y=>cases (show u=Value.bool y from rx);cases ht;rfl
 | int i=>obtain ⟨t,q⟩:=(show ∃t,u=Value.int i t from rx);cases q;cases ht;rfl
 | str y=>obtain ⟨t,q⟩:=(show ∃t,u=Value.str y t from rx);cases q;cases ht;rfl
 | flt y=>obtain ⟨t,q⟩:=(show ∃t,u=Value.float y t from rx);cases q;cases ht;rfl
 | @lst a xs ea=>
   cases (show u=Value.ref a from rx);obtain ⟨_,_,n,_,h1⟩:=(show eY X.prog X.w H s.heap a (.lst xs) from I.hok a _ ea);cases ht;exact ⟨_,h1,rfl⟩
 | @xJ a ob xs ea=>
   cases (show u=Value.ref a from rx);obtain ⟨_,_,_,n,_,h1⟩:=(show eY X.prog X.w H s.heap a (.xJ ob (.lst xs)) from I.hok a _ ea);cases ht;exact ⟨_,h1,rfl⟩
 | @tup a xs ea=>
   cases (show u=Value.ref a from rx);obtain ⟨_,_,_,o,h1,h2,_⟩:=(show eY X.prog X.w H s.heap a (.tup xs) from I.hok a _ ea);cases ht;exact ⟨_,h1,h2⟩
 | @dK a kvs ea=>
   cases (show u=Value.ref a from rx);obtain ⟨_,_,vs,_,o,es,ep,h1,h2,_⟩:=(show eY X.prog X.w H s.heap a (.dK kvs) from I.hok a _ ea);cases ht;exact ⟨_,h1,h2.1⟩
 | @dT a kvs ea=>
   cases (show u=Value.ref a from rx);obtain ⟨_,_,xs,_,o,es,ep,h1,h2,_⟩:=(show eY X.prog X.w H s.heap a (.dT kvs) from I.hok a _ ea);cases ht;exact ⟨_,h1,h2.1⟩
 | @ins a C dx fs ea cl ha hn htk hm=>cases ht
theorem uO {pins:List (Addr×Obj)} {σ:St} {H:Hp} {s:Shared} {a dx:Addr} {fs:List (Str×V)} {u:Value} {T:String} {A:Around} (I:Inv X pins σ H s) (ea:H a=some (.ins C dx fs)) (hT:s.TypeIs u T) (hs:PySem.W.subIn X.K (.ref C) (.type T)=some false)
 (t7:T = "NoneType" \/ T = "list" \/ T = "tuple" \/ T = "dict"):
 wpAny (model X.prog X.w) A (tryCompare u (cmpInfo .Eq).2.1 (.ref a)) (fun r s'=>r=none/\s'=s) X.xe s:=by
 obtain ⟨mA,O,_⟩:=eG I.hok ea;obtain ⟨od,J,_⟩:=O.look;obtain ⟨mm,Fm⟩:=I.fr;have XK:=I.mod.CQ.keeps Fm.keep;have no:PySem.W.Looks (model X.prog X.w) s.heap (isInstance (.ref a) (.type T)) false:=J.type.andThen (PySem.W.looks_subIn XK hs);rcases t7 with rfl|rfl|rfl|rfl
 ·refine wpAny_tryCompare_declines hT PySem.F.slot_NoneType_eq ?_
  refine wpAny_call_entry PySem.F.slot_NoneType_eq hT PySem.F.entry_NoneType_eq ?_ (PySem.F.args_NoneType_eq_2 _ _);show wpAny _ _ (slotArgs "__eq__" 1 ⟨[u,.ref a],[]⟩ >>= _) _ _ s;refine wpAny_bind (wpAny_pure ?_);exact wpAny_pure ⟨_,rfl,rfl,rfl,rfl⟩
 ·refine wpAny_tryCompare_declines hT PySem.F.slot_list_eq ?_
  refine wpAny_call_entry PySem.F.slot_list_eq hT PySem.F.entry_list_eq ?_ (PySem.F.args_list_eq_2 _ _);show wpAny _ _ (slotArgs "__eq__" 1 ⟨[u,.ref a],[]⟩ >>= _) _ _ s;refine wpAny_bind (wpAny_pure ?_);refine wpAny_bind (no.here ?_);exact wpAny_pure ⟨_,rfl,rfl,rfl,rfl⟩
 ·refine wpAny_tryCompare_declines hT PySem.F.slot_tuple_eq ?_
  refine wpAny_call_entry PySem.F.slot_tuple_eq hT PySem.F.entry_tuple_eq ?_ (PySem.F.args_tuple_eq_2 _ _);show wpAny _ _ (slotArgs "__eq__" 1 ⟨[u,.ref a],[]⟩ >>= _) _ _ s;refine wpAny_bind (wpAny_pure ?_);refine wpAny_bind (no.here ?_);exact wpAny_pure ⟨_,rfl,rfl,rfl,rfl⟩
 ·refine wpAny_tryCompare_declines hT PySem.F.slot_dict_eq ?_
  refine wpAny_call_entry PySem.F.slot_dict_eq hT PySem.F.entry_dict_eq ?_ (PySem.F.args_dict_eq_2 _ _);show wpAny _ _ (Builtin.Dict.dictSlotArgs "__eq__" ⟨[u,.ref a],[]⟩ >>= _) _ _ s;refine wpAny_bind ?_;unfold Builtin.Dict.dictSlotArgs;refine wpAny_bind (wpAny_notOrdered_dict hT ?_);refine wpAny_bind (wpAny_pure ?_);refine wpAny_pure ?_;refine wpAny_bind (no.here ?_);exact wpAny_bind (wpAny_rule (wpAny_pure ⟨_,rfl,rfl,rfl,rfl⟩))
theorem Lf {pins:List (Addr×Obj)} {σ:St} {H:Hp} {s:Shared} {a dx:Addr} {fs:List (Str×V)} {n:Int} {tk:Tok} {A:Around} (I:Inv X pins σ H s) (ea:H a=some (.ins C dx fs)):
 wpAny (model X.prog X.w) A (tryCompare (.int n tk) (cmpInfo .Eq).2.1 (.ref a)) (fun r s'=>r=none/\s'=s) X.xe s:=by
 obtain ⟨mA,O,_⟩:=eG I.hok ea;refine wpAny_tryCompare_declines (typeIs_int s n tk) PySem.F.slot_int_eq ?_;refine wpAny_call_entry PySem.F.slot_int_eq (typeIs_int s n tk) PySem.F.entry_int_eq ?_ (PySem.F.args_int_eq_2 _ _);show wpAny _ _ (slotArgs "__eq__" 1 ⟨[.int n tk,.ref a],[]⟩ >>= _) _ _ s;refine wpAny_bind (wpAny_pure ?_);refine wpAny_bind (m:=pure n) (wpAny_pure ?_);refine wpAny_bind (m:=asInt? (.ref a)) ?_;show wpAny _ _ (load a >>= _) _ _ s;refine wpAny_bind (wpAny_load O.obj (wpAny_pure ?_));exact wpAny_bind (wpAny_rule (wpAny_pure ⟨_,rfl,rfl,rfl,rfl⟩))
theorem O9 {pins:List (Addr×Obj)} {σ:St} {H:Hp} {s:Shared} {a dx:Addr} {fs:List (Str×V)} {b:Bool} {A:Around} (I:Inv X pins σ H s) (ea:H a=some (.ins C dx fs)):
 wpAny (model X.prog X.w) A (tryCompare (.bool b) (cmpInfo .Eq).2.1 (.ref a)) (fun r s'=>r=none/\s'=s) X.xe s:=by
 obtain ⟨mA,O,_⟩:=eG I.hok ea;have hT:s.TypeIs (.bool b) "bool" :=rfl;refine wpAny_tryCompare_declines hT PySem.F.slot_bool_eq ?_;refine wpAny_call_entry PySem.F.slot_bool_eq hT PySem.F.entry_int_eq ?_ (PySem.F.args_int_eq_2 _ _);show wpAny _ _ (slotArgs "__eq__" 1 ⟨[.bool b,.ref a],[]⟩ >>= _) _ _ s;refine wpAny_bind (wpAny_pure ?_);refine wpAny_bind (m:=pure (if b then (1:Int) else 0)) (wpAny_pure ?_);refine wpAny_bind (m:=asInt? (.ref a)) ?_;show wpAny _ _ (load a >>= _) _ _ s;refine wpAny_bind (wpAny_load O.obj (wpAny_pure ?_));exact wpAny_bind (wpAny_rule (wpAny_pure ⟨_,rfl,rfl,rfl,rfl⟩))
theorem Le {pins:List (Addr×Obj)} {σ:St} {H:Hp} {s:Shared} {a dx:Addr} {fs:List (Str×V)} {x:Str} {tk:Tok} {A:Around} (I:Inv X pins σ H s) (ea:H a=some (.ins C dx fs)):
 wpAny (model X.prog X.w) A (tryCompare (.str x tk) (cmpInfo .Eq).2.1 (.ref a)) (fun r s'=>r=none/\s'=s) X.xe s:=by
 obtain ⟨mA,O,_⟩:=eG I.hok ea;have hT:s.TypeIs (.str x tk) "str" :=rfl;refine wpAny_tryCompare_declines hT PySem.F.slot_str_eq ?_;refine wpAny_call_entry PySem.F.slot_str_eq hT PySem.F.entry_str_eq ?_ (PySem.F.args_str_eq_2 _ _);show wpAny _ _ (Builtin.Str.strSlot "__eq__" 1 ⟨[.str x tk,.ref a],[]⟩ >>= _) _ _ s;refine wpAny_bind ?_;unfold Builtin.Str.strSlot;refine wpAny_bind (wpAny_pure ?_);refine wpAny_bind (m:=pure x) (wpAny_pure ?_);refine wpAny_pure ?_;refine wpAny_bind (m:=asStr? (.ref a)) ?_;show wpAny _ _ (load a >>= _) _ _ s;refine wpAny_bind (wpAny_load O.obj (wpAny_pure ?_));exact wpAny_bind (wpAny_rule (wpAny_pure ⟨_,rfl,rfl,rfl,rfl⟩))
end
end L2
set_option Elab.async false
set_option linter.all false
set_option maxRecDepth 100000
set_option maxHeartbeats 4000000
namespace L2
open PySem PySem.Spec PyProof.Rows
section
variable {X:Cx} {k:Nat} {C:Addr} {sp:Sp}
def qR:List String:=["NoneType","bool","int","str","list","tuple","dict"]
theorem Nu {pins:List (Addr×Obj)} {σ:St} {H:Hp} {s:Shared} {Q:VK} {f:Addr} {fd:FuncData} {a dx:Addr} {fs:List (Str×V)} {y:V} {u:Value} {T:String} (G:bV X.prog X.w X.K X.mg X.base iD k f fd ["self","other"] sp) (hm:Meth X.K C "__eq__" f) (hb:Binds X.K fd ["self","other"] []) (hr:cZ (k+1) X.A)
 (hs:PySem.W.subIn X.K (.ref C) (.type T)=some false) (t7:T∈qR) (I:Inv X pins σ H s) (ea:H a=some (.ins C dx fs)) (ry:RelV y u) (ty:jk X.K H y (.type T)) (q:sp [.ref a,y] H Q E0) (Wf:∀v H',Q v H' -> ∃t:Bool,v = .bl t):
 wpAny (model X.prog X.w) X.A.in1 (richCompare .Eq u (.ref a)) (fun v s'=>∃t:Bool,v = .bool t /\ ∃H',Inv X pins σ H' s'/\Q (.bl t) H') X.xe s:=by
 obtain ⟨mA,O,_⟩:=eG I.hok ea;obtain ⟨od,J,_⟩:=O.look;obtain ⟨mm,Fm⟩:=I.fr;have XK:=I.mod.CQ.keeps Fm.keep;have hu:X.A.in1.units<cLine:=by have:=hr.Dh;omega
 have hT:=U8 I ry ty
 have one:wpAny (model X.prog X.w) X.A.in1 (tryCompare u (cmpInfo .Eq).2.1 (.ref a)) (fun r s'=>r=none/\s'=s) X.xe s:=by
  simp only [qR,List.mem_cons,List.not_mem_nil,or_false] at t7;rcases t7 with rfl|rfl|rfl|rfl|rfl|rfl|rfl
  ·exact uO I ea hT hs (.inl rfl)
  ·obtain ⟨b,rfl⟩:∃b,u=Value.bool b:=by
    generalize ht:Value.type "bool" = t at ty;cases ty with
    | bl b=>exact ⟨b,ry⟩
    | _=>exact absurd ht (by intro z;first |(injection z with z;exact absurd z (by decide))|cases z)
   exact O9 I ea
  ·obtain ⟨n,tk,rfl⟩:∃n tk,u=Value.int n tk:=by
    generalize ht:Value.type "int" = t at ty;cases ty with
    | int n=>obtain ⟨t,q⟩:=(show ∃t,u=Value.int n t from ry);exact ⟨n,t,q⟩
    | _=>exact absurd ht (by intro z;first |(injection z with z;exact absurd z (by decide))|cases z)
   exact Lf I ea
  ·obtain ⟨n,tk,rfl⟩:∃n tk,u=Value.str n tk:=by
    generalize ht:Value.type "str" = t at ty;cases ty with
    | str n=>obtain ⟨t,q⟩:=(show ∃t,u=Value.str n t from ry);exact ⟨n,t,q⟩
    | _=>exact absurd ht (by intro z;first |(injection z with z;exact absurd z (by decide))|cases z)
   exact Le I ea
  ·exact uO I ea hT hs (.inr (.inl rfl))
  ·exact uO I ea hT hs (.inr (.inr (.inl rfl)))
  ·exact uO I ea hT hs (.inr (.inr (.inr rfl)))
 have two:wpAny (model X.prog X.w) X.A.in1 (tryCompare (.ref a) (cmpInfo .Eq).2.2 u) (fun r s'=>∃t:Bool,r=some (.bool t) /\ ∃H',Inv X pins σ H' s'/\Q (.bl t) H') X.xe s:=by
  unfold tryCompare;refine wpAny_bind (PySem.W.ifBound_K XK J hm.at_ hm.fn (wpAny_mono (qK (us:=[.ref a,u]) (vs:=[.ref a,y]) G hr hb I (.cons rfl (.cons ry .nil)) q) (fun v s' hv=> ?_) fun _ _ e=>e));obtain ⟨x,H',I',rx,q'⟩:=hv;obtain ⟨t,rfl⟩:=Wf _ _ q';obtain rfl:v=Value.bool t:=rx;exact wpAny_pure ⟨t,rfl,H',I',q'⟩
 have ot:oneThing? .Eq u (.ref a)=none:=by
  cases u<;>rfl
 unfold richCompare;rw [ot];refine wpAny_holding (wpAny_bind (wpAny_cRoomFor hu ?_));refine wpAny_bind (wpAny_typeOf hT (wpAny_bind (J.type.here ?_)));rw [if_pos (by rfl)];refine wpAny_bind ((PySem.W.looks_subIn XK hs).here ?_);simp only [Bool.false_eq_true,if_false];refine wpAny_bind (wpAny_mono one (fun r s' z=> ?_) fun _ _ e=>e);obtain ⟨rfl,rfl⟩:=z;simp only [Bool.not_false,if_true];refine wpAny_bind (wpAny_mono two (fun r s' z=> ?_) fun _ _ e=>e);obtain ⟨t,rfl,H',I',q'⟩:=z;exact wpAny_pure ⟨t,rfl,H',I',q'⟩
def Qz (K:PySem.W.Frag) (C:Addr) (sp:Sp) (l a:Addr) (vs:List V):List V->Hp->VK->Prop
 | [],H,Q=>Q (.bl false) H
 | v::r,H,Q=>(v = .ref a/\Q (.bl true) H) \/
   (∃T,v ≠ .ref a/\T∈qR/\jk K H v (.type T)/\sp [.ref a,v] H (fun t H'=>∃b:Bool,t = .bl b/\(b=true->Q (.bl true) H')/\(b=false->bC K H' l vs/\(∃dx fs,H' a=some (.ins C dx fs))/\Qz K C sp l a vs r H' Q)) E0) \/
   (∃(b dy:Addr) (gs:List (Str×V)),v = .ref b/\b≠a/\H b=some (.ins C dy gs)/\sp [.ref b,.ref a] H (fun t H'=>∃b:Bool,t = .bl b/\(b=true->Q (.bl true) H')/\(b=false->bC K H' l vs/\(∃dx fs,H' a=some (.ins C dx fs))/\Qz K C sp l a vs r H' Q)) E0)
theorem KJ {pins:List (Addr×Obj)} {σ:St} {Q:VK} {f:Addr} {fd:FuncData} {a l:Addr} {vs:List V} (G:bV X.prog X.w X.K X.mg X.base iD k f fd ["self","other"] sp) (hm:Meth X.K C "__eq__" f) (hb:Binds X.K fd ["self","other"] []) (hr:cZ (k+1) X.A) (hs:∀T∈qR,PySem.W.subIn X.K (.ref C) (.type T)=some false):
 ∀(r:List V) (i:Nat) (s:Shared) (H:Hp),vs.drop i=r->Inv X pins σ H s->bC X.K H l vs->(∃dx fs,H a=some (.ins C dx fs))->Qz X.K C sp l a vs r H Q ->
  wpAny (model X.prog X.w) X.A.in1 (Builtin.«list.__contains__.loop» ⟨[.ref l,.ref a,rawInt i],[]⟩) (fun fin s'=>match fin with
   | .done fl=>(match (Except.ok fl:Result) with | .ok (.ret v)=>∃t H',v = .bool t/\Inv X pins σ H' s'/\Q (.bl t) H' | .ok _=>False | .error e=>X.xe e s')
   | .again c'=>c'.quiet=true/\codeAny (model X.prog X.w) X.A c' (fun res s'=>match res with | .ok (.ret v)=>∃t H',v = .bool t/\Inv X pins σ H' s'/\Q (.bl t) H' | .ok _=>False | .error e=>X.xe e s') s') X.xe s:=by
 intro r
 induction r with
 | nil=>
   intro i s H ed I hq ha q;obtain ⟨its,rv,⟨o,n,e,_,_,d⟩,hz⟩:=I.list hq;have hl:vs.length<=i:=List.drop_eq_nil_iff.mp ed;refine (show wpAny _ _ (Builtin.List.listItems (.ref l) >>= _) _ _ s from wpAny_bind (wpAny_listItems e d ?_))
   have hi:its.toArray[((i:Nat):Int).toNat]? = none:=by
    have:=rv.length;simp;omega
   rw [hi];exact wpAny_pure ⟨false,H,rfl,I,q⟩
 | cons v r ih=>
   intro i s H ed I hq ⟨dx,fs,ea⟩ q;obtain ⟨its,rv,⟨o,n,e,_,_,d⟩,hz⟩:=I.list hq
   have hv:vs[i]? = some v:=by
    have:(vs.drop i)[0]? = some v:=by rw [ed];rfl
    simpa using this
   have ed':vs.drop (i+1)=r:=by
    have:=congrArg (List.drop 1) ed;rw [List.drop_drop] at this;simpa using this
   obtain ⟨y,hy,ry⟩:=rv.get hv;refine (show wpAny _ _ (Builtin.List.listItems (.ref l) >>= _) _ _ s from wpAny_bind (wpAny_listItems e d ?_))
   have hi:its.toArray[((i:Nat):Int).toNat]? = some y:=by
    rw [Int.toNat_natCast,List.getElem?_toArray];exact hy
   rw [hi];have hc:((i:Int)+1)=((i+1:Nat):Int):=by push_cast;rfl
   have fin:∀{b:Bool} {H':Hp} {s':Shared},Inv X pins σ H' s'->(b=true->Q (.bl true) H')->(b=false->bC X.K H' l vs/\(∃dx fs,H' a=some (.ins C dx fs))/\Qz X.K C sp l a vs r H' Q) ->
    wpAny (model X.prog X.w) X.A.in1 (if b=true then ret (.bool true) else again (.builtin "list.__contains__.loop" ⟨[.ref l,.ref a,rawInt ((i:Int)+1)],[]⟩)) (fun fin s'=>match fin with
    | .done fl=>(match (Except.ok fl:Result) with | .ok (.ret v)=>∃t H',v = .bool t/\Inv X pins σ H' s'/\Q (.bl t) H' | .ok _=>False | .error e=>X.xe e s')
    | .again c'=>c'.quiet=true/\codeAny (model X.prog X.w) X.A c' (fun res s'=>match res with | .ok (.ret v)=>∃t H',v = .bool t/\Inv X pins σ H' s'/\Q (.bl t) H' | .ok _=>False | .error e=>X.xe e s') s') X.xe s':=fun {b H' s'} I' h1 h2=>by
    cases b with
    | true=>exact wpAny_pure ⟨true,H',rfl,I',h1 rfl⟩
    | false=>
      obtain ⟨g1,g2,g3⟩:=h2 rfl;rw [hc];refine wpAny_pure ⟨plainId_quiet PySem.MeetsSeq.plain_contains_loop _,codeAny_builtin PySem.MeetsSeq.entry_contains_loop ?_⟩;rw [Around.under_plainId PySem.MeetsSeq.plain_contains_loop _];exact ih (i+1) s' H' ed' I' g1 g2 g3
   rcases q with ⟨rfl,q⟩|⟨T,nev,t7,ty,q⟩|⟨b,dy,gs,rfl,ne,eb,q⟩
   ·obtain rfl:y=Value.ref a:=ry
    refine wpAny_bind (SeqAt.EqAt.same (.ref a) X.prog X.w _ _ ?_);exact fin (b:=true) I (fun _=>q) (fun z=>by cases z)
   ·refine wpAny_bind ?_
    unfold eqBool;refine wpAny_holding (wpAny_ite_split (fun z=>absurd (eq_of_beq z) (fun z=> ?_)) fun _=> ?_)
    ·subst z
     refine nev ?_;cases ty with
     | non=>cases (show Value.ref a=Value.none from ry)
     | bl y=>cases (show Value.ref a=Value.bool y from ry)
     | int i=>obtain ⟨t,q⟩:=(show ∃t,Value.ref a=Value.int i t from ry);cases q
     | str y=>obtain ⟨t,q⟩:=(show ∃t,Value.ref a=Value.str y t from ry);cases q
     | flt y=>obtain ⟨t,q⟩:=(show ∃t,Value.ref a=Value.float y t from ry);cases q
     | @lst b xs ea=>cases (show Value.ref a=Value.ref b from ry);rfl
     | @xJ b ob xs ea=>cases (show Value.ref a=Value.ref b from ry);rfl
     | @tup b xs ea=>cases (show Value.ref a=Value.ref b from ry);rfl
     | @dK b kvs ea=>cases (show Value.ref a=Value.ref b from ry);rfl
     | @dT b kvs ea=>cases (show Value.ref a=Value.ref b from ry);rfl
    dsimp only;split
    ·rename_i hh
     cases (Prod.mk.inj hh).2
    refine wpAny_bind (wpAny_mono (Nu (Q:=fun v H'=>∃b:Bool,v = .bl b/\(b=true->Q (.bl true) H')/\(b=false->bC X.K H' l vs/\(∃dx fs,H' a=some (.ins C dx fs))/\Qz X.K C sp l a vs r H' Q)) G hm hb hr (hs T t7) t7 I ea ry ty q (fun v H' ⟨b,e,_⟩=>⟨b,e⟩)) (fun w' s' hw=> ?_) fun _ _ z=>z);obtain ⟨t,rfl,H',I',b,eb,h1,h2⟩:=hw;cases eb;exact wpAny_truthy_bool (fin I' h1 h2)
   ·obtain rfl:y=Value.ref b:=ry
    refine wpAny_bind ?_;unfold eqBool;refine wpAny_holding (wpAny_ite_split (fun z=>absurd (by have:=eq_of_beq z;injection this) ne) fun _=> ?_);refine wpAny_bind (wpAny_mono (FT (Q:=fun v H'=>∃b:Bool,v = .bl b/\(b=true->Q (.bl true) H')/\(b=false->bC X.K H' l vs/\(∃dx fs,H' a=some (.ins C dx fs))/\Qz X.K C sp l a vs r H' Q)) G hm hb hr I ea eb q (fun v H' ⟨b,e,_⟩=>⟨b,e⟩)) (fun w' s' hw=> ?_) fun _ _ z=>z)
    ·obtain ⟨t,rfl,H',I',b,eb,h1,h2⟩:=hw
     cases eb;exact wpAny_truthy_bool (fin I' h1 h2)
def abP (K:PySem.W.Frag) (C:Addr) (sp:Sp) (neg:Bool):R2:=fun x y H Q=>∃(a l dx:Addr) (fs:List (Str×V)) (vs:List V),x = .ref a/\y = .ref l/\H a=some (.ins C dx fs)/\bC K H l vs/\Qz K C sp l a vs vs H (fun v H'=>∃t:Bool,v = .bl t/\Q (.bl (if neg then !t else t)) H')
theorem yd {K:PySem.W.Frag} (hK:X.K=K) (M:MethAt X.prog X.w X.K X.mg X.base k C "__eq__" ["self","other"] sp) (hs:∀T∈qR,PySem.W.subIn K (.ref C) (.type T)=some false) (hr:cZ (k+1) X.A):oG X (compareOp .NotIn) (abP K C sp true):=by
 subst hK;intro pins s σ H x y u v Q I rx ry h;obtain ⟨f,fd,G,hm,hb⟩:=M;obtain ⟨a,l,dx,fs,vs,rfl,rfl,ea,hq,q⟩:=h;obtain rfl:u=Value.ref a:=rx;obtain rfl:v=Value.ref l:=ry;obtain ⟨its,rv,pl,hz⟩:=I.list hq
 have hT:s.TypeIs (.ref l) "list" :=by
  obtain ⟨o,n,e,c,_⟩:=pl;exact ⟨o,e,c⟩
 show wpAny _ X.A (do return Value.bool (!(←contains (Value.ref l) (Value.ref a)))) _ _ s;refine wpAny_bind (wpAny_contains_slot hT PySem.F.slot_list_contains (wpAny_call (codeAny_call_builtin PySem.F.slot_list_contains.plain PySem.F.entry_list_contains (PySem.F.slot_list_contains.check _ _ _ _ _ _ _ _ hT (PySem.F.args_list_contains_2 _ _) ?_))));show wpAny _ _ (slotArgs "__contains__" 1 ⟨[.ref l,.ref a],[]⟩ >>= _) _ _ s;refine wpAny_bind (wpAny_pure ?_);refine wpAny_pure ⟨plainId_quiet PySem.MeetsSeq.plain_contains_loop _,codeAny_builtin PySem.MeetsSeq.entry_contains_loop ?_⟩;rw [Around.under_plainId PySem.MeetsSeq.plain_contains_loop _];refine wpAny_mono (KJ (pins:=pins) (σ:=σ) (Q:=fun v H'=>∃t:Bool,v = .bl t/\Q (.bl (if true then !t else t)) H') G hm hb hr hs vs 0 s H rfl I hq ⟨_,_,ea⟩ q) (fun fin s' hf=> ?_) fun _ _ z=>z;cases fin with
 | done fl=>
   cases fl with
   | ret w'=>
     obtain ⟨t,H',rfl,I',t',et,q'⟩:=hf;cases et;exact wpAny_truthy_bool (wpAny_pure ⟨.bl (!t),H',I',rfl,q'⟩)
   | next=>exact False.elim hf
   | brk=>exact False.elim hf
   | cont=>exact False.elim hf
 | again c'=>
   refine ⟨hf.1,codeAny_mono hf.2 fun res s2 hz=> ?_⟩
   match res,hz with
   | .error ev,hz=>exact hz
   | .ok (.ret w'),hz=>
     obtain ⟨t,H',rfl,I',t',et,q'⟩:=hz;cases et;exact wpAny_truthy_bool (wpAny_pure ⟨.bl (!t),H',I',rfl,q'⟩)
end
end L2
set_option Elab.async false
set_option linter.all false
set_option maxRecDepth 100000
set_option maxHeartbeats 4000000
namespace Prf
open PySem L2
def top (i:Nat):Stmt:=PySem.Challenge.pw_fewnotes_k14_alike_works.main.body.getD i (.Pass ⟨0,0,0,0⟩)
abbrev gw:Stmt:=top 8
abbrev fu:Stmt:=top 10
abbrev fB:Stmt:=top 11
abbrev eE:Stmt:=inClass (top 15) 0
abbrev cR:Stmt:=inClass (top 15) 1
abbrev cP:Stmt:=inClass (top 15) 2
abbrev cQ:Stmt:=inClass (top 15) 3
abbrev gB:Stmt:=inClass (top 15) 4
abbrev dJ:Stmt:=inClass (top 15) 5
abbrev d_:Stmt:=inClass (top 15) 6
abbrev cu:Stmt:=inClass (top 15) 7
abbrev bW:Stmt:=inClass (top 16) 0
abbrev dH:Stmt:=inClass (top 16) 1
abbrev cC:Stmt:=inClass (top 16) 2
abbrev cW:Stmt:=inClass (top 16) 3
abbrev cX:Stmt:=inClass (top 16) 4
abbrev dI:Stmt:=inClass (top 16) 5
abbrev cN:Stmt:=inClass (top 16) 7
abbrev dG:Stmt:=inClass (top 16) 8
abbrev cH:Stmt:=inClass (top 16) 9
abbrev cG:Stmt:=inClass (top 16) 10
abbrev cO:Stmt:=inClass (top 16) 11
abbrev cI:Stmt:=inClass (top 16) 12
abbrev cF:Stmt:=top 17
abbrev jx:Stmt:=top 19
abbrev jz:Stmt:=top 20
abbrev g_:Stmt:=top 21
abbrev gW:Stmt:=top 22
abbrev mD:Stmt:=top 23
abbrev fG:Stmt:=top 24
abbrev kJ:Stmt:=top 25
abbrev mF:Stmt:=top 26
abbrev mG:Stmt:=top 27
abbrev ig:Stmt:=top 28
abbrev jy:Stmt:=top 29
abbrev fH:Stmt:=top 31
abbrev gY:Stmt:=top 32
abbrev h_:Stmt:=top 33
abbrev jw:Stmt:=top 35
abbrev fL:Stmt:=top 36
abbrev gA:Stmt:=top 37
abbrev fK:Stmt:=top 38
abbrev fJ:Stmt:=top 39
abbrev gZ:Stmt:=top 40
abbrev d9:Stmt:=top 41
abbrev cY:Stmt:=top 42
abbrev qJ:Stmt:=top 43
structure o8 (mg:Str->Option Value):Prop where
 Yh:mg "all" = none
 TV:mg "bool" = none
 yG:mg "int" = none
 jD:mg "isinstance" = none
 gj:mg "len" = none
 fZ:mg "list" = none
 Qt:mg "max" = none
 Yg:mg "min" = none
 mO:mg "range" = none
 akf:mg "str" = none
 ake:mg "sum" = none
 aav:mg "tuple" = none
 Ye:mg "zip" = none
theorem Dv:bh ["row"] ["row"] (aD gw):=⟨rfl,rfl,rfl,by decide +kernel,rfl,by decide +kernel,by decide +kernel⟩
theorem Az:bh ["value"] ["value"] (aD fu):=⟨rfl,rfl,rfl,by decide +kernel,rfl,by decide +kernel,by decide +kernel⟩
theorem A_:bh ["value","count"] ["value","count"] (aD fB):=⟨rfl,rfl,rfl,by decide +kernel,rfl,by decide +kernel,by decide +kernel⟩
theorem zf:bh ["self","rows"] ["self","rows"] (aD eE):=⟨rfl,rfl,rfl,by decide +kernel,rfl,by decide +kernel,by decide +kernel⟩
theorem mU:bh ["self","other"] ["self"] (aD cR):=⟨rfl,rfl,rfl,by decide +kernel,rfl,by decide +kernel,by decide +kernel⟩
theorem mR:bh ["self","row"] ["self"] (aD cP):=⟨rfl,rfl,rfl,by decide +kernel,rfl,by decide +kernel,by decide +kernel⟩
theorem jo:bh ["self","done"] ["self"] (aD cQ):=⟨rfl,rfl,rfl,by decide +kernel,rfl,by decide +kernel,by decide +kernel⟩
theorem Dw:bh ["self","row"] ["self","row"] (aD gB):=⟨rfl,rfl,rfl,by decide +kernel,rfl,by decide +kernel,by decide +kernel⟩
theorem kI:bh ["self","row","left","right"] ["self","row"] (aD dJ):=⟨rfl,rfl,rfl,by decide +kernel,rfl,by decide +kernel,by decide +kernel⟩
theorem zc:bh ["self","box","number"] ["self","box","number"] (aD d_):=⟨rfl,rfl,rfl,by decide +kernel,rfl,by decide +kernel,by decide +kernel⟩
theorem gq:bh ["self","part","left","right"] ["self","part"] (aD cu):=⟨rfl,rfl,rfl,by decide +kernel,rfl,by decide +kernel,by decide +kernel⟩
theorem kE:bh ["self","program","cells","one"] ["self","program","cells"] (aD bW):=⟨rfl,rfl,rfl,by decide +kernel,rfl,by decide +kernel,by decide +kernel⟩
theorem kj:bh ["self","hand","one","touch"] ["self","hand"] (aD dH):=⟨rfl,rfl,rfl,by decide +kernel,rfl,by decide +kernel,by decide +kernel⟩
theorem d8:bh ["self","one","row","cell","read","written"] ["self","one"] (aD cC):=⟨rfl,rfl,rfl,by decide +kernel,rfl,by decide +kernel,by decide +kernel⟩
theorem vH:bh ["self"] ["self"] (aD cW):=⟨rfl,rfl,rfl,by decide +kernel,rfl,by decide +kernel,by decide +kernel⟩
theorem vI:bh ["self","hand"] ["self","hand"] (aD cX):=⟨rfl,rfl,rfl,by decide +kernel,rfl,by decide +kernel,by decide +kernel⟩
theorem xu:bh ["self","hand"] ["self","hand"] (aD dI):=⟨rfl,rfl,rfl,by decide +kernel,rfl,by decide +kernel,by decide +kernel⟩
theorem um:bh ["self"] ["self"] (aD cN):=⟨rfl,rfl,rfl,by decide +kernel,rfl,by decide +kernel,by decide +kernel⟩
theorem pC:bh ["self","other"] ["self"] (aD dG):=⟨rfl,rfl,rfl,by decide +kernel,rfl,by decide +kernel,by decide +kernel⟩
theorem rT:bh ["self","hand"] ["self","hand"] (aD cH):=⟨rfl,rfl,rfl,by decide +kernel,rfl,by decide +kernel,by decide +kernel⟩
theorem kZ:bh ["self","hands"] ["self"] (aD cG):=⟨rfl,rfl,rfl,by decide +kernel,rfl,by decide +kernel,by decide +kernel⟩
theorem uo:bh ["self","other"] ["self","other"] (aD cO):=⟨rfl,rfl,rfl,by decide +kernel,rfl,by decide +kernel,by decide +kernel⟩
theorem rW:bh ["self"] ["self"] (aD cI):=⟨rfl,rfl,rfl,by decide +kernel,rfl,by decide +kernel,by decide +kernel⟩
theorem rR:bh ["cells","count"] ["cells","count"] (aD cF):=⟨rfl,rfl,rfl,by decide +kernel,rfl,by decide +kernel,by decide +kernel⟩
theorem nA:bh ["script","stir","cell","great"] ["script"] (aD jx):=⟨rfl,rfl,rfl,by decide +kernel,rfl,by decide +kernel,by decide +kernel⟩
theorem qI:bh ["reel","many","rest","told","stir"] ["reel","many"] (aD jz):=⟨rfl,rfl,rfl,by decide +kernel,rfl,by decide +kernel,by decide +kernel⟩
theorem yc:bh ["reel","boxes","kind"] ["reel","boxes"] (aD g_):=⟨rfl,rfl,rfl,by decide +kernel,rfl,by decide +kernel,by decide +kernel⟩
theorem rY:bh ["reel","boxes","kind","one"] ["reel","boxes"] (aD gW):=⟨rfl,rfl,rfl,by decide +kernel,rfl,by decide +kernel,by decide +kernel⟩
theorem mC:bh ["reel","sizes","at","kind","ahead","box","cell","to"] ["reel","sizes","at"] (aD mD):=⟨rfl,rfl,rfl,by decide +kernel,rfl,by decide +kernel,by decide +kernel⟩
theorem fW:bh ["reel","great","many","boxes","hands","k","size"] ["reel"] (aD fG):=⟨rfl,rfl,rfl,by decide +kernel,rfl,by decide +kernel,by decide +kernel⟩
theorem Fw:bh ["boxes","told"] ["boxes","told"] (aD kJ):=⟨rfl,rfl,rfl,by decide +kernel,rfl,by decide +kernel,by decide +kernel⟩
theorem yZ:bh ["hand","row","one","other"] ["hand","row"] (aD mF):=⟨rfl,rfl,rfl,by decide +kernel,rfl,by decide +kernel,by decide +kernel⟩
theorem za:bh ["hand","rows","gone"] ["hand","rows"] (aD mG):=⟨rfl,rfl,rfl,by decide +kernel,rfl,by decide +kernel,by decide +kernel⟩
theorem oR:bh ["program","numbers","hands","rows","hand"] ["program","numbers"] (aD ig):=⟨rfl,rfl,rfl,by decide +kernel,rfl,by decide +kernel,by decide +kernel⟩
theorem jg:bh ["state","program","k","hand","row","had","put","cell"] ["state","program","k"] (aD jy):=⟨rfl,rfl,rfl,by decide +kernel,rfl,by decide +kernel,by decide +kernel⟩
theorem Ba:bh ["reel","many"] ["reel","many"] (aD fH):=⟨rfl,rfl,rfl,by decide +kernel,rfl,by decide +kernel,by decide +kernel⟩
theorem GX:bh ["program","numbers"] ["program","numbers"] (aD gY):=⟨rfl,rfl,rfl,by decide +kernel,rfl,by decide +kernel,by decide +kernel⟩
theorem GZ:bh ["program","numbers"] ["program","numbers"] (aD h_):=⟨rfl,rfl,rfl,by decide +kernel,rfl,by decide +kernel,by decide +kernel⟩
theorem vJ:bh ["one","other","mine","theirs"] ["one","other"] (aD jw):=⟨rfl,rfl,rfl,by decide +kernel,rfl,by decide +kernel,by decide +kernel⟩
theorem cV:bh ["reel","program","numbers","change","many","hands","k","place","row","turned","begun"] ["reel","program","numbers"] (aD fL):=⟨rfl,rfl,rfl,by decide +kernel,rfl,by decide +kernel,by decide +kernel⟩
theorem pX:bh ["reel","hands","order","at"] ["reel","hands"] (aD gA):=⟨rfl,rfl,rfl,by decide +kernel,rfl,by decide +kernel,by decide +kernel⟩
theorem jU:bh ["program","numbers","handed","works","rows"] ["program","numbers"] (aD fK):=⟨rfl,rfl,rfl,by decide +kernel,rfl,by decide +kernel,by decide +kernel⟩
theorem jf:bh ["program","numbers","order","emptied","works","state","k"] ["program","numbers","order","emptied"] (aD fJ):=⟨rfl,rfl,rfl,by decide +kernel,rfl,by decide +kernel,by decide +kernel⟩
theorem rZ:bh ["one","other","alike","program","none"] ["one","other","alike","program"] (aD gZ):=⟨rfl,rfl,rfl,by decide +kernel,rfl,by decide +kernel,by decide +kernel⟩
theorem dF:bh ["reel","lost","box","first","other","load","rows","stores"] ["reel"] (aD d9):=⟨rfl,rfl,rfl,by decide +kernel,rfl,by decide +kernel,by decide +kernel⟩
theorem cM:bh ["reel","program","numbers","order","turned","one","state","other","stand"] ["reel"] (aD cY):=⟨rfl,rfl,rfl,by decide +kernel,rfl,by decide +kernel,by decide +kernel⟩
theorem gO:bh ["script","reel","k","program","numbers","changed","begun","order","turned","emptied","one","state","other","stand","alike"] ["script"] (aD qJ):=⟨rfl,rfl,rfl,by decide +kernel,rfl,by decide +kernel,by decide +kernel⟩
structure eX (K:PySem.W.Frag) (C:Addr):Prop where
 cls:Cls K C
 nM:gH K C "rows"
 qO:gH K C "at"
 gQ:gH K C "in_boxes"
 jE:gH K C "sayings"
 jC:gH K C "state"
structure dD (K:PySem.W.Frag) (C:Addr):Prop where
 cls:Cls K C
 oW:gH K C "program"
 iM:gH K C "numbers"
 jZ:gH K C "hands"
 oU:gH K C "turns"
section
variable {P:Program} {w:World} {K:PySem.W.Frag} {mg:Str->Option Value} {base:Heap}
theorem Gn {α β:Type} (p:α->Bool) (g:α->β):∀l:List α,(List.range l.length).filterMap (fun i=>(l[i]?).bind fun x=>if p x then some (g x) else none)=(l.filter p).map g
 | []=>rfl
 | x::l=>by
   have ih:=Gn p g l;rw [List.length_cons,List.range_succ_eq_map,List.filterMap_cons,List.filterMap_map,List.filter_cons];cases q:p x
   ·simp [q];exact ih
   ·simp [q];exact ih
theorem j5 (x y:Int):PyData.eqv (.int x) (.int y)=decide (x=y):=by
 simp only [PyData.eqv];rw [Bool.eq_iff_iff];simp
theorem eN {H:Hp} {a:Addr} {ns:List Int} (h:H a=some (.lst (ns.map V.int))):Dat H (.ref a) (.list (ns.map PyData.int)):=lF h (bf.ints ns)
theorem shaped_ints (ns:List Int):SeqAt.shaped (.list (ns.map PyData.int))=true:=Ay PyData.int 0 (by decide) (fun _ _=>rfl) (fun _ _=>by show 0<=0;decide)
def gI (cs:List Int) (h:Int):Int:=(cs[h.toNat]?).getD 0
theorem TX {cs:List Int} {h:Int} (h0:0<=h) (h1:h<cs.length):wU (cs.map V.int) h=some (.int (gI cs h)):=by
 obtain ⟨m,rfl⟩:=Int.eq_ofNat_of_zero_le h0;have:m<cs.length:=by omega
 refine cg ?_;simp [gI,this]
theorem Gg {n:Nat} {i:Int} (h0:0<=i) (h1:i<n):BJ n i=some i.toNat:=by unfold BJ;rw [if_pos h0,if_pos h1]
def M127:Int:=170141183460469231731687303715884105727
theorem Pq:Builtin.Int.intBits M127<=127:=PySem.intBits_le_iff.mpr (by decide)
theorem Gz {t:Int} (h0:0<=t) (h1:t<M127):Builtin.Int.intBits t<=127:=PySem.intBits_le_of_natAbs (y:=M127) (by unfold M127 at h1 ⊢;omega) Pq
theorem Ko {t:Int} (h0:0<=t) (h1:t<M127):IntMulOk t t:=IntMulOk.of_le (Gz h0 h1) (Gz h0 h1) (by omega)
def dj (H:Hp) (r:Addr):Prop:=∃(g c:Addr) (gs cs:List Int) (p t:Int),H r=some (.lst [.ref g,.ref c,.int p,.int t])/\H g=some (.lst (gs.map V.int))/\H c=some (.lst (cs.map V.int))/\0<cs.length/\cs.length<=100/\gs.length<=100/\(∀x∈gs,0<=x)/\0<=p/\0<=t/\t<M127/\g≠r/\c≠r
theorem dj.keep {H H':Hp} {r:Addr} (h:dj H r) (k:Same H H'):dj H' r:=by
 obtain ⟨g,c,gs,cs,p,t,e1,e2,e3,q⟩:=h;exact ⟨g,c,gs,cs,p,t,k _ _ e1,k _ _ e2,k _ _ e3,q⟩
theorem dj.ne {H:Hp} {r p:Addr} (h:dj H r) (hp:H p=none):p≠r:=by
 obtain ⟨g,c,gs,cs,_,t,e1,_⟩:=h;exact (aB e1 hp).symm
theorem dj.at {H:Hp} {r:Addr} (h:dj H r):∃o,H r=some o:=by
 obtain ⟨g,c,gs,cs,p,t,e1,_⟩:=h;exact ⟨_,e1⟩
theorem dj.tups {H H':Hp} {r:Addr} (h:dj H r) (k:Kp r H H'):∀a xs,H a=some (HO.tup xs)->H' a=some (HO.tup xs):=by
 obtain ⟨g,c,gs,cs,p,t,e1,_⟩:=h;exact k.tups e1
def Off (H:Hp) (r x:Addr):Prop:=∀(g c:Addr) (u v:V),H r=some (.lst [.ref g,.ref c,u,v])->x≠g/\x≠c
def KR (r:Addr) (H H':Hp):Prop:=Kp r H H' /\ ∀x o,H x=some o->x≠r->Off H r x->Off H' r x
theorem KR.trans {r:Addr} {H H1 H2:Hp} (a:KR r H H1) (b:KR r H1 H2):KR r H H2:=⟨a.1.trans b.1,fun x o e n f=>b.2 x o (a.1 _ _ e n) n (a.2 x o e n f)⟩
theorem KR.tups {r:Addr} {H H':Hp} (k:KR r H H') (R:dj H r):∀a xs,H a=some (HO.tup xs)->H' a=some (HO.tup xs):=R.tups k.1
theorem KR.same {r:Addr} {H H':Hp} (R:dj H r) (k:Same H H'):KR r H H':=⟨.of_same k,fun x o e n f g c u v e2=>by
 obtain ⟨g',c',gs,cs,p,t,e1,_⟩:=R;rw [k _ _ e1] at e2;cases e2;exact f _ _ _ _ e1⟩
theorem dj.off {H:Hp} {r x:Addr} (R:dj H r) (hx:H x=none):Off H r x:=fun g c u v e=>by
 obtain ⟨g',c',gs,cs,p,t,e1,e2,e3,_⟩:=R;rw [e1] at e;cases e;exact ⟨fun z=>(by rw [z,e2] at hx;cases hx),fun z=>(by rw [z,e3] at hx;cases hx)⟩
theorem Off.same {H H':Hp} {r x:Addr} (R:dj H r) (k:Same H H') (f:Off H r x):Off H' r x:=fun g c u v e2=>by
 obtain ⟨g',c',gs,cs,p,t,e1,_⟩:=R;rw [k _ _ e1] at e2;cases e2;exact f _ _ _ _ e1
theorem dj.set {H:Hp} {r x:Addr} {o:HO} (R:dj H r) (n:x≠r) (f:Off H r x):dj (upd H x o) r:=by
 obtain ⟨g,c,gs,cs,p,t,e1,e2,e3,q⟩:=R;obtain ⟨n1,n2⟩:=f _ _ _ _ e1;exact ⟨g,c,gs,cs,p,t,by rw [aG n.symm];exact e1,by rw [aG n1.symm];exact e2,by rw [aG n2.symm];exact e3,q⟩
theorem Off.set {H:Hp} {r x y:Addr} {o:HO} (n:x≠r) (f:Off H r y):Off (upd H x o) r y:=fun g c u v e=>f g c u v (by rw [aG n.symm] at e;exact e)
theorem Kp.new {H H':Hp} {r p:Addr} (k:Kp r H H') (hp:H' p=none) (hr:∃o,H' r=some o):H p=none:=by
 cases e:H p with
 | none=>rfl
 | some o=>
   by_cases n:p=r
   ·subst n
    obtain ⟨o',ho⟩:=hr;rw [hp] at ho;cases ho
   ·rw [k _ _ e n] at hp
    cases hp
theorem zT {ns:List Int} (h:ns.length<=63):qU (ns.map V.int) none (some 63)=ns.map V.int:=by
 unfold qU;rw [HT.vK,show (some (63:Int))=some ((63:Nat):Int) from rfl,HT.zj,List.length_map,List.drop_zero,Nat.min_eq_right h,Nat.sub_zero,List.take_of_length_le (by simp)]
def yQ (K:PySem.W.Frag):Sp:=fun vs H Q _=>∃(a:Addr) (ns:List Int),vs=[.ref a]/\bC K H a (ns.map V.int)/\ns.length<=63 /\ ∀(r:Addr) (H':Hp),H r=none->dj H' r->Same H H'->Q (.ref r) H'
theorem JW {f:Addr} {fd:FuncData} (F:iY K "_law_reel" "_law_reel" jx f fd) (Bt:o8 mg):bV P w K mg base iD 1 f fd ["script"] (yQ K):=by
 refine F.ok nA (fun vs H Q E h=> ?_) (fun cdv A outer s H vs Q E hr h=> ?_)
 ·obtain ⟨a,ns,rfl,_⟩:=h
  rfl
 ·obtain ⟨a,ns,rfl,hs,hlen,k⟩:=h
  refine ⟨_,(aC (aY (i:=1) nA.nd rfl (Or.inl rfl) (bJ nJ aq aq))
   (aC (nF PassesOwn.never rfl (dB (K:=K) rfl (jh (je (K:=K) rfl) (pv 0) jX (jW aq))) (bG (i:=2) nA.nd rfl (Or.inl rfl))
   (aH (aY (i:=1) nA.nd rfl (Or.inl rfl) (bJ jL (bJ dM (bJ dM (bJ FW (pv 1) (pv 1)) (bJ jL (pv 2) aq)) aq) (bJ mH (bJ vR (bJ nJ aq aq) (bJ nJ aq aq)) aq)))))
   (aC (qL (i:=3) rfl nA.nd rfl (Or.inl rfl) (N:=["cell"]) (own:=["cell"]) (caps:=[]) (bK.of (by kernel_rfl)) (dB (K:=K) rfl (jh (je (K:=K) rfl) (pv 0) jX (jW aq))) (fun _ _ _ _=>(bG (i:=0) (show List.Nodup (["cell"]:List Str) by decide +kernel) rfl (Or.inl rfl))) (fun _ _ _ _=>(Ni (aR Qj (pv 0) (bJ nJ aq aq) (aV _)))) (fun _ _ _ _=>(bJ mH (pv 0) (bJ nJ aq aq))))
   (aH (bA (bZ (aj (pv 3) (aj (bJ sO (gK rfl (N:=["cell"]) (own:=["cell"]) (caps:=[]) (bK.of (by kernel_rfl)) (dB (K:=K) rfl (jh (je (K:=K) rfl) (pv 0) jX (jW aq))) (fun _ _ _ _=>(bG (i:=0) (show List.Nodup (["cell"]:List Str) by decide +kernel) rfl (Or.inl rfl))) (fun _ _ _ _=>eU) (fun _ _ _ _=>(bJ jL (pv 0) aq))) (bZ (aj aq au))) (aj aq (aj (pv 1) au)))))))))), ?_⟩
  refine ⟨_,_,rfl,rfl,(by show CG 3 60;exact ⟨by decide,by decide,by decide⟩), ?_⟩;refine ⟨_,rfl,_,rfl,_,_,rfl,hs,fun p hp=> ?_⟩;rw [zT hlen];have s1:=aF (o:=HO.lst (ns.map V.int)) hp;have cp1:CG 2 64:=⟨by decide,by decide,by decide⟩;have cp2:CG 2 63:=⟨by decide,by decide,by decide⟩;have cp3:CG 10 18:=⟨by decide,by decide,by decide⟩
  refine ⟨p,rfl,⟨_,bC.of ak⟩,oh (K:=K) (a:=p) (xs:=ns.map V.int) (fun i σ H2=>∃(t:Int) (v:Option V),σ=[some (.ref a),some (.int t),v,none]/\H2=upd H p (.lst (ns.map V.int))/\0<=t/\t<M127)
   ⟨_,none,rfl,rfl,by decide,by decide⟩ (fun i σ H2 _ ⟨_,_,_,e,_⟩=>by rw [e];exact bC.of ak) ?_ ?_⟩
  ·rintro i y σ H2 hi ⟨t,v,rfl,rfl,t0,t1⟩
   obtain ⟨z,rfl⟩:∃z,y=V.int z:=by
    rw [List.getElem?_map] at hi;cases e:ns[i]? with
    | none=>rw [e] at hi;cases hi
    | some z=>rw [e] at hi;exact ⟨z,(Option.some.inj hi).symm⟩
   refine ⟨_,rfl,_,rfl,_,_,rfl,rfl,Ko t0 t1,_,rfl,_,_,rfl,rfl,(by show (0:Int)<1000000000000000003;decide),_,_,rfl,rfl,_,_,rfl,rfl, ?_⟩;refine ⟨_,_,rfl,rfl,cp1,_,_,rfl,rfl,cp2,_,_,rfl,rfl,.inr ⟨by decide,by decide⟩,_,_,rfl,rfl,_,_,rfl,rfl,(by show (0:Int)<2 ^ Int.toNat 64*2 ^ Int.toNat 63 - 1;decide), ?_⟩;refine ⟨_,_,rfl,rfl, ?_, ?_⟩
   ·exact Int.emod_nonneg _ (by decide)
   ·exact Int.emod_lt_of_pos _ (by decide)
  ·rintro σ H2 ⟨t,v,rfl,rfl,t0,t1⟩
   have hs1:=s1.seq hs;refine ⟨_,rfl,_,rfl,_,_,rfl,hs1,fun p2 hp2=> ?_⟩;rw [zT hlen];have s2:=aF (o:=HO.lst (ns.map V.int)) hp2;refine ⟨p2,rfl,⟨_,bC.of ak⟩,fun D hD=> ?_⟩;refine wI (K:=K) (fun i=>(ns[i]?).bind fun z=>if decide (z≥10 ^ (18:Int).toNat) then some (V.int (z - 10 ^ (18:Int).toNat)) else none) hD (bC.of ak) (by rw [List.length_map];omega) (fun i v H3 G F hi s3 kG kF=> ?_) (fun H3 s3 e3=> ?_)
   ·rw [List.getElem?_map] at hi
    cases e:ns[i]? with
    | none=>rw [e] at hi;cases hi
    | some z=>
      rw [e] at hi;cases hi;simp only [e,Option.bind_some] at kG kF;refine ⟨_,rfl,_,_,rfl,rfl,cp3,_,_,rfl,rfl,_,rfl, ?_⟩;refine bH (fun w=> ?_) (fun w=> ?_)
      ·exact ⟨_,rfl,_,_,rfl,rfl,cp3,_,_,rfl,rfl,kF _ H3 (Same.refl _) (by rw [if_pos w])⟩
      ·exact kG H3 (Same.refl _) (by rw [if_neg w])
   rw [List.length_map,Gn (fun z:Int=>decide (z≥10 ^ (18:Int).toNat)) (fun z=>V.int (z - 10 ^ (18:Int).toNat))] at e3;have e3':H3 D=some (.lst (((ns.filter fun z=>decide (z≥10 ^ (18:Int).toNat)).map fun z=>z - 10 ^ (18:Int).toNat).map V.int)):=by rw [e3,List.map_map];rfl
   have s13:=(s1.trans s2).trans s3;refine ⟨_,rfl,_,rfl,_,rfl,_,_,rfl,s13.seq hs,fun p3 hp3=> ?_⟩;rw [zT hlen];have s4:=aF (o:=HO.lst (ns.map V.int)) hp3;refine ⟨p3,rfl,⟨_,bC.of ak⟩,fun D2 hD2=> ?_⟩;refine wI (K:=K) (fun i=>(ns[i]?).map fun z=>V.int (z % 1000003)) hD2 (bC.of ak) (by rw [List.length_map];omega) (fun i v H5 G F hi s5 kG kF=> ?_) (fun H5 s5 e5=> ?_)
   ·rw [List.getElem?_map] at hi
    cases e:ns[i]? with
    | none=>rw [e] at hi;cases hi
    | some z=>
      rw [e] at hi;cases hi;exact ⟨_,rfl,_,_,rfl,rfl,(by show (0:Int)<1000003;decide),kF _ H5 (Same.refl _) (by rw [e];rfl)⟩
   rw [List.length_map,Gm] at e5;refine ⟨(by show 1<=sizeLine;decide),fun p4 hp4=> ?_⟩;have s6:=aF (o:=HO.lst [V.int 41]) hp4;refine ⟨D2,p4,_,_,rfl,rfl,s6 _ _ e5,ak,by rw [sizeLine_eq,List.length_map];simp only [List.length_singleton];omega,fun c hc=> ?_⟩;have s7:=aF (o:=HO.lst (ns.map (fun z=>V.int (z % 1000003))++[V.int 41])) hc;have s47:=(s4.trans s5).trans (s6.trans s7);refine ⟨_,rfl,(by show 4<=sizeLine;decide),fun r hr'=> ?_⟩;have s8:=aF (o:=HO.lst [V.ref D,V.ref c,V.int 0,V.int t]) hr';have eD:=s47 _ _ e3';have RZ:D≠r:=aB eD hr';have RX:c≠r:=aB ak hr';have fl:(ns.filter fun z=>decide (z≥10 ^ (18:Int).toNat)).length<=ns.length:=List.length_filter_le _ _;refine k r _ ((s13.trans s47).free hr') ⟨D,c,_,ns.map (· % 1000003)++[41],0,t,ak,s8 _ _ eD, ?_,by simp,by simp;omega,by rw [List.length_map];omega,fun x hx=> ?_,by decide,t0,t1,RZ,RX⟩ ((s13.trans s47).trans s8)
   ·refine s8 _ _ ?_
    rw [ak,List.map_append,List.map_map];rfl
   ·obtain ⟨z,hz,rfl⟩:=List.mem_map.mp hx
    have:=of_decide_eq_true (List.mem_filter.mp hz).2;omega
def gR (K:PySem.W.Frag):Sp:=fun vs H Q _=>∃(r:Addr) (m:Int),vs=[.ref r,.int m]/\dj H r/\0<m/\m<1329227995784915872903807060280344576 /\ ∀(z:Int) (H':Hp),0<=z->z<m->dj H' r->KR r H H'->Q (.int z) H'
theorem J8 {f:Addr} {fd:FuncData} (F:iY K "_law_draw" "_law_draw" jz f fd) (Bt:o8 mg):bV P w K mg base iD 1 f fd ["reel","many"] (gR K):=by
 refine F.ok qI (fun vs H Q E h=> ?_) (fun cdv A outer s H vs Q E hr h=> ?_)
 ·obtain ⟨r,m,rfl,_⟩:=h
  rfl
 ·obtain ⟨r,m,rfl,⟨g,c,gs,cs,p,t,hR,hG,hC,c0,c1,g1,SN,p0,t0,t1,ngr,RX⟩,m0,m1,k⟩:=h
  have wj:=hr.units
  refine ⟨_,(aC (bU (aR (zy (K:=K) rfl wj) (aO (aL (K:=K) rfl) (pv 0) aq (fun _ _=>rfl)) (bZ au) (aV _)) (aC (aY (i:=2) qI.nd rfl (Or.inl rfl) (aO (aL (K:=K) rfl) (aO (aL (K:=K) rfl) (pv 0) aq (fun _ _=>rfl)) aq (fun _ _=>rfl)))
   (aC (dz (bJ sO (bJ vQ (bZ (aj (bJ Bm (pv 2) (pv 1)) au)) (b_ lG (by rfl) Bt.yG tM (aj (dY Qj (pv 2) (pv 1) (aV _)) au))) (jh (je (K:=K) rfl) (aO (aL (K:=K) rfl) (pv 0) aq (fun _ _=>rfl)) (jW aq) jX)) (fX (pv 0) aq set_list))
   (aH (bA (bJ jL (pv 2) (pv 1)))))) bB)
   (aC (dz (bJ dM (aO (aL (K:=K) rfl) (pv 0) aq (fun _ _=>rfl)) aq) (fX (pv 0) aq set_list))
   (aC (aY (i:=3) qI.nd rfl (Or.inl rfl) (aO (aL (K:=K) rfl) (aO (aL (K:=K) rfl) (pv 0) aq (fun _ _=>rfl)) (bJ jL (aO (aL (K:=K) rfl) (pv 0) aq (fun _ _=>rfl)) (bN (bF (K:=K) rfl) (by rfl) Bt.gj dR (aj (aO (aL (K:=K) rfl) (pv 0) aq (fun _ _=>rfl)) au))) (fun _ _=>rfl)))
   (aC (aY (i:=4) qI.nd rfl (Or.inl rfl) (bJ dM (bJ dM (bJ FW (aO (aL (K:=K) rfl) (pv 0) aq (fun _ _=>rfl)) (aO (aL (K:=K) rfl) (pv 0) aq (fun _ _=>rfl))) (bJ vR (bJ dM (pv 3) aq) aq)) (bJ vR (aO (aL (K:=K) rfl) (pv 0) aq (fun _ _=>rfl)) aq)))
   (aC (dz (bJ jL (pv 4) (bJ mH (bJ vR (bJ nJ aq aq) (bJ nJ aq aq)) aq)) (fX (pv 0) aq set_list))
   (aH (bA (bJ jL (bJ Bm (aO (aL (K:=K) rfl) (pv 0) aq (fun _ _=>rfl)) (bJ nJ aq aq)) (pv 1))))))))), ?_⟩
  refine ⟨_,rfl,_,_,_,_,rfl,rfl,bC.of hR,rfl,(by show 0<=sizeLine;decide),fun q hq=> ?_⟩;have s1:=aF (o:=HO.lst []) hq;have Ut:=s1 _ _ hR;have ZS:=s1 _ _ hG;have hC1:=s1 _ _ hC;refine ⟨_,_,eN ZS,eN (ns:=[]) ak,shaped_ints _,shaped_ints _,_,rfl, ?_⟩;rw [if_pos rfl,lE PyData.int j5];refine bH (fun w=> ?_) (fun _=> ?_)
  ·have w:gs≠[]:=by simpa using w
   obtain ⟨x,xs,rfl⟩:∃x xs,gs=x::xs:=by
    cases gs with
    | nil=>exact absurd rfl w
    | cons x xs=>exact ⟨x,xs,rfl⟩
   have x0:=SN x (by simp);refine ⟨_,rfl,_,_,_,_,rfl,rfl,bC.of Ut,rfl,_,_,_,_,rfl,rfl,bC.of ZS,(by show wU (V.int x::xs.map V.int) 0=some (V.int x);simp [wU,BJ]), ?_⟩;refine ⟨_,rfl,_,rfl,_,_,rfl,rfl,⟨m0,m1⟩,(by show 1<=sizeLine;decide),fun q2 hq2=> ?_⟩;have s2:=aF (o:=HO.lst [V.int (x / m)]) hq2;refine ⟨_,rfl,_,rfl,_,_,rfl,rfl,Or.inr ⟨_,rfl,q2,_,_,rfl,rfl,ak, ?_, ?_, ?_,fun q3 hq3=> ?_⟩⟩
   ·split<;>decide
   ·split<;>decide
   ·rw [sizeLine_eq];split<;>simp
   have s3:=aF (o:=HO.lst (List.replicate (if decide (x≥m)=true then (1:Int) else 0).toNat [V.int (x / m)]).flatten) hq3;have zm:=s2.trans s3;refine ⟨_,rfl,_,_,_,_,rfl,rfl,bC.of (zm _ _ Ut),rfl,_,rfl,g,_,rfl,bC.of (zm _ _ ZS),fun q4 hq4=> ?_⟩;rw [show qU ((x::xs).map V.int) (some 1) none=xs.map V.int from qT _ 1];have s4:=aF (o:=HO.lst (xs.map V.int)) hq4;have fl:(List.replicate (if decide (x≥m)=true then (1:Int) else 0).toNat [V.int (x / m)]).flatten.length<=1:=by split<;>simp
   have xl:xs.length<=100:=by have:(x::xs).length<=100:=g1;simp at this;omega
   refine ⟨q3,q4,_,_,rfl,rfl,s4 _ _ ak,ak,by rw [sizeLine_eq,List.length_map];exact Nat.le_trans (Nat.add_le_add fl xl) (by decide),fun q5 hq5=> ?_⟩;have s5:=aF (o:=HO.lst ((List.replicate (if decide (x≥m)=true then (1:Int) else 0).toNat [V.int (x / m)]).flatten++xs.map V.int)) hq5;have s25:=(zm.trans s4).trans s5;have hR5:=s25 _ _ Ut;refine ⟨_,rfl,_,_,_,_,rfl,rfl,hR5,rfl, ?_⟩;have kr:Kp r (upd (upd (upd (upd (upd H q (HO.lst [])) q2 (HO.lst [V.int (x / m)])) q3 (HO.lst (List.replicate (if decide (x≥m)=true then (1:Int) else 0).toNat [V.int (x / m)]).flatten)) q4 (HO.lst (xs.map V.int))) q5 (HO.lst ((List.replicate (if decide (x≥m)=true then (1:Int) else 0).toNat [V.int (x / m)]).flatten++xs.map V.int))) _:=Kp.set (o:= .lst [.ref q5,.ref c,.int p,.int t]);have nq5:q5≠r:=(aB ((zm.trans s4) _ _ Ut) hq5).symm
   have eq5:(List.replicate (if decide (x≥m)=true then (1:Int) else 0).toNat [V.int (x / m)]).flatten++xs.map V.int=((if decide (x≥m)=true then [x / m] else [])++xs).map V.int:=by
    split<;>simp
   refine ⟨_,rfl,_,rfl,_,_,rfl,rfl,m0, ?_⟩
   refine k _ _ (Int.emod_nonneg _ (by omega)) (Int.emod_lt_of_pos _ m0) ⟨q5,c,(if decide (x≥m)=true then [x / m] else [])++xs,cs,p,t,ak, ?_,kr _ _ (s25 _ _ hC1) RX,c0,c1, ?_,fun y hy=> ?_,p0,t0,t1,nq5,RX⟩ ⟨(Kp.of_same (s1.trans s25)).trans kr,fun y o ey ny f g' c' u v e=>by
    rw [ak] at e;cases e;exact ⟨aB ((s1.trans (zm.trans s4)) _ _ ey) hq5,(f _ _ _ _ hR).2⟩⟩
   ·refine kr _ _ ?_ nq5
    rw [ak,eq5]
   ·rw [List.length_append]
    have:(if decide (x≥m)=true then [x / m] else []).length<=1:=by split<;>simp
    have:(x::xs).length<=100:=g1;simp only [List.length_cons] at this;omega
   ·rcases List.mem_append.mp hy with hy|hy
    ·split at hy
     ·have:y=x / m:=by simpa using hy
      rw [this];exact Int.ediv_nonneg x0 (by omega)
     ·cases hy
    ·exact SN y (by simp [hy])
  ·have cp1:CG 2 64:=⟨by decide,by decide,by decide⟩
   have cp2:CG 2 63:=⟨by decide,by decide,by decide⟩;have cp4:CG 2 40:=⟨by decide,by decide,by decide⟩;refine ⟨_,rfl,_,_,_,_,rfl,rfl,bC.of Ut,rfl,_,_,rfl,rfl,_,rfl,_,_,_,_,rfl,rfl,Ut,rfl, ?_⟩;have kr:Kp r (upd H q (HO.lst [])) (upd (upd H q (HO.lst [])) r (.lst [.ref g,.ref c,.int (p+1),.int t])):=Kp.set;have SM:(upd (upd H q (HO.lst [])) r (.lst [.ref g,.ref c,.int (p+1),.int t])) r=some (.lst [.ref g,.ref c,.int (p+1),.int t]):=ak;have hC2:=kr _ _ hC1 RX;have i0:0<=(p+1) % (cs.length:Int):=Int.emod_nonneg _ (by omega);have i1:(p+1) % (cs.length:Int)<cs.length:=Int.emod_lt_of_pos _ (by omega);refine ⟨_,rfl,_,_,_,_,rfl,rfl,bC.of SM,rfl,_,rfl,_,_,_,_,rfl,rfl,bC.of SM,rfl,_,rfl,_,_,_,_,rfl,rfl,bC.of SM,rfl,c,_,rfl,.inl (bC.of hC2),_,_,rfl,rfl,by rw [List.length_map];omega,_,_,_,_,rfl,rfl,bC.of hC2,by rw [List.length_map];exact TX i0 i1, ?_⟩;generalize gI cs ((p+1) % (cs.length:Int))=told;refine ⟨_,rfl,_,_,_,_,rfl,rfl,bC.of SM,rfl,_,rfl,_,_,_,_,rfl,rfl,bC.of SM,rfl,_,_,rfl,rfl,Ko t0 t1,_,rfl,_,_,rfl,rfl,_,_,rfl,rfl,.inr ⟨by decide,by decide⟩,_,_,rfl,rfl,_,rfl,_,_,_,_,rfl,rfl,bC.of SM,rfl,_,_,rfl,rfl,.inr ⟨by decide,by decide⟩,_,_,rfl,rfl, ?_⟩;refine ⟨_,rfl,_,_,rfl,rfl,cp1,_,_,rfl,rfl,cp2,_,_,rfl,rfl,.inr ⟨by decide,by decide⟩,_,_,rfl,rfl,_,_,rfl,rfl,(by show (0:Int)<2 ^ Int.toNat 64*2 ^ Int.toNat 63 - 1;decide),_,rfl,_,_,_,_,rfl,rfl,SM,rfl, ?_⟩;refine ⟨_,rfl,_,_,_,_,rfl,rfl,bC.of ak,rfl,_,_,rfl,rfl,cp4,_,_,rfl,rfl,⟨by decide,by decide⟩,_,rfl,_,_,rfl,rfl,m0, ?_⟩
   refine k _ _ (Int.emod_nonneg _ (by omega)) (Int.emod_lt_of_pos _ m0) ⟨g,c,gs,cs,p+1,_,ak, ?_, ?_,c0,c1,g1,SN,by omega,Int.emod_nonneg _ (by decide),Int.emod_lt_of_pos _ (by decide),ngr,RX⟩ ⟨((Kp.of_same s1).trans kr).trans Kp.set,fun y o ey ny f g' c' u v e=>by
    rw [ak] at e;cases e;exact f _ _ _ _ hR⟩
   ·rw [aG ngr];exact kr _ _ ZS ngr
   ·rw [aG RX];exact hC2
def CT (i:Int) (n:Nat):Prop:=0<=i/\i<(n:Int)
instance (i:Int) (n:Nat):Decidable (CT i n):=inferInstanceAs (Decidable (_/\_))
def Q0 (K:PySem.W.Frag):Sp:=fun vs H Q _=>∃i:Int,vs=[.int i]/\Q (.bl true) H
theorem Bp {f:Addr} {fd:FuncData} (F:iY K "is_whole" "is_whole" fu f fd) (Bt:o8 mg):bV P w K mg base iD 1 f fd ["value"] (Q0 K):=by
 refine F.ok Az (fun vs H Q E h=> ?_) (fun cdv A outer s H vs Q E hr h=> ?_)
 ·obtain ⟨i,rfl,_⟩:=h
  rfl
 ·obtain ⟨i,rfl,k⟩:=h
  refine ⟨_,(aH (bA (sJ (bN (o7 (K:=K) (cv:= .ty "int") (c:= .type "int") rfl rfl) (by rfl) Bt.jD i_ (aj (pv 0) (aj (zu (v:= .ty "int") (by rfl) Bt.yG tM rfl) au))) (sG (JG (bN (o7 (K:=K) (cv:= .ty "bool") (c:= .type "bool") rfl rfl) (by rfl) Bt.jD i_ (aj (pv 0) (aj (zu (v:= .ty "bool") (by rfl) Bt.TV Pk rfl) au)))))))), ?_⟩;refine ⟨_,rfl,_,_,true,rfl,.int i,BL K,true,rfl, ?_⟩;refine iR ?_;exact ⟨_,rfl,_,_,false,rfl,.int i,zJ K,false,rfl,k⟩
def uL (K:PySem.W.Frag):Sp:=fun vs H Q _=>∃(i:Int) (n:Nat),vs=[.int i,.int n]/\Q (.bl (decide (CT i n))) H
theorem Bq {f:Addr} {fd:FuncData} (F:iY K "is_below" "is_below" fB f fd) (Ez:FnAt P w K mg base 1 "is_whole" ["value"] (Q0 K)):bV P w K mg base iD 2 f fd ["value","count"] (uL K):=by
 refine F.ok A_ (fun vs H Q E h=> ?_) (fun cdv A outer s H vs Q E hr h=> ?_)
 ·obtain ⟨i,n,rfl,_⟩:=h
  rfl
 ·obtain ⟨i,n,rfl,k⟩:=h
  refine ⟨_,(aH (bA (sJ (bD Ez (hr.mono (by decide)) (by rfl) (aj (pv 0) au)) (sG (JM VB iG aq (pv 0) (pv 1)))))), ?_⟩;refine ⟨_,rfl,i,rfl,true,rfl, ?_⟩;refine iR ?_;refine ⟨_,rfl,_,_,rfl,rfl,_,rfl, ?_⟩;refine bH (fun h0=> ?_) (fun h0=> ?_)
  ·refine ⟨_,rfl,_,_,rfl,rfl, ?_⟩
   have e:decide (CT i n)=decide (i<(n:Int)):=by
    have h0:=of_decide_eq_true h0;rw [Bool.eq_iff_iff,decide_eq_true_iff,decide_eq_true_iff];exact ⟨fun z=>z.2,fun z=>⟨h0,z⟩⟩
   show Q (.bl (decide (i<(n:Int)))) H;rw [←e];exact k
  ·have e:decide (CT i n)=false:=decide_eq_false fun z=>h0 (decide_eq_true z.1)
   rw [←e];exact k
def hF (r:Addr) (n:Int) (b sy:Addr) (st:Str):List (Str×V):=[("rows",.ref r),("at",.int n),("in_boxes",.ref b),("sayings",.ref sy),("state",.str st)]
structure m5 where
 (h hx r b sy:Addr)
structure mQ (CH:Addr) (H:Hp) (A:m5) (s:aX):Prop where
 h:H A.h=some (.ins CH A.hx (hF A.r s.pos A.b A.sy s.st))
 b:H A.b=some (.lst (s.bs.map V.int))
 y:H A.sy=some (.lst (s.sy.map V.int))
 tY:A.b≠A.sy
 bl:s.bs.length=8
def KH (A:m5) (H H':Hp):Prop:=∀x o,H x=some o->x≠A.h->x≠A.b->x≠A.sy->H' x=some o
theorem KH.of_same {A:m5} {H H':Hp} (k:Same H H'):KH A H H':=fun x o e _ _ _=>k _ _ e
theorem KH.trans {A:m5} {H H1 H2:Hp} (a:KH A H H1) (b:KH A H1 H2):KH A H H2:=fun x o e n1 n2 n3=>b x o (a x o e n1 n2 n3) n1 n2 n3
theorem KH.gM {A:m5} {H:Hp} {o:HO}:KH A H (upd H A.h o):=fun x u e n _ _=>by rw [aG n];exact e
theorem KH.vD {A:m5} {H:Hp} {o:HO}:KH A H (upd H A.b o):=fun x u e _ n _=>by rw [aG n];exact e
theorem KH.Du {A:m5} {H:Hp} {o:HO}:KH A H (upd H A.sy o):=fun x u e _ _ n=>by rw [aG n];exact e
theorem mQ.zF {CH:Addr} {H:Hp} {A:m5} {s:aX} (c:mQ CH H A s):A.h≠A.b:=cj c.h c.b (by intro z;cases z)
theorem mQ.Ak {CH:Addr} {H:Hp} {A:m5} {s:aX} (c:mQ CH H A s):A.h≠A.sy:=cj c.h c.y (by intro z;cases z)
theorem mQ.same {CH:Addr} {H H':Hp} {A:m5} {s:aX} (c:mQ CH H A s) (k:Same H H'):mQ CH H' A s:=⟨k _ _ c.h,k _ _ c.b,k _ _ c.y,c.tY,c.bl⟩
theorem mQ.tup {CH:Addr} {H H':Hp} {A:m5} {s:aX} (c:mQ CH H A s) (k:KH A H H'):∀x xs,H x=some (.tup xs)->H' x=some (.tup xs):=fun x xs e=>k _ _ e (cj e c.h (by intro z;cases z)) (cj e c.b (by intro z;cases z)) (cj e c.y (by intro z;cases z))
theorem mQ.gM {CH:Addr} {H:Hp} {A:m5} {s:aX} (c:mQ CH H A s) (n:Nat) (st:Str):mQ CH (upd H A.h (.ins CH A.hx (hF A.r n A.b A.sy st))) A {s with pos:=n,st:=st}:=
 ⟨ak,by rw [aG c.zF.symm];exact c.b,by rw [aG c.Ak.symm];exact c.y,c.tY,c.bl⟩
theorem mQ.vD {CH:Addr} {H:Hp} {A:m5} {s:aX} (c:mQ CH H A s) (bs:List Int) (l:bs.length=8):mQ CH (upd H A.b (.lst (bs.map V.int))) A {s with bs:=bs}:=
 ⟨by rw [aG c.zF];exact c.h,ak,by rw [aG c.tY.symm];exact c.y,c.tY,l⟩
theorem mQ.Du {CH:Addr} {H:Hp} {A:m5} {s:aX} (c:mQ CH H A s) (ys:List Int):mQ CH (upd H A.sy (.lst (ys.map V.int))) A {s with sy:=ys}:=
 ⟨by rw [aG c.Ak];exact c.h,by rw [aG c.tY];exact c.b,ak,c.tY,c.bl⟩
theorem vM (r b sy:Addr) (n m:Int) (st:Str):dg "at" (.int m) (hF r n b sy st)=hF r m b sy st:=by rfl
theorem zq (r b sy:Addr) (n:Int) (st st':Str):dg "state" (.str st') (hF r n b sy st)=hF r n b sy st':=by rfl
theorem Gk (n:Nat):(List.range n).filterMap (fun _=>some (V.int 0))=(List.replicate n 0).map V.int:=by
 induction n with
 | zero=>rfl
 | succ n ih=>rw [j4,ih,List.replicate_succ',List.map_append];rfl
theorem oY {H H':Hp} {o p:Addr} (h:Kp o H H') (ne:p≠o) (n:H' p=none):H p=none:=by
 cases e:H p with
 | none=>rfl
 | some u=>rw [h _ _ e ne] at n;cases n
theorem Yd:∀b:Fin 8,Builtin.Str.occurrences (Str.ofString "abcdefgh") (qt b.val) 0 (Str.ofString "abcdefgh").length 1=[b.val]:=by decide +kernel
theorem tK {b:Nat} (h:b<8):Builtin.Str.occurrences (Str.ofString "abcdefgh") (qt b) 0 (Str.ofString "abcdefgh").length 1=[b]:=Yd ⟨b,h⟩
def uJ (CH:Addr) (K:PySem.W.Frag):Sp:=fun vs H Q _=>∃(a r dx:Addr),vs=[.ref a,.ref r]/\H a=some (.ins CH dx []) /\ ∀(b sy:Addr) (H':Hp),H b=none->H sy=none->b≠sy ->
 H' a=some (.ins CH dx (hF r 0 b sy "waits"))->H' b=some (.lst ((List.replicate 8 0).map V.int))->H' sy=some (.lst [])->Kp a H H'->Q .non H'
theorem J0 {aA:Addr} {f:Addr} {fd:FuncData} (F:iY K "__init__" "Hand.__init__" eE f fd) (aJ:eX K aA) (gC:Gv mg "BOXES" (.str "abcdefgh")):bV P w K mg base iD 1 f fd ["self","rows"] (uJ aA K):=by
 refine F.ok zf (fun vs H Q E h=> ?_) (fun cdv A outer s H vs Q E hr h=> ?_)
 ·obtain ⟨a,r,dx,rfl,_⟩:=h
  rfl
 ·obtain ⟨a,r,dx,rfl,ha,k⟩:=h
  refine ⟨_,(aC (dX (K:=K) rfl (pv 0) (pv 1) rfl)
   (aC (dX (K:=K) rfl (pv 0) aq rfl)
   (aC (dX (K:=K) rfl (pv 0) (gK rfl (N:=["box"]) (own:=["box"]) (caps:=[]) (bK.of (by kernel_rfl)) (Rk (jY (by rfl) gC.choose_spec.1 gC.choose_spec.2)) (fun _ _ _ _=>(bG (i:=0) (show List.Nodup (["box"]:List Str) by decide +kernel) rfl (Or.inl rfl))) (fun _ _ _ _=>eU) (fun _ _ _ _=>aq)) rfl)
   (aC (dX (K:=K) rfl (pv 0) (bZ au) rfl)
   (aH (dX (K:=K) rfl (pv 0) aW rfl)))))), ?_⟩
  refine ⟨_,rfl,_,rfl,a,aA,dx,[],rfl,ha,aJ.cls,aJ.nM,by decide, ?_⟩;refine ⟨_,rfl,a,aA,dx,_,rfl,ak,aJ.cls,aJ.qO,(by show 1<1000;decide), ?_⟩;refine ⟨_,rfl,fun D hD=> ?_⟩;refine HY (fun _=>some (.int 0)) hD (by decide) (fun i c H1 G F hi s1 kG kF=>kF _ H1 (Same.refl _) rfl) (fun H1 s1 e1=> ?_);rw [Gk] at e1;refine ⟨_,rfl,a,aA,dx,_,rfl,s1 _ _ ak,aJ.cls,aJ.gQ,(by show 2<1000;decide), ?_⟩;have Um:a≠D:=aB ak hD;refine ⟨(by show 0<=sizeLine;decide),fun q hq=> ?_⟩;have Ul:a≠q:=aB ak hq;refine ⟨_,rfl,a,aA,dx,_,rfl,(by rw [aG Ul];exact ak),aJ.cls,aJ.jE,(by show 3<1000;decide), ?_⟩;refine ⟨_,rfl,a,aA,dx,_,rfl,ak,aJ.cls,aJ.jC,(by show 4<1000;decide), ?_⟩;have Oz:H D=none:=by rw [aG Um.symm,aG Um.symm] at hD;exact hD
  have nDq:D≠q:=by
   intro e;rw [←e,aG Um.symm,e1] at hq;cases hq
  have hq0:H q=none:=by
   rw [aG Ul.symm] at hq;cases e:H q with
   | none=>rfl
   | some o=>
     have:=s1 q o (by rw [aG Ul.symm,aG Ul.symm];exact e);rw [this] at hq;cases hq
  refine k D q _ Oz hq0 nDq ?_ ?_ ?_ ?_
  ·rw [ak];rfl
  ·rw [aG Um.symm,aG Um.symm,aG nDq,aG Um.symm,e1];rfl
  ·rw [aG Ul.symm,aG Ul.symm,ak]
  ·intro x o e n
   have nq:x≠q:=aB e hq0;rw [aG n,aG n,aG nq,aG n];exact s1 x o (by rw [aG n,aG n];exact e)
theorem Cr {x:V} {l:List V}:wU (x::l) 0=some x:=cg (j:=0) rfl
theorem Yi {x y z:V} {l:List V}:wU (x::y::z::l) 2=some z:=cg (j:=2) rfl
def Ca (r:Rw):V:=if touch r then .int (uf r) else .non
def qG (K:PySem.W.Frag):Sp:=fun vs H Q _=>∃(v:V) (r:Rw),vs=[v]/\Dat H v (gD r) /\ ∀H',Same H H'->Q (Ca r) H'
theorem Hu {f:Addr} {fd:FuncData} (F:iY K "cell_of" "cell_of" gw f fd):bV P w K mg base iD 1 f fd ["row"] (qG K):=by
 refine F.ok Dv (fun vs H Q E h=> ?_) (fun cdv A outer s H vs Q E hr h=> ?_)
 ·obtain ⟨v,r,rfl,_⟩:=h
  rfl
 ·obtain ⟨v,r,rfl,d,k⟩:=h
  obtain ⟨t,ws,rfl,ht,ps⟩:=ug d
  refine ⟨_,(aC (bU (aR cT (aO (aU (K:=K) rfl) (pv 0) aq (fun _ _=>rfl)) aW (aV _)) (aH (bA (aO (aU (K:=K) rfl) (pv 0) aq (fun _ _=>rfl)))) bB)
   (aH (bA (jK (aR (pZ (K:=K) rfl) (aO (aU (K:=K) rfl) (pv 0) aq (fun _ _=>rfl)) (bR (aj aW (aj aW au))) (by with_unfolding_all rfl)) (aO (aU (K:=K) rfl) (pv 0) aq (fun _ _=>rfl)) gG)))), ?_⟩
  have cs:(∃c e,r = .store c e) \/ ∃(x:Str) (ys:List V),ws = .str x::ys/\x≠Str.ofString "store" /\ (x=Str.ofString "load" \/ x=Str.ofString "swap" -> ∃y z,ys=y :: .int (uf r)::z/\touch r=true)/\(x≠Str.ofString "load" -> x≠Str.ofString "swap" -> touch r=false):=by
   cases r with
   | store c e=>exact .inl ⟨c,e,rfl⟩
   | load b c=>exact .inr ⟨_,_,ps,by decide +kernel,fun _=>⟨_,_,rfl,rfl⟩,fun z=>absurd rfl z⟩
   | swap b c e=>
     obtain ⟨x,e1,_⟩:=ps;exact .inr ⟨_,_,e1,by decide +kernel,fun _=>⟨_,_,rfl,rfl⟩,fun _ z=>absurd rfl z⟩
   | o_ b e=>
     obtain ⟨x,e1,_⟩:=ps;exact .inr ⟨_,_,e1,by decide +kernel,fun z=>absurd z (by decide +kernel),fun _ _=>rfl⟩
   | say e=>
     obtain ⟨x,e1,_⟩:=ps;exact .inr ⟨_,_,e1,by decide +kernel,fun z=>absurd z (by decide +kernel),fun _ _=>rfl⟩
   | go n=>exact .inr ⟨_,_,ps,by decide +kernel,fun z=>absurd z (by decide +kernel),fun _ _=>rfl⟩
   | mX q e f n=>
     obtain ⟨x,y,e1,_⟩:=ps;exact .inr ⟨_,_,e1,by decide +kernel,fun z=>absurd z (by decide +kernel),fun _ _=>rfl⟩
  rcases cs with ⟨c,e,rfl⟩|⟨x,ys,rfl,nx,h1,h2⟩
  ·obtain ⟨x,rfl,_⟩:=ps
   refine ⟨_,rfl,_,_,_,_,rfl,rfl,cA.of ht,rfl,rfl,_,rfl, ?_⟩;refine bH (fun _=> ?_) (fun z=>absurd (decide_eq_true rfl) z);exact ⟨_,rfl,_,_,_,_,rfl,rfl,cA.of ht,rfl,k H (Same.refl _)⟩
  refine ⟨_,rfl,_,_,_,_,rfl,rfl,cA.of ht,Cr,rfl,_,rfl, ?_⟩;refine bH (fun z=>absurd (by simpa using of_decide_eq_true z) nx) (fun _=> ?_);refine ⟨_,rfl,_,_,_,_,rfl,rfl,cA.of ht,Cr,(by show 2<=sizeLine;decide),fun p hp=> ?_⟩;have sp:=aF (o:=HO.tup [V.str (Str.ofString "load"),V.str (Str.ofString "swap")]) hp;refine ⟨p,_,rfl,.inr (cA.of ak),rfl,rfl,_,rfl, ?_⟩
  by_cases z:x=Str.ofString "load" \/ x=Str.ofString "swap"
  ·obtain ⟨y,w',rfl,tr⟩:=h1 z
   refine bH (fun _=> ?_) (fun q=>absurd ?_ q)
   ·refine ⟨_,rfl,_,_,_,_,rfl,rfl,cA.of (sp _ _ ht),Yi, ?_⟩
    have:=k _ sp;unfold Ca at this;rw [if_pos tr] at this;exact this
   ·rcases z with rfl|rfl<;>decide +kernel
  ·have n1:x≠Str.ofString "load" :=fun q=>z (.inl q)
   have n2:x≠Str.ofString "swap" :=fun q=>z (.inr q);have tr:=h2 n1 n2;refine bH (fun q=>absurd q ?_) (fun _=> ?_)
   ·simp [inV,O5,n1.symm,n2.symm]
   ·have:=k _ sp
    unfold Ca at this;rw [if_neg (by rw [tr];decide)] at this;exact this
def ud:Ao->Nat
 | .one _=>1
 | .two _ _ _=>2
def qD (CH:Addr) (n:Nat) (K:PySem.W.Frag):Sp:=fun vs H Q _=>∃(A:m5) (s:aX) (v:V) (e:Ao),vs=[.ref A.h,v]/\mQ CH H A s/\Dat H v (lD e)/\pB e/\ud e<=n/\Q (.int (vx s.bs e)) H
theorem NK {aA:Addr} {f:Addr} {fd:FuncData} (F:iY K "value_of" "Hand.value_of" cu f fd):bV P w K mg base iD 1 f fd ["self","part"] (qD aA 0 K):=by
 refine F.ok gq (fun vs H Q E h=> ?_) (fun cdv A outer s H vs Q E hr h=> ?_)
 ·obtain ⟨A,s,v,e,rfl,_,_,_,z,_⟩:=h
  cases e<;>simp [ud] at z
 ·obtain ⟨A,s,v,e,rfl,_,_,_,z,_⟩:=h
  cases e<;>simp [ud] at z
theorem FZ {aA:Addr} {n:Nat} {f:Addr} {fd:FuncData} (F:iY K "value_of" "Hand.value_of" cu f fd) (cB:MethAt P w K mg base (n+1) aA "value_of" ["self","part"] (qD aA n K)) (aJ:eX K aA) (gC:Gv mg "BOXES" (.str "abcdefgh")) (iC:Gv mg "ROUND" (.int 1000)):bV P w K mg base iD (n+1+1) f fd ["self","part"] (qD aA (n+1) K):=by
 refine F.ok gq (fun vs H Q E h=> ?_) (fun cdv A outer s H vs Q E hr h=> ?_)
 ·obtain ⟨A,s,v,e,rfl,_⟩:=h
  rfl
 ·obtain ⟨B,z,v,e,rfl,c,d,eo,dp,k⟩:=h
  refine ⟨_,(aC (bU (aR cT (aO (aU (K:=K) rfl) (pv 1) aq (fun _ _=>rfl)) aW (aV _)) (aH (bA (bJ jL (aO (aU (K:=K) rfl) (pv 1) aq (fun _ _=>rfl)) (jY (by rfl) iC.choose_spec.1 iC.choose_spec.2)))) bB)
   (aC (bU (aR cT (aO (aU (K:=K) rfl) (pv 1) aq (fun _ _=>rfl)) aW (aV _)) (aH (bA (aO (aL (K:=K) rfl) (bI (K:=K) rfl (pv 0) rfl) (sI (K:=K) rfl PySem.F.plainAttrs_str PySem.F.slot_str_index PySem.F.type_str_index lC (jY (by rfl) gC.choose_spec.1 gC.choose_spec.2) (aj (aO (aU (K:=K) rfl) (pv 1) aq (fun _ _=>rfl)) au)) (fun _ _=>rfl)))) bB)
   (aC (aY (i:=2) gq.nd rfl (Or.inl rfl) (dN cB aJ.cls (hr.mono (Nat.le_refl _)) (pv 0) (aj (aO (aU (K:=K) rfl) (pv 1) aq (fun _ _=>rfl)) au)))
   (aC (aY (i:=3) gq.nd rfl (Or.inl rfl) (dN cB aJ.cls (hr.mono (Nat.le_refl _)) (pv 0) (aj (aO (aU (K:=K) rfl) (pv 1) aq (fun _ _=>rfl)) au)))
   (aH (bA (bJ jL (jK (aR cT (aO (aU (K:=K) rfl) (pv 1) aq (fun _ _=>rfl)) aW (aV _)) (bJ dM (pv 2) (pv 3)) (bJ mH (pv 2) (pv 3))) (jY (by rfl) iC.choose_spec.1 iC.choose_spec.2)))))))), ?_⟩
  match e,d,eo,dp,k with
  | .one (.num m),d,eo,dp,k=>
    obtain ⟨t,rfl,ht⟩:=GD (x:= .num m) d;refine ⟨_,rfl,_,_,_,_,rfl,rfl,cA.of ht,rfl,rfl,_,rfl, ?_⟩;refine bH (fun _=> ?_) (fun z=>absurd (decide_eq_true rfl) z);exact ⟨_,rfl,_,_,_,_,rfl,rfl,cA.of ht,rfl,_,_,rfl,rfl,(by show (0:Int)<1000;decide),k⟩
  | .one (.box b),d,eo,dp,k=>
    obtain ⟨t,rfl,ht⟩:=GD (x:= .box b) d;refine ⟨_,rfl,_,_,_,_,rfl,rfl,cA.of ht,rfl,rfl,_,rfl, ?_⟩;refine bH (fun z=>absurd (of_decide_eq_true z) (by decide)) (fun _=> ?_);refine ⟨_,rfl,_,_,_,_,rfl,rfl,cA.of ht,rfl,rfl,_,rfl, ?_⟩;refine bH (fun _=> ?_) (fun z=>absurd (decide_eq_true rfl) z);have hb:b<8:=eo;refine ⟨_,rfl,B.h,aA,B.hx,_,_,rfl,c.h,aJ.cls,aJ.gQ,rfl,rfl,_,rfl,_,_,_,_,rfl,rfl,cA.of ht,rfl,_,_,b,[],rfl,rfl,tK hb,_,_,_,_,rfl,rfl,bC.of c.b,cg (v:= .int ((z.bs[b]?).getD 0)) ?_,k⟩;have hl:b<z.bs.length:=by rw [c.bl];exact hb
    rw [List.getElem?_map,List.getElem?_eq_getElem hl];rfl
  | .two p x y,d,eo,dp,k=>
    obtain ⟨t,u,w',rfl,ht,du,dw⟩:=LC d;have e1:pB (.one x)/\pB (.one y):=eo
    have dn:1<=n:=by
     have:2<=n+1:=dp;omega
    have np:∀q:Bool,(Str.ofString "number")≠(if q then Str.ofString "plus" else Str.ofString "minus"):=by decide +kernel
    have nb:∀q:Bool,(Str.ofString "box")≠(if q then Str.ofString "plus" else Str.ofString "minus"):=by decide +kernel
    refine ⟨_,rfl,_,_,_,_,rfl,rfl,cA.of ht,rfl,rfl,_,rfl, ?_⟩;refine bH (fun z=>absurd (by simpa using (of_decide_eq_true z).symm) (np p)) (fun _=> ?_);refine ⟨_,rfl,_,_,_,_,rfl,rfl,cA.of ht,rfl,rfl,_,rfl, ?_⟩;refine bH (fun z=>absurd (by simpa using (of_decide_eq_true z).symm) (nb p)) (fun _=> ?_);refine ⟨_,rfl,B.h,B.hx,_,rfl,c.h,rfl,_,rfl,_,_,_,_,rfl,rfl,cA.of ht,rfl,B,z,u,.one x,rfl,c,du,e1.1,dn, ?_⟩;refine ⟨_,rfl,B.h,B.hx,_,rfl,c.h,rfl,_,rfl,_,_,_,_,rfl,rfl,cA.of ht,rfl,B,z,w',.one y,rfl,c,dw,e1.2,dn, ?_⟩;refine ⟨_,rfl,_,_,_,_,rfl,rfl,cA.of ht,rfl,rfl,_,rfl, ?_⟩;cases p with
    | true=>
      refine bH (fun _=> ?_) (fun z=>absurd (decide_eq_true rfl) z);exact ⟨_,rfl,_,rfl,_,_,rfl,rfl,_,_,rfl,rfl,(by show (0:Int)<1000;decide),k⟩
    | false=>
      refine bH (fun z=>absurd (of_decide_eq_true z) (by decide)) (fun _=> ?_);exact ⟨_,rfl,_,rfl,_,_,rfl,rfl,_,_,rfl,rfl,(by show (0:Int)<1000;decide),k⟩
theorem ur (e:Ao):ud e<=2:=by cases e<;>simp [ud]
def yU (CH:Addr) (K:PySem.W.Frag):Sp:=fun vs H Q _=>∃(A:m5) (s:aX) (v:V) (q:Bool) (e f:Ao) (n:Nat),vs=[.ref A.h,v]/\mQ CH H A s/\Dat H v (gD (.mX q e f n))/\pB e/\pB f/\Q (.bl (jq s.bs (.mX q e f n))) H
theorem JZ {aA:Addr} {f:Addr} {fd:FuncData} (F:iY K "holds" "Hand.holds" dJ f fd) (cB:MethAt P w K mg base 3 aA "value_of" ["self","part"] (qD aA 2 K)) (aJ:eX K aA):bV P w K mg base iD 4 f fd ["self","row"] (yU aA K):=by
 refine F.ok kI (fun vs H Q E h=> ?_) (fun cdv A outer s H vs Q E hr h=> ?_)
 ·obtain ⟨A,s,v,q,e,f,n,rfl,_⟩:=h
  rfl
 ·obtain ⟨B,z,v,q,e,f,n,rfl,c,d,o1,o2,k⟩:=h
  refine ⟨_,(aC (aY (i:=2) kI.nd rfl (Or.inl rfl) (dN cB aJ.cls (hr.mono (by decide)) (pv 0) (aj (aO (aU (K:=K) rfl) (pv 1) aq (fun _ _=>rfl)) au)))
   (aC (aY (i:=3) kI.nd rfl (Or.inl rfl) (dN cB aJ.cls (hr.mono (by decide)) (pv 0) (aj (aO (aU (K:=K) rfl) (pv 1) aq (fun _ _=>rfl)) au)))
   (aH (bA (jK (aR cT (aO (aU (K:=K) rfl) (pv 1) aq (fun _ _=>rfl)) aW (aV _)) (dY cT (pv 2) (pv 3) (aV _)) (dY iG (pv 2) (pv 3) (aV _))))))), ?_⟩
  obtain ⟨t,ws,rfl,ht,x,y,rfl,dx,dy⟩:=ug d;refine ⟨_,rfl,B.h,B.hx,_,rfl,c.h,rfl,_,rfl,_,_,_,_,rfl,rfl,cA.of ht,rfl,B,z,x,e,rfl,c,dx,o1,ur e, ?_⟩;refine ⟨_,rfl,B.h,B.hx,_,rfl,c.h,rfl,_,rfl,_,_,_,_,rfl,rfl,cA.of ht,rfl,B,z,y,f,rfl,c,dy,o2,ur f, ?_⟩;refine ⟨_,rfl,_,_,_,_,rfl,rfl,cA.of ht,rfl,rfl,_,rfl, ?_⟩;cases q with
  | true=>
    refine bH (fun _=> ?_) (fun z=>absurd (decide_eq_true rfl) z);refine ⟨_,rfl,_,rfl,rfl, ?_⟩
    have:decide (V.int (vx z.bs e)=V.int (vx z.bs f))=jq z.bs (.mX true e f n):=by
     show _=decide (vx z.bs e=vx z.bs f);rw [Bool.eq_iff_iff,decide_eq_true_iff,decide_eq_true_iff];exact ⟨fun z=>V.int.inj z,fun z=>by rw [z]⟩
    rw [this];exact k
  | false=>
    refine bH (fun z=>absurd (of_decide_eq_true z) (by decide)) (fun _=> ?_);exact ⟨_,rfl,_,rfl,_,_,rfl,rfl,k⟩
def yO (CH:Addr) (K:PySem.W.Frag):Sp:=fun vs H Q _=>∃(A:m5) (s:aX) (b:Nat) (i:Int),vs=[.ref A.h,.str (qt b),.int i]/\mQ CH H A s/\b<8/\Q .non (upd H A.b (.lst ((s.bs.set b i).map V.int)))
theorem NT {aA:Addr} {f:Addr} {fd:FuncData} (F:iY K "take" "Hand.take" d_ f fd) (aJ:eX K aA) (gC:Gv mg "BOXES" (.str "abcdefgh")):bV P w K mg base iD 1 f fd ["self","box","number"] (yO aA K):=by
 refine F.ok zc (fun vs H Q E h=> ?_) (fun cdv A outer s H vs Q E hr h=> ?_)
 ·obtain ⟨A,s,b,i,rfl,_⟩:=h
  rfl
 ·obtain ⟨B,z,b,i,rfl,c,hb,k⟩:=h
  refine ⟨_,(aH (dz (pv 2) (fX (bI (K:=K) rfl (pv 0) rfl) (sI (K:=K) rfl PySem.F.plainAttrs_str PySem.F.slot_str_index PySem.F.type_str_index lC (jY (by rfl) gC.choose_spec.1 gC.choose_spec.2) (aj (pv 1) au)) set_list))), ?_⟩;refine ⟨_,rfl,_,rfl,B.h,aA,B.hx,_,_,rfl,c.h,aJ.cls,aJ.gQ,rfl,rfl,_,rfl,_,_,b,[],rfl,rfl,tK hb, ?_⟩;rw [List.map_set] at k;exact ⟨B.b,_,_,b,rfl,rfl,c.b,(by rw [List.length_map,c.bl];unfold BJ;rw [if_pos (by omega),if_pos (by omega)];simp),k⟩
def Q5 (CH:Addr) (K:PySem.W.Frag):Sp:=fun vs H Q _=>∃(A:m5) (s:aX) (v:V) (r:Rw) (m:Nat),vs=[.ref A.h,v]/\mQ CH H A s/\Dat H v (gD r)/\o9 m r/\touch r=false/\s.sy.length<1000000 /\ ∀H',mQ CH H' A (jN s r)->KH A H H'->Q .non H'
theorem VG {aA:Addr} {f:Addr} {fd:FuncData} (F:iY K "do" "Hand.do" gB f fd) (cB:MethAt P w K mg base 3 aA "value_of" ["self","part"] (qD aA 2 K)) (oJ:MethAt P w K mg base 1 aA "take" ["self","box","number"] (yO aA K)) (Ai:MethAt P w K mg base 4 aA "holds" ["self","row"] (yU aA K)) (aJ:eX K aA):bV P w K mg base iD 5 f fd ["self","row"] (Q5 aA K):=by
 refine F.ok Dw (fun vs H Q E h=> ?_) (fun cdv A outer s H vs Q E hr h=> ?_)
 ·obtain ⟨A,s,v,r,m,rfl,_⟩:=h
  rfl
 ·obtain ⟨B,z,v,r,m,rfl,c,d,ro,tr,sl,k⟩:=h
  refine ⟨_,(aC (vN (K:=K) rfl (pv 0) aq Eh)
   (aH (bU (aR cT (aO (aU (K:=K) rfl) (pv 1) aq (fun _ _=>rfl)) aW (aV _)) (aH (dh (dN oJ aJ.cls (hr.mono (by decide)) (pv 0) (aj (aO (aU (K:=K) rfl) (pv 1) aq (fun _ _=>rfl)) (aj (dN cB aJ.cls (hr.mono (by decide)) (pv 0) (aj (aO (aU (K:=K) rfl) (pv 1) aq (fun _ _=>rfl)) au)) au))))) (aH (bU (aR cT (aO (aU (K:=K) rfl) (pv 1) aq (fun _ _=>rfl)) aW (aV _)) (aH (dh (gP (K:=K) rfl (bI (K:=K) rfl (pv 0) rfl) (aj (dN cB aJ.cls (hr.mono (by decide)) (pv 0) (aj (aO (aU (K:=K) rfl) (pv 1) aq (fun _ _=>rfl)) au)) au)))) (aH (bU (PW.pt (vL (aR cT (aO (aU (K:=K) rfl) (pv 1) aq (fun _ _=>rfl)) aW (aV _)) (sE (pY (nD (dN Ai aJ.cls (hr.mono (by decide)) (pv 0) (aj (pv 1) au))))))) (aH (dX (K:=K) rfl (pv 0) (aO (aU (K:=K) rfl) (pv 1) (JF Di aq) (fun _ _=>rfl)) rfl)) bB))))))), ?_⟩
  refine ⟨_,rfl,B.h,aA,B.hx,_,_,rfl,c.h,aJ.cls,aJ.qO,rfl,_,_,rfl,rfl,B.hx,_,c.h,(by show 5<1000;decide), ?_⟩;rw [vM];have c1:=c.gM (z.pos+1) z.st;have k1:KH B H (upd H B.h (.ins aA B.hx (hF B.r ((z.pos+1:Nat):Int) B.b B.sy z.st))):=KH.gM;have d1:=d.keep (c.tup k1) _ (p8 r);dsimp only;rw [show ((z.pos:Nat):Int)+1=((z.pos+1:Nat):Int) by omega];generalize (upd H B.h (.ins aA B.hx (hF B.r ((z.pos+1:Nat):Int) B.b B.sy z.st)))=H1 at c1 k1 d1 ⊢;obtain ⟨t,ws,rfl,ht,ps⟩:=ug d1;cases r with
  | load b cc=>cases tr
  | store cc e=>cases tr
  | swap b cc e=>cases tr
  | o_ b e=>
    obtain ⟨x,rfl,dx⟩:=ps;refine ⟨_,rfl,_,_,_,_,rfl,rfl,cA.of ht,rfl,rfl,_,rfl, ?_⟩;refine bH (fun _=> ?_) (fun z=>absurd (decide_eq_true rfl) z);refine ⟨_,rfl,B.h,B.hx,_,rfl,c1.h,rfl,_,rfl,_,_,_,_,rfl,rfl,cA.of ht,rfl,_,rfl,B.h,B.hx,_,rfl,c1.h,rfl,_,rfl,_,_,_,_,rfl,rfl,cA.of ht,rfl,B,_,x,e,rfl,c1,dx,ro.2,ur e, ?_⟩;exact ⟨B,_,b,_,rfl,c1,ro.1,k _ (c1.vD _ (by rw [List.length_set];exact c1.bl)) (k1.trans KH.vD)⟩
  | say e=>
    obtain ⟨x,rfl,dx⟩:=ps;refine ⟨_,rfl,_,_,_,_,rfl,rfl,cA.of ht,rfl,rfl,_,rfl, ?_⟩;refine bH (fun z=>absurd (of_decide_eq_true z) (by decide)) (fun _=> ?_);refine ⟨_,rfl,_,_,_,_,rfl,rfl,cA.of ht,rfl,rfl,_,rfl, ?_⟩;refine bH (fun _=> ?_) (fun z=>absurd (decide_eq_true rfl) z);refine ⟨_,rfl,B.h,aA,B.hx,_,_,rfl,c1.h,aJ.cls,aJ.jE,rfl,.inl ⟨rfl,_,bC.of c1.y⟩,_,rfl,B.h,B.hx,_,rfl,c1.h,rfl,_,rfl,_,_,_,_,rfl,rfl,cA.of ht,rfl,B,_,x,e,rfl,c1,dx,ro,ur e, ?_⟩;refine ⟨_,_,_,rfl,rfl,c1.y,(by rw [List.length_map,sizeLine_eq];show z.sy.length<_;omega), ?_⟩;have:=k _ (c1.Du (z.sy++[vx z.bs e])) (k1.trans KH.Du);rw [List.map_append] at this;exact this
  | go n=>
    obtain rfl:=ps;refine ⟨_,rfl,_,_,_,_,rfl,rfl,cA.of ht,rfl,rfl,_,rfl, ?_⟩;refine bH (fun z=>absurd (of_decide_eq_true z) (by decide)) (fun _=> ?_);refine ⟨_,rfl,_,_,_,_,rfl,rfl,cA.of ht,rfl,rfl,_,rfl, ?_⟩;refine bH (fun z=>absurd (of_decide_eq_true z) (by decide)) (fun _=> ?_);refine ⟨_,rfl,_,_,_,_,rfl,rfl,cA.of ht,rfl,rfl,_,rfl, ?_⟩;refine bH (fun _=> ?_) (fun z=>absurd (decide_eq_true rfl) z);refine iR ?_;refine ⟨_,rfl,_,rfl,_,_,_,_,rfl,rfl,cA.of ht,rfl,_,rfl,B.h,aA,B.hx,_,rfl,c1.h,aJ.cls,aJ.qO,(by show 5<1000;decide), ?_⟩;rw [vM];exact k _ (c1.gM n z.st) (k1.trans KH.gM)
  | mX q e f n=>
    obtain ⟨x,y,rfl,dx,dy⟩:=ps;refine ⟨_,rfl,_,_,_,_,rfl,rfl,cA.of ht,rfl,rfl,_,rfl, ?_⟩;refine bH (fun z=>absurd (of_decide_eq_true z) (by decide)) (fun _=> ?_);refine ⟨_,rfl,_,_,_,_,rfl,rfl,cA.of ht,rfl,rfl,_,rfl, ?_⟩;refine bH (fun z=>absurd (of_decide_eq_true z) (by decide)) (fun _=> ?_);refine ⟨_,rfl,_,_,_,_,rfl,rfl,cA.of ht,rfl,rfl,_,rfl, ?_⟩;refine bH (fun z=>absurd (of_decide_eq_true z) (by decide)) (fun _=> ?_);refine ⟨_,rfl,B.h,B.hx,_,rfl,c1.h,rfl,_,rfl,B,_,_,q,e,f,n,rfl,c1,d1,ro.1,ro.2,_,rfl, ?_⟩;cases hh:jq z.bs (.mX q e f n) with
    | true=>
      refine fM ?_;refine k _ ?_ k1;show mQ aA H1 B {z with pos:=if jq z.bs (.mX q e f n) then z.pos+1 else n};rw [hh];exact c1
    | false=>
      refine iR ?_;refine ⟨_,rfl,_,rfl,_,_,_,_,rfl,rfl,cA.of ht,rfl,_,rfl,B.h,aA,B.hx,_,rfl,c1.h,aJ.cls,aJ.qO,(by show 5<1000;decide), ?_⟩;rw [vM];refine k _ ?_ (k1.trans KH.gM);show mQ aA _ B {z with pos:=if jq z.bs (.mX q e f n) then z.pos+1 else n};rw [hh];exact c1.gM n z.st
def cJ (H:Hp) (r:Addr) (m:Nat) (rws:List Rw):Prop:=∃ts,H r=some (.lst ts)/\bf H ts (rws.map gD)/\(∀x∈rws,o9 m x)/\rws.length<=1000
theorem nZ (rws:List Rw):sU (rws.map gD)=true:=vZ gD p8 rws
theorem cJ.keep {H H':Hp} {r:Addr} {m:Nat} {rws:List Rw} (h:cJ H r m rws) (k:∀o,H r=some o->H' r=some o) (t:∀x xs,H x=some (.tup xs)->H' x=some (.tup xs)):cJ H' r m rws:=by
 obtain ⟨ts,e,d,q⟩:=h;exact ⟨ts,k _ e,d.keep t _ (nZ rws),q⟩
theorem cJ.same {H H':Hp} {r:Addr} {m:Nat} {rws:List Rw} (h:cJ H r m rws) (k:Same H H'):cJ H' r m rws:=h.keep (fun o e=>k _ _ e) k.tups
def yS (CH:Addr) (K:PySem.W.Frag):Sp:=fun vs H Q _=>∃(A:m5) (s:aX) (m:Nat),vs=[.ref A.h]/\mQ CH H A s/\cJ H A.r m s.rws/\A.r≠A.b/\A.r≠A.sy/\s.sy.length<900000 /\ ∀H',mQ CH H' A (lead s)->KH A H H'->Q .non H'
theorem Oc {aA:Addr} {f:Addr} {fd:FuncData} (F:iY K "lead_on" "Hand.lead_on" cQ f fd) (tW:FnAt P w K mg base 1 "cell_of" ["row"] (qG K)) (Im:MethAt P w K mg base 5 aA "do" ["self","row"] (Q5 aA K)) (aJ:eX K aA) (fV:Gv mg "MOST_UNTOUCHING" (.int 60)) (Bt:o8 mg):bV P w K mg base iD 6 f fd ["self"] (yS aA K):=by
 refine F.ok jo (fun vs H Q E h=> ?_) (fun cdv A outer s H vs Q E hr h=> ?_)
 ·obtain ⟨A,s,m,rfl,_⟩:=h
  rfl
 ·obtain ⟨B,s,m,rfl,c,R,RQ,Uh,sl,k⟩:=h
  refine ⟨_,(aC (aY (i:=1) jo.nd rfl (Or.inl rfl) aq)
   (aC (Bk PassesOwn.never (PW.pt (jJ (aR iG (bI (K:=K) rfl (pv 0) rfl) (bN (bF (K:=K) rfl) (by rfl) Bt.gj dR (aj (bI (K:=K) rfl (pv 0) rfl) au)) (aV _)) (iZ (aR zA (bD tW (hr.mono (by decide)) (by rfl) (aj (aO (aL (K:=K) rfl) (bI (K:=K) rfl (pv 0) rfl) (bI (K:=K) rfl (pv 0) rfl) (fun _ _=>rfl)) au)) gG (aV _))))) (aC (bU (aR cT (pv 1) (jY (by rfl) fV.choose_spec.1 fV.choose_spec.2) (aV _)) (aC (dX (K:=K) rfl (pv 0) aW rfl)
   (aH Nj)) bB)
   (aC (dh (dN Im aJ.cls (hr.mono (by decide)) (pv 0) (aj (aO (aL (K:=K) rfl) (bI (K:=K) rfl (pv 0) rfl) (bI (K:=K) rfl (pv 0) rfl) (fun _ _=>rfl)) au)))
   (aH (Ri (i:=1) jo.nd rfl (Or.inl rfl) aq Eh)))))
   (aH (dX (K:=K) rfl (pv 0) (jK (aR iG (bI (K:=K) rfl (pv 0) rfl) (bN (bF (K:=K) rfl) (by rfl) Bt.gj dR (aj (bI (K:=K) rfl (pv 0) rfl) au)) (aV _)) aW aW) rfl)))), ?_⟩
  have Ui:B.r≠B.h:=by
   obtain ⟨ts,e,_⟩:=R;exact cj e c.h (by intro z;cases z)
  refine ⟨fun n σ H1=>∃(d:Nat) (z:aX),σ=[some (.ref B.h),some (.int d)]/\d<=60/\n=60 - d/\mQ aA H1 B z/\KH B H H1/\led (60 - d) z=lead s/\z.rws=s.rws/\z.sy.length<=s.sy.length+d,
   ⟨60,0,s,rfl,by decide,rfl,c,KH.of_same (Same.refl _),rfl,rfl,Nat.le_refl _⟩,fun n σ H1 hσ=> ?_⟩
  obtain ⟨d,z,rfl,d60,rfl,c1,k1,hl,zr,zs⟩:=hσ
  have R1:cJ H1 B.r m z.rws:=by
   rw [zr];exact R.keep (fun o e=>k1 _ _ e Ui RQ Uh) (c.tup k1)
  obtain ⟨ts,hts,xK,ro,rl⟩:=R1;have ln:ts.length=z.rws.length:=by rw [xK.length,List.length_map]
  refine ⟨_,rfl,B.h,aA,B.hx,_,_,rfl,c1.h,aJ.cls,aJ.qO,rfl,_,rfl,B.h,aA,B.hx,_,_,rfl,c1.h,aJ.cls,aJ.nM,rfl,B.r,_,rfl,.inl (bC.of hts),_,_,rfl,rfl,_,rfl, ?_⟩;cases er:z.rws[z.pos]? with
  | none=>
    have ge:z.rws.length<=z.pos:=List.getElem?_eq_none_iff.mp er;have lf:¬decide (((z.pos:Nat):Int)<((ts.length:Nat):Int))=true:=by rw [ln];simp;omega
    refine bH (fun q=>absurd q lf) (fun _=> ?_);refine fM ?_;refine ⟨_,rfl,B.h,aA,B.hx,_,_,rfl,c1.h,aJ.cls,aJ.qO,rfl,_,rfl,B.h,aA,B.hx,_,_,rfl,c1.h,aJ.cls,aJ.nM,rfl,B.r,_,rfl,.inl (bC.of hts),_,_,rfl,rfl,_,rfl, ?_⟩;refine bH (fun q=>absurd q lf) (fun _=> ?_);refine ⟨_,rfl,B.h,aA,B.hx,_,rfl,c1.h,aJ.cls,aJ.jC,(by show 5<1000;decide), ?_⟩;rw [zq];refine k _ ?_ (k1.trans KH.gM)
    have:lead s={z with st:= "ends" }:=by
     rw [←hl];cases e60:60 - d<;>simp only [led,er]
    rw [this];exact c1.gM z.pos "ends"
  | some r=>
    have lt:z.pos<z.rws.length:=(List.getElem?_eq_some_iff.mp er).1;have lT:decide (((z.pos:Nat):Int)<((ts.length:Nat):Int))=true:=by rw [ln];simp;omega
    obtain ⟨v,ev,dv⟩:=xK.getD (i:=z.pos) (d:=gD r) (by rw [List.getElem?_map,er];rfl);refine bH (fun _=> ?_) (fun q=>absurd lT q);refine ⟨_,rfl,B.h,aA,B.hx,_,_,rfl,c1.h,aJ.cls,aJ.nM,rfl,_,rfl,B.h,aA,B.hx,_,_,rfl,c1.h,aJ.cls,aJ.qO,rfl,_,_,_,_,rfl,rfl,bC.of hts,cg ev,v,r,rfl,dv,fun H2 s2=>⟨rfl,_,rfl, ?_⟩⟩;have c2:=c1.same s2;have HF:=s2 _ _ hts;have k2:=k1.trans (KH.of_same (A:=B) s2);cases tr:touch r with
    | true=>
      refine bH (fun q=>absurd (of_decide_eq_true q) (by unfold Ca;rw [if_pos tr];intro z;cases z)) (fun _=> ?_);refine ⟨_,rfl,B.h,aA,B.hx,_,_,rfl,c2.h,aJ.cls,aJ.qO,rfl,_,rfl,B.h,aA,B.hx,_,_,rfl,c2.h,aJ.cls,aJ.nM,rfl,B.r,_,rfl,.inl (bC.of HF),_,_,rfl,rfl,_,rfl, ?_⟩;refine bH (fun _=> ?_) (fun q=>absurd lT q);refine ⟨_,rfl,B.h,aA,B.hx,_,rfl,c2.h,aJ.cls,aJ.jC,(by show 5<1000;decide), ?_⟩;rw [zq];refine k _ ?_ (k2.trans KH.gM)
      have:lead s={z with st:= "waits" }:=by
       rw [←hl];cases e60:60 - d<;>simp only [led,er,tr,if_true]
      rw [this];exact c2.gM z.pos "waits"
    | false=>
      refine bH (fun _=> ?_) (fun q=>absurd (decide_eq_true (by unfold Ca;rw [if_neg (by rw [tr];decide)])) q);refine ⟨fun σ' H'=>∃m',m'<60 - d /\ ∃(d:Nat) (z:aX),σ'=[some (.ref B.h),some (.int d)]/\d<=60/\m'=60 - d/\mQ aA H' B z/\KH B H H'/\led (60 - d) z=lead s/\z.rws=s.rws/\z.sy.length<=s.sy.length+d,fun _ _ q=>q, ?_⟩;refine ⟨_,rfl,rfl,_,rfl, ?_⟩
      by_cases e6:d=60
      ·subst e6
       refine bH (fun _=> ?_) (fun q=>absurd (decide_eq_true rfl) q);refine ⟨_,rfl,B.h,aA,B.hx,_,rfl,c2.h,aJ.cls,aJ.jC,(by show 5<1000;decide), ?_⟩;rw [zq];refine k _ ?_ (k2.trans KH.gM)
       have:lead s={z with st:= "lost" }:=by
        rw [←hl];show led 0 z=_;simp only [led,er,tr];rfl
       rw [this];exact c2.gM z.pos "lost"
      ·refine bH (fun q=>absurd (by have:=V.int.inj (of_decide_eq_true q);omega) e6) (fun _=> ?_)
       refine ⟨_,rfl,B.h,B.hx,_,rfl,c2.h,rfl,_,rfl,B.h,aA,B.hx,_,_,rfl,c2.h,aJ.cls,aJ.nM,rfl,_,rfl,B.h,aA,B.hx,_,_,rfl,c2.h,aJ.cls,aJ.qO,rfl,_,_,_,_,rfl,rfl,bC.of HF,cg ev,B,z,v,r,m,rfl,c2,dv.same s2 _,ro r (List.mem_of_getElem? er),tr,by omega,fun H3 c3 k3=> ?_⟩;refine ⟨_,rfl,_,_,rfl,rfl,60 - (d+1),by omega,d+1,jN z r,rfl,by omega,rfl,c3,k2.trans k3, ?_,by rw [sX,zr], ?_⟩
       ·rw [←hl,show 60 - d=(60 - (d+1))+1 by omega]
        simp only [led,er,tr];rfl
       ·have:=wD z r
        omega
def wF (pg nb hs tn:Addr):List (Str×V):=[("program",.ref pg),("numbers",.ref nb),("hands",.ref hs),("turns",.ref tn)]
def p7 (m:Int) (ns:List Int):Prop:=(ns.length:Int)=m /\ ∀x∈ns,0<=x/\x<1000
def pW (CN:Addr) (K:PySem.W.Frag):Sp:=fun vs H Q E=>∃(cl:Addr) (m:Int) (ns:List Int),vs=[.ref cl,.int m]/\H cl=some (.lst (ns.map V.int))/\ns.length<=100/\(p7 m ns -> ∀H',Same H H'->Q .non H')/\(¬p7 m ns -> ∀H',Same H H'->E (.ref CN) none H')
theorem Br {f:Addr} {fd:FuncData} (F:iY K "check_numbers" "check_numbers" cF f fd) (qp:FnAt P w K mg base 2 "is_below" ["value","count"] (uL K)) (iC:Gv mg "ROUND" (.int 1000)) (Bt:o8 mg) {aZ:Addr} (iW:Xr K mg aZ "NoNumber"):bV P w K mg base (rC P w) 3 f fd ["cells","count"] (pW aZ K):=by
 refine F.RL rR (fun vs H Q E h=> ?_) (fun cdv A outer s H vs Q E hr h hR=> ?_)
 ·obtain ⟨cl,m,ns,rfl,_⟩:=h
  rfl
 ·obtain ⟨cl,m,ns,rfl,hc,nl,k1,k2⟩:=h
  refine ⟨_,(aC (bU (PW.pt (vL (pY (nD (bN (o7 (K:=K) (cv:= .ty "list") (c:= .type "list") rfl rfl) (by rfl) Bt.jD i_ (aj (pv 0) (aj (zu (v:= .ty "list") (by rfl) Bt.fZ eO rfl) au))))) (sE (aR qN (bN (bF (K:=K) rfl) (by rfl) Bt.gj dR (aj (pv 0) au)) (pv 1) (aV _))))) (aH (qM PySem.F.excBase_ValueError iW.ex iW.bd (by rfl) rfl rfl hR (aj aW au))) bB)
   (aH (bU (pY (nD (bN (ux (K:=K) rfl rfl) (by rfl) Bt.Yh TF (aj (gK rfl (N:=["number"]) (own:=["number"]) (caps:=[]) (bK.of (by kernel_rfl)) (dB (K:=K) rfl (pv 0)) (fun _ _ _ _=>(bG (i:=0) (show List.Nodup (["number"]:List Str) by decide +kernel) rfl (Or.inl rfl))) (fun _ _ _ _=>eU) (fun _ _ _ _=>(bD qp (hr.mono (by decide)) (by rfl) (aj (pv 0) (aj (jY (by rfl) iC.choose_spec.1 iC.choose_spec.2) au))))) au)))) (aH (qM PySem.F.excBase_ValueError iW.ex iW.bd (by rfl) rfl rfl hR (aj aW au))) bB))), ?_⟩
  refine ⟨_,rfl,_,_,true,rfl,.lst hc,xH K,true,rfl, ?_⟩;refine fM ?_;refine ⟨_,rfl,cl,_,rfl,.inl (bC.of hc),_,rfl,rfl,_,rfl, ?_⟩;rw [List.length_map]
  by_cases el:(ns.length:Int)=m
  rotate_left
  ·refine bH (fun _=> ?_) (fun z=>absurd (by simp [el]) z)
   exact ⟨(by show 1<=sizeLine;decide),k2 (fun z=>el z.1) H (Same.refl _)⟩
  refine BK (by rw [el]) ?_;refine ⟨_,rfl,cl,rfl,⟨_,bC.of hc⟩,fun D hD=> ?_⟩;refine wI (K:=K) (fun i=>(ns[i]?).map fun x=>V.bl (decide (CT x 1000))) hD (bC.of hc) (by rw [List.length_map];omega) (fun i v H2 G F hi s2 kG kF=> ?_) (fun H2 s2 e2=> ?_)
  ·rw [List.getElem?_map] at hi
   cases ei:ns[i]? with
   | none=>rw [ei] at hi;cases hi
   | some z=>
     rw [ei] at hi;cases hi;exact ⟨_,rfl,z,1000,rfl,kF _ H2 (Same.refl _) (by rw [ei];rfl)⟩
  rw [List.length_map,Gm] at e2;refine ⟨D,ns.map (fun x=>decide (CT x 1000)),rfl,bC.of (by rw [e2,List.map_map];rfl),_,rfl, ?_⟩
  by_cases al:∀x∈ns,CT x 1000
  ·have ea:(ns.map (fun x=>decide (CT x 1000))).all id=true:=by
    rw [List.all_map,List.all_eq_true];intro h hh;exact decide_eq_true (al h hh)
   rw [ea];refine fM ?_;exact k1 ⟨el,fun x hx=>al x hx⟩ H2 s2
  ·have ea:(ns.map (fun x=>decide (CT x 1000))).all id=false:=by
    rw [List.all_map,←Bool.not_eq_true,List.all_eq_true];intro z;exact al fun h hh=>of_decide_eq_true (p:=CT h 1000) (z h hh)
   rw [ea];refine iR ?_;exact ⟨(by show 1<=sizeLine;decide),k2 (fun z=>al fun x hx=>z.2 x hx) H2 s2⟩
def rN (CW CH:Addr) (K:PySem.W.Frag):Sp:=fun vs H Q _=>∃(o dx pg nb hl tn:Addr) (A:m5) (s:aX) (m:Nat) (ns:List Int) (r:Rw),vs=[.ref o,.ref A.h]/\H o=some (.ins CW dx (wF pg nb hl tn))/\H nb=some (.lst (ns.map V.int))/\ns.length=m/\mQ CH H A s/\cJ H A.r m s.rws /\
 s.rws[s.pos]? = some r/\touch r=true/\nb≠A.b/\nb≠A.sy /\
 ∀t H',H t=none->H' t=some (.tup (Dl ns s.bs r))->mQ CH H' A {s with bs:=wK ns s.bs r}->H' nb=some (.lst ((fY ns s.bs r).map V.int))->(∀x u,H x=some u->x≠nb->x≠A.b->H' x=some u)->Q (.ref t) H'
theorem DK {ao aA:Addr} {f:Addr} {fd:FuncData} (F:iY K "touch_by" "Works.touch_by" cC f fd) (tW:FnAt P w K mg base 1 "cell_of" ["row"] (qG K)) (cB:MethAt P w K mg base 3 aA "value_of" ["self","part"] (qD aA 2 K)) (oJ:MethAt P w K mg base 1 aA "take" ["self","box","number"] (yO aA K)) (aN:dD K ao) (aJ:eX K aA):bV P w K mg base iD 4 f fd ["self","one"] (rN ao aA K):=by
 refine F.ok d8 (fun vs H Q E h=> ?_) (fun cdv A outer s H vs Q E hr h=> ?_)
 ·obtain ⟨o,dx,pg,nb,hl,tn,A,s,m,ns,r,rfl,_⟩:=h
  rfl
 ·obtain ⟨o,dx,pg,nb,hl,tn,B,z,m,ns,r,rfl,ho,hnb,nl,c,R,er,tr,D_,Kh,k⟩:=h
  refine ⟨_,(aC (aY (i:=2) d8.nd rfl (Or.inl rfl) (aO (aL (K:=K) rfl) (bI (K:=K) rfl (pv 1) rfl) (bI (K:=K) rfl (pv 1) rfl) (fun _ _=>rfl)))
   (aC (aY (i:=3) d8.nd rfl (Or.inl rfl) (bD tW (hr.mono (by decide)) (by rfl) (aj (pv 2) au)))
   (aC (aY (i:=4) d8.nd rfl (Or.inl rfl) (jK (aR cT (aO (aU (K:=K) rfl) (pv 2) aq (fun _ _=>rfl)) aW (aV _)) gG (aO (aL (K:=K) rfl) (bI (K:=K) rfl (pv 0) rfl) (pv 3) (fun _ _=>rfl))))
   (aC (aY (i:=5) d8.nd rfl (Or.inl rfl) (jK (aR cT (aO (aU (K:=K) rfl) (pv 2) aq (fun _ _=>rfl)) aW (aV _)) gG (dN cB aJ.cls (hr.mono (by decide)) (pv 1) (aj (aO (aU (K:=K) rfl) (pv 2) (JF Di aq) (fun _ _=>rfl)) au))))
   (aC (bU (aR uN (pv 4) gG (aV _)) (aH (dh (dN oJ aJ.cls (hr.mono (by decide)) (pv 1) (aj (aO (aU (K:=K) rfl) (pv 2) aq (fun _ _=>rfl)) (aj (pv 4) au))))) bB)
   (aC (bU (aR uN (pv 5) gG (aV _)) (aH (dz (pv 5) (fX (bI (K:=K) rfl (pv 0) rfl) (pv 3) set_list))) bB)
   (aH (bA (bR (aj (aO (aU (K:=K) rfl) (pv 2) aq (fun _ _=>rfl)) (aj (pv 3) (aj (pv 4) (aj (pv 5) au))))))))))))), ?_⟩
  obtain ⟨ts,hts,xK,ro,rl⟩:=R;obtain ⟨v,ev,dv⟩:=xK.getD (i:=z.pos) (d:=gD r) (by rw [List.getElem?_map,er];rfl);have pF:=ro r (List.mem_of_getElem? er);refine ⟨_,rfl,B.h,aA,B.hx,_,_,rfl,c.h,aJ.cls,aJ.nM,rfl,_,rfl,B.h,aA,B.hx,_,_,rfl,c.h,aJ.cls,aJ.qO,rfl,_,_,_,_,rfl,rfl,bC.of hts,cg ev, ?_⟩;refine ⟨_,rfl,v,r,rfl,dv,fun H1 s1=> ?_⟩;have c1:=c.same s1;have ho1:=s1 _ _ ho;have zK:=s1 _ _ hnb;obtain ⟨t,ws,rfl,ht,ps⟩:=ug (dv.same s1 _);have nob:o≠nb:=cj ho1 zK (by intro z;cases z);have noB:o≠B.b:=cj ho1 c1.b (by intro z;cases z);have ntb:t≠B.b:=cj ht c1.b (by intro z;cases z);have ntn:t≠nb:=cj ht zK (by intro z;cases z);have cellOf:∀cc,cc<m->ns[cc]? = some ((ns[cc]?).getD 0):=fun cc h=>by rw [List.getElem?_eq_getElem (by omega)];rfl
  have cellAt:∀cc,cc<m->(ns.map V.int)[cc]? = some (.int ((ns[cc]?).getD 0)):=fun cc h=>by rw [List.getElem?_map,cellOf cc h];rfl
  have KC:∀cc,cc<m->BJ (ns.map V.int).length ((cc:Nat):Int)=some cc:=fun cc h=>by rw [List.length_map];unfold BJ;rw [if_pos (by omega),if_pos (by omega)];simp
  cases r with
  | load b cc=>
    obtain rfl:=ps;refine ⟨_,rfl,_,_,_,_,rfl,rfl,cA.of ht,rfl,rfl,_,rfl, ?_⟩;refine bH (fun z=>absurd (of_decide_eq_true z) (by decide)) (fun _=> ?_);refine ⟨_,rfl,o,ao,dx,_,_,rfl,ho1,aN.cls,aN.iM,rfl,_,rfl,_,_,_,_,rfl,rfl,bC.of zK,cg (cellAt cc pF.2), ?_⟩;refine ⟨_,rfl,_,_,_,_,rfl,rfl,cA.of ht,rfl,rfl,_,rfl, ?_⟩;refine bH (fun _=> ?_) (fun z=>absurd (decide_eq_true rfl) z);refine ⟨_,rfl,rfl,_,rfl, ?_⟩;refine iR ?_;refine ⟨_,rfl,B.h,B.hx,_,rfl,c1.h,rfl,_,rfl,_,_,_,_,rfl,rfl,cA.of ht,rfl,_,rfl,B,z,b,_,rfl,c1,pF.1, ?_⟩;refine ⟨_,rfl,rfl,_,rfl, ?_⟩;refine fM ?_;have c2:=c1.vD (z.bs.set b ((ns[cc]?).getD 0)) (by rw [List.length_set];exact c1.bl);refine ⟨_,rfl,_,_,_,_,rfl,rfl,cA.of (by rw [aG ntb];exact ht),rfl,_,rfl,_,rfl,_,rfl,(by show 4<=sizeLine;decide),fun p hp=> ?_⟩;have sp:=aF (o:=HO.tup [V.str (Str.ofString "load"),V.int cc,V.int ((ns[cc]?).getD 0),V.non]) hp;refine k p _ ?_ ?_ (c2.same sp) (sp _ _ (by rw [aG D_];exact zK)) ?_
    ·refine s1.free ?_
     have:p≠B.b:=fun e=>by rw [e,ak] at hp;cases hp
     rw [aG this] at hp;exact hp
    ·rw [ak]
     show some (HO.tup [V.str (Str.ofString "load"),V.int cc,V.int ((ns[cc]?).getD 0),V.non])=some (HO.tup [V.str (Str.ofString "load"),V.int cc,oV (ns[cc]?),V.non]);rw [cellOf cc pF.2];rfl
    ·intro x u e n1 n2
     exact sp _ _ (by rw [aG n2];exact s1 _ _ e)
  | store cc e=>
    obtain ⟨x,rfl,Tn⟩:=ps;refine ⟨_,rfl,_,_,_,_,rfl,rfl,cA.of ht,rfl,rfl,_,rfl, ?_⟩;refine bH (fun _=> ?_) (fun z=>absurd (decide_eq_true rfl) z);refine ⟨_,rfl,_,_,_,_,rfl,rfl,cA.of ht,rfl,rfl,_,rfl, ?_⟩;refine bH (fun z=>absurd (of_decide_eq_true z) (by decide)) (fun _=> ?_);refine ⟨_,rfl,B.h,B.hx,_,rfl,c1.h,rfl,_,rfl,_,rfl,_,_,_,_,rfl,rfl,cA.of ht,rfl,B,z,x,e,rfl,c1,Tn,pF.2,ur e, ?_⟩;refine ⟨_,rfl,rfl,_,rfl, ?_⟩;refine fM ?_;refine ⟨_,rfl,rfl,_,rfl, ?_⟩;refine iR ?_;refine ⟨_,rfl,_,rfl,o,ao,dx,_,_,rfl,ho1,aN.cls,aN.iM,rfl,_,rfl,nb,_,_,cc,rfl,rfl,zK,KC cc pF.1, ?_⟩;rw [←List.map_set];refine ⟨_,rfl,_,_,_,_,rfl,rfl,cA.of (by rw [aG ntn];exact ht),rfl,_,rfl,_,rfl,_,rfl,(by show 4<=sizeLine;decide),fun p hp=> ?_⟩;have sp:=aF (o:=HO.tup [V.str (Str.ofString "store"),V.int cc,V.non,V.int (vx z.bs e)]) hp;have Uj:B.h≠nb:=cj c1.h zK (by intro z;cases z);refine k p _ ?_ ak (mQ.same ⟨by rw [aG Uj];exact c1.h,by rw [aG D_.symm];exact c1.b,by rw [aG Kh.symm];exact c1.y,c1.tY,c1.bl⟩ sp) (sp _ _ ak) ?_
    ·refine s1.free ?_
     have:p≠nb:=fun e=>by rw [e,ak] at hp;cases hp
     rw [aG this] at hp;exact hp
    ·intro x u e n1 n2
     exact sp _ _ (by rw [aG n1];exact s1 _ _ e)
  | swap b cc e=>
    obtain ⟨x,rfl,Tn⟩:=ps;refine ⟨_,rfl,_,_,_,_,rfl,rfl,cA.of ht,rfl,rfl,_,rfl, ?_⟩;refine bH (fun z=>absurd (of_decide_eq_true z) (by decide)) (fun _=> ?_);refine ⟨_,rfl,o,ao,dx,_,_,rfl,ho1,aN.cls,aN.iM,rfl,_,rfl,_,_,_,_,rfl,rfl,bC.of zK,cg (cellAt cc pF.2.1), ?_⟩;refine ⟨_,rfl,_,_,_,_,rfl,rfl,cA.of ht,rfl,rfl,_,rfl, ?_⟩;refine bH (fun z=>absurd (of_decide_eq_true z) (by decide)) (fun _=> ?_);refine ⟨_,rfl,B.h,B.hx,_,rfl,c1.h,rfl,_,rfl,_,rfl,_,_,_,_,rfl,rfl,cA.of ht,rfl,B,z,x,e,rfl,c1,Tn,pF.2.2,ur e, ?_⟩;refine ⟨_,rfl,rfl,_,rfl, ?_⟩;refine iR ?_;refine ⟨_,rfl,B.h,B.hx,_,rfl,c1.h,rfl,_,rfl,_,_,_,_,rfl,rfl,cA.of ht,rfl,_,rfl,B,z,b,_,rfl,c1,pF.1, ?_⟩;refine ⟨_,rfl,rfl,_,rfl, ?_⟩;refine iR ?_;have c2:=c1.vD (z.bs.set b ((ns[cc]?).getD 0)) (by rw [List.length_set];exact c1.bl);have afA:(upd H1 B.b (.lst ((z.bs.set b ((ns[cc]?).getD 0)).map V.int))) nb=some (.lst (ns.map V.int)):=by rw [aG D_];exact zK
    refine ⟨_,rfl,_,rfl,o,ao,dx,_,_,rfl,(by rw [aG noB];exact ho1),aN.cls,aN.iM,rfl,_,rfl,nb,_,_,cc,rfl,rfl,afA,KC cc pF.2.1, ?_⟩;rw [←List.map_set];refine ⟨_,rfl,_,_,_,_,rfl,rfl,cA.of (by rw [aG ntn,aG ntb];exact ht),rfl,_,rfl,_,rfl,_,rfl,(by show 4<=sizeLine;decide),fun p hp=> ?_⟩;have sp:=aF (o:=HO.tup [V.str (Str.ofString "swap"),V.int cc,V.int ((ns[cc]?).getD 0),V.int (vx z.bs e)]) hp;have Uj:B.h≠nb:=cj c1.h zK (by intro z;cases z);refine k p _ ?_ ?_ (mQ.same ⟨by rw [aG Uj];exact c2.h,by rw [aG D_.symm];exact c2.b,by rw [aG Kh.symm];exact c2.y,c2.tY,c2.bl⟩ sp) (sp _ _ ak) ?_
    ·refine s1.free ?_
     have n1:p≠nb:=fun e=>by rw [e,ak] at hp;cases hp
     rw [aG n1] at hp;have n2:p≠B.b:=fun e=>by rw [e,ak] at hp;cases hp
     rw [aG n2] at hp;exact hp
    ·rw [ak]
     show some (HO.tup [V.str (Str.ofString "swap"),V.int cc,V.int ((ns[cc]?).getD 0),V.int (vx z.bs e)])=some (HO.tup [V.str (Str.ofString "swap"),V.int cc,oV (ns[cc]?),V.int (vx z.bs e)]);rw [cellOf cc pF.2.1];rfl
    ·intro x u e n1 n2
     exact sp _ _ (by rw [aG n1,aG n2];exact s1 _ _ e)
  | o_ b e=>cases tr
  | say e=>cases tr
  | go n=>cases tr
  | mX q e f n=>cases tr
structure xT where
 (o dx pg L nb hl tn:Addr) (rs:List Addr) (hd:List m5)
structure uG (CH:Addr) (i k m:Nat) (τ:Tg) (H:Hp) (A:m5) (s:aX):Prop where
 c:mQ CH H A s
 r:cJ H A.r m s.rws
 tr:τ A.r=[0]
 th:τ A.h=[i,4,k]
 tb:τ A.b=[i,5,k]
 ty:τ A.sy=[i,6,k]
structure j6 (CW CH:Addr) (i:Nat) (τ:Tg) (H:Hp) (W:xT) (S:jR):Prop where
 un:oF τ H
 i0:i≠0
 o:H W.o=some (.ins CW W.dx (wF W.pg W.nb W.hl W.tn))
 pg:H W.pg=some (.tup [.int S.m,.ref W.L])
 L:H W.L=some (.lst (W.rs.map V.ref))
 nb:H W.nb=some (.lst (S.ns.map V.int))
 hl:H W.hl=some (.lst (W.hd.map fun a=> .ref a.h))
 tn:H W.tn=some (.lst (S.ts.map V.int))
 to:τ W.o=[i,0]
 tb:τ W.nb=[i,1]
 tl:τ W.hl=[i,2]
 tt:τ W.tn=[i,3]
 tL:τ W.L=[0]
 rl:W.rs.length=S.hs.length
 rs:∀(k:Nat) (r:Addr) (s:aX),W.rs[k]? = some r->S.hs[k]? = some s->τ r=[0]/\cJ H r S.m s.rws
 len:W.hd.length=S.hs.length
 hd:∀(k:Nat) (A:m5) (s:aX),W.hd[k]? = some A->S.hs[k]? = some s->uG CH i k S.m τ H A s
 ok:∀s∈S.hs,rB s
 sl:∀s∈S.hs,s.sy.length<=60*(S.ts.length+1)
 nl:S.ns.length=S.m
 hn:S.hs.length<=100
section
variable {CW CH:Addr} {i:Nat} {τ τ':Tg} {H H':Hp} {W:xT} {S:jR}
theorem uG.mv {k m:Nat} {A:m5} {s:aX} (h:uG CH i k m τ H A s) (q:Mv i τ H τ' H'):uG CH i k m τ' H' A s:=by
 obtain ⟨⟨c1,c2,c3,c4,c5⟩,r,tr,th,tb,ty⟩:=h;have e1:=q.keep _ _ c1 (.inr (by rw [th];rfl));have e2:=q.keep _ _ c2 (.inr (by rw [tb];rfl));have e3:=q.keep _ _ c3 (.inr (by rw [ty];rfl));have rr:=r;obtain ⟨ts,hr,_⟩:=rr;have e4:=q.keep _ _ hr (.inl tr);exact ⟨⟨e1.1,e2.1,e3.1,c4,c5⟩,r.keep (fun o e=>(q.keep _ _ e (.inl tr)).1) q.tup,e4.2.trans tr,e1.2.trans th,e2.2.trans tb,e3.2.trans ty⟩
theorem uM {r:Addr} {m:Nat} {rws:List Rw} (h:τ r=[0]/\cJ H r m rws) (q:Mv i τ H τ' H'):τ' r=[0]/\cJ H' r m rws:=by
 obtain ⟨t,R⟩:=h;have rr:=R;obtain ⟨ts,hr,_⟩:=rr;have e4:=q.keep _ _ hr (.inl t);exact ⟨e4.2.trans t,R.keep (fun o e=>(q.keep _ _ e (.inl t)).1) q.tup⟩
theorem j6.mv (w:j6 CW CH i τ H W S) (q:Mv i τ H τ' H') (u:oF τ' H'):j6 CW CH i τ' H' W S:=by
 have e1:=q.keep _ _ w.o (.inr (by rw [w.to];rfl));have e2:=q.keep _ _ w.nb (.inr (by rw [w.tb];rfl));have e3:=q.keep _ _ w.hl (.inr (by rw [w.tl];rfl));have e4:=q.keep _ _ w.tn (.inr (by rw [w.tt];rfl));have e5:=q.keep _ _ w.L (.inl w.tL);exact ⟨u,w.i0,e1.1,q.tup _ _ w.pg,e5.1,e2.1,e3.1,e4.1,e1.2.trans w.to,e2.2.trans w.tb,e3.2.trans w.tl,e4.2.trans w.tt,e5.2.trans w.tL,w.rl,fun k r s h1 h2=>uM (w.rs k r s h1 h2) q,w.len,fun k A s h1 h2=>(w.hd k A s h1 h2).mv q,w.ok,w.sl,w.nl,w.hn⟩
theorem j6.same (w:j6 CW CH i τ H W S) (k:Same H H'):j6 CW CH i τ H' W S:=w.mv (Mv.of_same k) (w.un.same k)
theorem j6.kp {a:Addr} {o:HO} (w:j6 CW CH i τ H W S) (k:Kp a H H') (ha:H a=some o) (hn:∀xs,o ≠ .tup xs) (ht:τ a=[]) (ha':∃o',H' a=some o'):j6 CW CH i τ H' W S:=
 w.mv (Mv.VH k ha hn ht) (w.un.dom fun x e=>by
  by_cases z:x=a
  ·obtain ⟨o',h'⟩:=ha'
   rw [z,h'] at e;cases e
  ·exact oY k z e)
theorem j6.hand {k:Nat} {s:aX} (w:j6 CW CH i τ H W S) (h:S.hs[k]? = some s):∃A,W.hd[k]? = some A/\uG CH i k S.m τ H A s:=by
 have:k<W.hd.length:=by rw [w.len];exact (List.getElem?_eq_some_iff.mp h).1
 exact ⟨W.hd[k],by simp [this],w.hd k _ _ (by simp [this]) h⟩
end
def m_ (CW CH CN:Addr) (K:PySem.W.Frag):Sp:=fun vs H Q E=>∃(i:Nat) (τ:Tg) (W:xT) (S:jR) (h:Int),vs=[.ref W.o,.int h]/\j6 CW CH i τ H W S/\(∀(k:Nat) (A:m5) (s:aX),h=k->W.hd[k]? = some A->S.hs[k]? = some s->Q (.ref A.h) H)/\(¬CT h S.hs.length->E (.ref CN) none H)
theorem Hr {ao aA:Addr} {f:Addr} {fd:FuncData} (F:iY K "hand_of" "Works.hand_of" cH f fd) (qp:FnAt P w K mg base 2 "is_below" ["value","count"] (uL K)) (aN:dD K ao) (Bt:o8 mg) {bM:Addr} (qY:Xr K mg bM "NoHand"):bV P w K mg base (rC P w) 3 f fd ["self","hand"] (m_ ao aA bM K):=by
 refine F.RL rT (fun vs H Q E h=> ?_) (fun cdv A outer s H vs Q E hr h hR=> ?_)
 ·obtain ⟨i,τ,W,S,h,rfl,_⟩:=h
  rfl
 ·obtain ⟨i,τ,W,S,h,rfl,w,k1,k2⟩:=h
  refine ⟨_,(aC (bU (pY (nD (bD qp (hr.mono (by decide)) (by rfl) (aj (pv 1) (aj (bN (bF (K:=K) rfl) (by rfl) Bt.gj dR (aj (bI (K:=K) rfl (pv 0) rfl) au)) au))))) (aH (qM PySem.F.excBase_ValueError qY.ex qY.bd (by rfl) rfl rfl hR (aj aW au))) bB)
   (aH (bA (aO (aL (K:=K) rfl) (bI (K:=K) rfl (pv 0) rfl) (pv 1) (fun _ _=>rfl))))), ?_⟩
  refine ⟨_,rfl,_,rfl,W.o,ao,W.dx,_,_,rfl,w.o,aN.cls,aN.jZ,rfl,W.hl,_,rfl,.inl (bC.of w.hl),h,_,rfl,_,rfl, ?_⟩;have ll:(W.hd.map fun a=>V.ref a.h).length=S.hs.length:=by rw [List.length_map,w.len]
  by_cases hh:CT h (W.hd.map fun a=>V.ref a.h).length
  ·rw [decide_eq_true hh]
   refine fM ?_;obtain ⟨n,rfl⟩:=Int.eq_ofNat_of_zero_le hh.1;have nl:n<S.hs.length:=by have:=hh.2;rw [ll] at this;omega
   have es:S.hs[n]? = some S.hs[n]:=by simp [nl]
   obtain ⟨A,eA,_⟩:=w.hand es;exact ⟨_,rfl,W.o,ao,W.dx,_,_,rfl,w.o,aN.cls,aN.jZ,rfl,_,rfl,_,_,_,_,rfl,rfl,bC.of w.hl,cg (by rw [List.getElem?_map,eA];rfl),k1 n A _ rfl eA es⟩
  ·rw [decide_eq_false hh]
   refine iR ?_;rw [ll] at hh;exact ⟨(by show 1<=sizeLine;decide),k2 hh⟩
def uK (CW CH:Addr) (K:PySem.W.Frag):Sp:=fun vs H Q _=>∃(i:Nat) (τ:Tg) (W:xT) (S:jR),vs=[.ref W.o]/\j6 CW CH i τ H W S /\ ∀l H',H l=none->H' l=some (.lst (S.ns.map V.int))->Same H H'->Q (.ref l) H'
theorem J9 {ao aA:Addr} {f:Addr} {fd:FuncData} (F:iY K "cells" "Works.cells" cW f fd) (aN:dD K ao) (Bt:o8 mg):bV P w K mg base iD 1 f fd ["self"] (uK ao aA K):=by
 refine F.ok vH (fun vs H Q E h=> ?_) (fun cdv A outer s H vs Q E hr h=> ?_)
 ·obtain ⟨i,τ,W,S,rfl,_⟩:=h
  rfl
 ·obtain ⟨i,τ,W,S,rfl,w,k⟩:=h
  refine ⟨_,(aH (bA (b_ (bQ (K:=K) rfl) (by rfl) Bt.fZ eO (aj (bI (K:=K) rfl (pv 0) rfl) au)))), ?_⟩;exact ⟨_,rfl,W.o,ao,W.dx,_,_,rfl,w.o,aN.cls,aN.iM,rfl,W.nb,_,rfl,.inl (bC.of w.nb),fun l hl=>k l _ hl ak (aF hl)⟩
def rO (f:aX->List Int) (CW CH CN:Addr) (K:PySem.W.Frag):Sp:=fun vs H Q E=>∃(i:Nat) (τ:Tg) (W:xT) (S:jR) (h:Int),vs=[.ref W.o,.int h]/\j6 CW CH i τ H W S /\
 (∀(k:Nat) (s:aX) (l:Addr) (H':Hp),h=k->S.hs[k]? = some s->H l=none->H' l=some (.lst ((f s).map V.int))->Same H H'->Q (.ref l) H')/\(¬CT h S.hs.length->E (.ref CN) none H)
theorem J_ {ao aA bM:Addr} {f:Addr} {fd:FuncData} (F:iY K "boxes" "Works.boxes" cX f fd) (fO:jc P w K mg base 3 ao "hand_of" ["self","hand"] (m_ ao aA bM K)) (aN:dD K ao) (aJ:eX K aA) (Bt:o8 mg):bV P w K mg base (rC P w) 4 f fd ["self","hand"] (rO aX.bs ao aA bM K):=by
 refine F.RL vI (fun vs H Q E h=> ?_) (fun cdv A outer s H vs Q E hr h hR=> ?_)
 ·obtain ⟨i,τ,W,S,h,rfl,_⟩:=h
  rfl
 ·obtain ⟨i,τ,W,S,h,rfl,w,k1,k2⟩:=h
  refine ⟨_,(aH (bA (b_ (bQ (K:=K) rfl) (by rfl) Bt.fZ eO (aj (bI (K:=K) rfl (vP fO aN.cls rfl hR (hr.mono (by decide)) (pv 0) (aj (pv 1) au)) rfl) au)))), ?_⟩;refine ⟨_,rfl,W.o,W.dx,_,rfl,w.o,rfl,_,rfl,i,τ,W,S,h,rfl,w,fun k A s e eA es=> ?_,k2⟩;have a:=w.hd k A s eA es;exact ⟨A.h,aA,A.hx,_,_,rfl,a.c.h,aJ.cls,aJ.gQ,rfl,A.b,_,rfl,.inl (bC.of a.c.b),fun l hl=>k1 k s l _ e es hl ak (aF hl)⟩
theorem NZ {ao aA bM:Addr} {f:Addr} {fd:FuncData} (F:iY K "said" "Works.said" dI f fd) (fO:jc P w K mg base 3 ao "hand_of" ["self","hand"] (m_ ao aA bM K)) (aN:dD K ao) (aJ:eX K aA) (Bt:o8 mg):bV P w K mg base (rC P w) 4 f fd ["self","hand"] (rO aX.sy ao aA bM K):=by
 refine F.RL xu (fun vs H Q E h=> ?_) (fun cdv A outer s H vs Q E hr h hR=> ?_)
 ·obtain ⟨i,τ,W,S,h,rfl,_⟩:=h
  rfl
 ·obtain ⟨i,τ,W,S,h,rfl,w,k1,k2⟩:=h
  refine ⟨_,(aH (bA (b_ (bQ (K:=K) rfl) (by rfl) Bt.fZ eO (aj (bI (K:=K) rfl (vP fO aN.cls rfl hR (hr.mono (by decide)) (pv 0) (aj (pv 1) au)) rfl) au)))), ?_⟩;refine ⟨_,rfl,W.o,W.dx,_,rfl,w.o,rfl,_,rfl,i,τ,W,S,h,rfl,w,fun k A s e eA es=> ?_,k2⟩;have a:=w.hd k A s eA es;exact ⟨A.h,aA,A.hx,_,_,rfl,a.c.h,aJ.cls,aJ.jE,rfl,A.sy,_,rfl,.inl (bC.of a.c.y),fun l hl=>k1 k s l _ e es hl ak (aF hl)⟩
def tE (S:jR):List Int:=(List.range S.hs.length).map fun k:Nat=>((S.ts.count (k:Int):Nat):Int)
def ni (CW CH:Addr) (K:PySem.W.Frag):Sp:=fun vs H Q _=>∃(i:Nat) (τ:Tg) (W:xT) (S:jR),vs=[.ref W.o]/\j6 CW CH i τ H W S /\ ∀l H',H l=none->H' l=some (.lst ((tE S).map V.int))->Same H H'->Q (.ref l) H'
theorem Ht {ao aA:Addr} {f:Addr} {fd:FuncData} (F:iY K "counts" "Works.counts" cN f fd) (aN:dD K ao) (Bt:o8 mg):bV P w K mg base iD 1 f fd ["self"] (ni ao aA K):=by
 refine F.ok um (fun vs H Q E h=> ?_) (fun cdv A outer s H vs Q E hr h=> ?_)
 ·obtain ⟨i,τ,W,S,rfl,_⟩:=h
  rfl
 ·obtain ⟨i,τ,W,S,rfl,w,k⟩:=h
  refine ⟨_,(aH (bA (gK rfl (N:=["hand","self"]) (own:=["hand"]) (caps:=[0]) (bK.of (by kernel_rfl)) (iK (by rfl) Bt.mO (aj (bN (bF (K:=K) rfl) (by rfl) Bt.gj dR (aj (bI (K:=K) rfl (pv 0) rfl) au)) au)) (fun _ _ _ _=>(bG (i:=0) (show List.Nodup (["hand","self"]:List Str) by decide +kernel) rfl (Or.inl rfl))) (fun _ _ _ _=>eU) (fun _ _ _ _=>(sI (K:=K) rfl PySem.F.plainAttrs_list PySem.F.slot_list_count PySem.F.type_list_count (Hw (K:=K) rfl) (bI (K:=K) rfl (pv 1) rfl) (aj (pv 0) au)))))), ?_⟩;have ll:(W.hd.map fun a=>V.ref a.h).length=S.hs.length:=by rw [List.length_map,w.len]
  refine ⟨_,rfl,W.o,ao,W.dx,_,_,rfl,w.o,aN.cls,aN.jZ,rfl,W.hl,_,rfl,.inl (bC.of w.hl),_,rfl,(by rw [ll];have:=w.hn;omega),(by rw [ll];have:=w.hn;omega),fun D hD=> ?_⟩;rw [ll,Int.toNat_natCast];refine yu (fun j:Nat=>some (.int ((S.ts.count (j:Int):Nat):Int))) hD (by have:=w.hn;omega) (fun j H1 G F hj s1 kG kF=> ?_) (fun H1 s1 e1=> ?_)
  ·refine ⟨_,rfl,W.o,ao,W.dx,_,_,rfl,s1 _ _ w.o,aN.cls,aN.oU,rfl,.inl ⟨rfl,_,bC.of (s1 _ _ w.tn)⟩,_,rfl,_,S.ts,_,rfl,rfl,bC.of (s1 _ _ w.tn),kF _ H1 (Same.refl _) (by rw [Int.zero_add])⟩
  ·refine k D H1 hD ?_ s1
   rw [e1];unfold tE;rw [List.map_map,List.filterMap_eq_map'];rfl
def Dm (CW CH:Addr) (K:PySem.W.Frag):Sp:=fun vs H Q _=>∃(i:Nat) (τ:Tg) (W:xT) (S:jR),vs=[.ref W.o]/\j6 CW CH i τ H W S/\Q (.int S.ts.length) H
theorem Ny {ao aA:Addr} {f:Addr} {fd:FuncData} (F:iY K "__len__" "Works.__len__" cI f fd) (aN:dD K ao) (Bt:o8 mg):bV P w K mg base iD 1 f fd ["self"] (Dm ao aA K):=by
 refine F.ok rW (fun vs H Q E h=> ?_) (fun cdv A outer s H vs Q E hr h=> ?_)
 ·obtain ⟨i,τ,W,S,rfl,_⟩:=h
  rfl
 ·obtain ⟨i,τ,W,S,rfl,w,k⟩:=h
  refine ⟨_,(aH (bA (bN (bF (K:=K) rfl) (by rfl) Bt.gj dR (aj (bI (K:=K) rfl (pv 0) rfl) au)))), ?_⟩;refine ⟨_,rfl,W.o,ao,W.dx,_,_,rfl,w.o,aN.cls,aN.oU,rfl,W.tn,_,rfl,.inl (bC.of w.tn), ?_⟩;rw [List.length_map];exact k
structure mZ (C:List (List Nat)) (τ:Tg) (H:Hp) (τ':Tg) (H':Hp):Prop where
 keep:∀x u,H x=some u->τ x∉C->H' x=some u/\τ' x=τ x
 tup:∀x xs,H x=some (.tup xs)->H' x=some (.tup xs)
theorem mZ.of_same {C:List (List Nat)} {τ:Tg} {H H':Hp} (k:Same H H'):mZ C τ H τ H':=⟨fun x u e _=>⟨k _ _ e,rfl⟩,k.tups⟩
theorem mZ.claim {C:List (List Nat)} {τ:Tg} {H H':Hp} {p:Addr} {t:List Nat} (k:Same H H') (hp:H p=none):mZ C τ H (aQ τ p t) H':=⟨fun x u e _=>⟨k _ _ e,aP (aB e hp)⟩,k.tups⟩
theorem mZ.set {C:List (List Nat)} {τ:Tg} {H:Hp} {x:Addr} {o u:HO} (ht:τ x∈C) (hx:H x=some o) (hn:∀xs,o ≠ .tup xs):mZ C τ H τ (upd H x u):=
 ⟨fun y v e n=>⟨by rw [aG (fun z:y=x=>n (by rw [z];exact ht))];exact e,rfl⟩,fun y xs e=>by rw [aG (cj e hx fun z=>hn xs z.symm)];exact e⟩
theorem mZ.trans {C:List (List Nat)} {τ τ1 τ2:Tg} {H H1 H2:Hp} (a:mZ C τ H τ1 H1) (b:mZ C τ1 H1 τ2 H2):mZ C τ H τ2 H2:=⟨fun x u e n=>by
 obtain ⟨e1,t1⟩:=a.keep x u e n;obtain ⟨e2,t2⟩:=b.keep x u e1 (by rw [t1];exact n);exact ⟨e2,by rw [t2,t1]⟩,fun x xs e=>b.tup _ _ (a.tup _ _ e)⟩
theorem uG.Mi {C:List (List Nat)} {CH:Addr} {i k m:Nat} {τ τ':Tg} {H H':Hp} {A:m5} {s:aX} (h:uG CH i k m τ H A s) (q:mZ C τ H τ' H') (h0:[0]∉C) (h4:[i,4,k]∉C) (h5:[i,5,k]∉C) (h6:[i,6,k]∉C):uG CH i k m τ' H' A s:=by
 obtain ⟨⟨c1,c2,c3,c4,c5⟩,r,tr,th,tb,ty⟩:=h;have e1:=q.keep _ _ c1 (by rw [th];exact h4);have e2:=q.keep _ _ c2 (by rw [tb];exact h5);have e3:=q.keep _ _ c3 (by rw [ty];exact h6);have rr:=r;obtain ⟨ts,hr,_⟩:=rr;have e4:=q.keep _ _ hr (by rw [tr];exact h0);exact ⟨⟨e1.1,e2.1,e3.1,c4,c5⟩,r.keep (fun o e=>(q.keep _ _ e (by rw [tr];exact h0)).1) q.tup,e4.2.trans tr,e1.2.trans th,e2.2.trans tb,e3.2.trans ty⟩
theorem gJ {C:List (List Nat)} {τ τ':Tg} {H H':Hp} {r:Addr} {m:Nat} {rws:List Rw} (h:τ r=[0]/\cJ H r m rws) (q:mZ C τ H τ' H') (h0:[0]∉C):τ' r=[0]/\cJ H' r m rws:=by
 obtain ⟨t,R⟩:=h;have rr:=R;obtain ⟨ts,hr,_⟩:=rr;have e4:=q.keep _ _ hr (by rw [t];exact h0);exact ⟨e4.2.trans t,R.keep (fun o e=>(q.keep _ _ e (by rw [t];exact h0)).1) q.tup⟩
def Dp (CW CH CN CO:Addr) (K:PySem.W.Frag):Sp:=fun vs H Q E=>∃(i:Nat) (τ:Tg) (W:xT) (S:jR) (h:Int),vs=[.ref W.o,.int h]/\j6 CW CH i τ H W S/\S.ts.length<=10000 /\
 (∀(k:Nat) (s:aX) (r:Rw) (t:Addr) (H':Hp),h=k->S.hs[k]? = some s->s.st = "waits" -> s.rws[s.pos]? = some r->touch r=true->H t=none->H' t=some (.tup (Dl S.ns s.bs r))->j6 CW CH i τ H' W (qz S k)->Cv i τ H H'->Q (.ref t) H') /\
 (¬CT h S.hs.length->E (.ref CN) none H)/\(∀(k:Nat) (s:aX),h=k->S.hs[k]? = some s->s.st ≠ "waits" -> E (.ref CO) none H)
theorem vo {S:jR} {k:Nat} {s:aX} {r:Rw} (es:S.hs[k]? = some s) (er:s.rws[s.pos]? = some r):qz S k={S with ns:=fY S.ns s.bs r,hs:=S.hs.set k (gF S.ns s r),ts:=S.ts++[(k:Int)]}:=by
 unfold qz;simp only [es,er]
theorem En (ns bs:List Int) (r:Rw):(fY ns bs r).length=ns.length:=by cases r<;>simp [fY]
theorem j6.turned {CW CH:Addr} {i:Nat} {τ:Tg} {H H':Hp} {W:xT} {S:jR} {k:Nat} {A:m5} {s:aX} {r:Rw} (w:j6 CW CH i τ H W S) (eA:W.hd[k]? = some A) (es:S.hs[k]? = some s) (er:s.rws[s.pos]? = some r)
 (kp:∀x u,H x=some u->x≠W.nb->x≠A.b->x≠A.h->x≠A.sy->x≠W.tn->H' x=some u) (c:mQ CH H' A (gF S.ns s r)) (hnb:H' W.nb=some (.lst ((fY S.ns s.bs r).map V.int))) (htn:H' W.tn=some (.lst ((S.ts++[(k:Int)]).map V.int))):j6 CW CH i τ H' W (qz S k)/\Cv i τ H H':=by
 have a:=w.hd k A s eA es;have tup:∀x xs,H x=some (.tup xs)->H' x=some (.tup xs):=fun x xs e=>kp _ _ e (cj e w.nb (by intro z;cases z)) (cj e a.c.b (by intro z;cases z)) (cj e a.c.h (by intro z;cases z)) (cj e a.c.y (by intro z;cases z)) (cj e w.tn (by intro z;cases z))
 have st:Cv i τ H H':=by
  refine ⟨fun x u e n=> ?_,tup,fun x e=> ?_⟩
  ·have ne:∀(y:Addr) (t:List Nat),τ y=i::t->x≠y:=fun y t ty z=>n (by rw [z,ty];rfl)
   exact kp _ _ e (ne _ _ w.tb) (ne _ _ a.tb) (ne _ _ a.th) (ne _ _ a.ty) (ne _ _ w.tt)
  ·cases q:H x with
   | none=>rfl
   | some u=>
     have no:∀y o,H' y=some o->x≠y:=fun y o h z=>by rw [z,h] at e;cases e
     rw [kp _ _ q (no _ _ hnb) (no _ _ c.b) (no _ _ c.h) (no _ _ c.y) (no _ _ htn)] at e;cases e
 refine ⟨?_,st⟩
 have q:mZ [[i,1],[i,5,k],[i,4,k],[i,6,k],[i,3]] τ H τ H':=by
  refine ⟨fun x u e n=>⟨?_,rfl⟩,tup⟩;have ne:∀(y:Addr) (t:List Nat),τ y=t->t∈[[i,1],[i,5,k],[i,4,k],[i,6,k],[i,3]]->x≠y:=fun y t ty ht z=>n (by rw [z,ty];exact ht);exact kp _ _ e (ne _ _ w.tb (by simp)) (ne _ _ a.tb (by simp)) (ne _ _ a.th (by simp)) (ne _ _ a.ty (by simp)) (ne _ _ w.tt (by simp))
 have i0:=w.i0;have z0:[0]∉[[i,1],[i,5,k],[i,4,k],[i,6,k],[i,3]]:=by simp
 rw [vo es er];have hk:k<S.hs.length:=(List.getElem?_eq_some_iff.mp es).1
 have get:∀(j:Nat) (s':aX),(S.hs.set k (gF S.ns s r))[j]? = some s'->(j=k/\s'=gF S.ns s r)\/(j≠k/\S.hs[j]? = some s'):=fun j s' e=>by
  rw [List.getElem?_set] at e
  by_cases z:k=j
  ·subst z
   simp [hk] at e;exact .inl ⟨rfl,e.symm⟩
  ·rw [if_neg z] at e
   exact .inr ⟨fun y=>z y.symm,e⟩
 have gr:(gF S.ns s r).rws=s.rws:=mK _ _;have mem:∀s'∈S.hs.set k (gF S.ns s r),s'=gF S.ns s r\/s'∈S.hs:=fun s' m=>(List.mem_or_eq_of_mem_set m).symm;refine ⟨st.un w.un,i0,(q.keep _ _ w.o (by rw [w.to];simp)).1,tup _ _ w.pg,(q.keep _ _ w.L (by rw [w.tL];exact z0)).1,hnb,(q.keep _ _ w.hl (by rw [w.tl];simp)).1,htn,w.to,w.tb,w.tl,w.tt,w.tL, ?_, ?_, ?_, ?_, ?_, ?_, ?_, ?_⟩
 ·simp [w.rl]
 ·intro j r' s' h1 h2
  rcases get j s' h2 with ⟨rfl,rfl⟩|⟨_,h2⟩
  ·rw [gr]
   exact gJ (w.rs j r' s h1 es) q z0
  ·exact gJ (w.rs j r' s' h1 h2) q z0
 ·simp [w.len]
 ·intro j A' s' h1 h2
  rcases get j s' h2 with ⟨rfl,rfl⟩|⟨nj,h2⟩
  ·rw [eA] at h1
   cases h1;refine ⟨c, ?_,a.tr,a.th,a.tb,a.ty⟩;rw [gr];exact (gJ ⟨a.tr,a.r⟩ q z0).2
  ·exact (w.hd j A' s' h1 h2).Mi q z0 (by simp [nj]) (by simp [nj]) (by simp [nj])
 ·intro s' m
  rcases mem s' m with rfl|m
  ·exact Ef _ _
  ·exact w.ok s' m
 ·intro s' m
  simp only [List.length_append,List.length_singleton];rcases mem s' m with rfl|m
  ·have:=Ed 60 {s with pos:=s.pos+1,bs:=wK S.ns s.bs r}
   have:=w.sl s (List.mem_of_getElem? es);show (led 60 _).sy.length<=_;simp only at *;omega
  ·have:=w.sl s' m
   omega
 ·show (fY S.ns s.bs r).length=S.m
  rw [En,w.nl]
 ·simp [w.hn]
theorem NQ {ao aA bM fQ:Addr} {f:Addr} {fd:FuncData} (F:iY K "turn" "Works.turn" dH f fd) (fO:jc P w K mg base 3 ao "hand_of" ["self","hand"] (m_ ao aA bM K)) (tV:MethAt P w K mg base 4 ao "touch_by" ["self","one"] (rN ao aA K)) (jO:MethAt P w K mg base 6 aA "lead_on" ["self"] (yS aA K)) (aN:dD K ao) (aJ:eX K aA) (Ac:Xr K mg fQ "Over"):bV P w K mg base (rC P w) 7 f fd ["self","hand"] (Dp ao aA bM fQ K):=by
 refine F.RL kj (fun vs H Q E h=> ?_) (fun cdv A outer s H vs Q E hr h hR=> ?_)
 ·obtain ⟨i,τ,W,S,h,rfl,_⟩:=h
  rfl
 ·obtain ⟨i,τ,W,S,h,rfl,w,tl,k1,k2,k3⟩:=h
  refine ⟨_,(aC (aY (i:=2) kj.nd rfl (Or.inl rfl) (vP fO aN.cls rfl hR (hr.mono (by decide)) (pv 0) (aj (pv 1) au)))
   (aC (bU (aR qN (bI (K:=K) rfl (pv 2) rfl) aW (aV _)) (aH (qM PySem.F.excBase_ValueError Ac.ex Ac.bd (by rfl) rfl rfl hR (aj aW au))) bB)
   (aC (aY (i:=3) kj.nd rfl (Or.inl rfl) (dN tV aN.cls (hr.mono (by decide)) (pv 0) (aj (pv 2) au)))
   (aC (vN (K:=K) rfl (pv 2) aq Eh)
   (aC (dh (cU jO aJ.cls (hr.mono (by decide)) (pv 2)))
   (aC (dh (gP (K:=K) rfl (bI (K:=K) rfl (pv 0) rfl) (aj (pv 1) au)))
   (aH (bA (pv 3))))))))), ?_⟩
  refine ⟨_,rfl,W.o,W.dx,_,rfl,w.o,rfl,_,rfl,i,τ,W,S,h,rfl,w,fun k A s e eA es=> ?_,k2⟩;have a:=w.hd k A s eA es;refine ⟨_,rfl,A.h,aA,A.hx,_,_,rfl,a.c.h,aJ.cls,aJ.jC,rfl,rfl,_,rfl, ?_⟩
  by_cases wt:s.st = "waits"
  rotate_left
  ·refine bH (fun _=> ?_) (fun z=>absurd (by simp [wt]) z)
   exact ⟨(by show 1<=sizeLine;decide),k3 k s e es wt⟩
  refine BK (by rw [wt]) ?_;obtain ⟨r,er,tr⟩:=w.ok s (List.mem_of_getElem? es) wt;have D_:W.nb≠A.b:=bY w.tb a.tb (by simp);have Kh:W.nb≠A.sy:=bY w.tb a.ty (by simp);refine ⟨_,rfl,W.o,W.dx,_,rfl,w.o,rfl,_,rfl,W.o,W.dx,W.pg,W.nb,W.hl,W.tn,A,s,S.m,S.ns,r,rfl,w.o,w.nb,w.nl,a.c,a.r,er,tr,D_,Kh,fun t H1 tf t1 c1 nb1 p1=> ?_⟩;refine ⟨_,rfl,A.h,aA,A.hx,_,_,rfl,c1.h,aJ.cls,aJ.qO,rfl,_,_,rfl,rfl,A.hx,_,c1.h,(by show 5<1000;decide), ?_⟩;rw [vM];have c2:=c1.gM (s.pos+1) s.st;have p2:KH A H1 (upd H1 A.h (.ins aA A.hx (hF A.r ((s.pos+1:Nat):Int) A.b A.sy s.st))):=KH.gM;have t2:=c1.tup p2 _ _ t1;dsimp only;rw [show ((s.pos:Nat):Int)+1=((s.pos+1:Nat):Int) by omega];generalize (upd H1 A.h (.ins aA A.hx (hF A.r ((s.pos+1:Nat):Int) A.b A.sy s.st)))=H2 at c2 p2 t2 ⊢;have RQ:A.r≠A.b:=bY a.tr a.tb (by intro z;cases z);have Uh:A.r≠A.sy:=bY a.tr a.ty (by intro z;cases z);have Ui:A.r≠A.h:=bY a.tr a.th (by intro z;cases z);have nrn:A.r≠W.nb:=bY a.tr w.tb (by intro z;cases z);have aaH:∀x xs,H x=some (.tup xs)->H2 x=some (.tup xs):=fun x xs q=>c1.tup p2 _ _ (p1 _ _ q (cj q w.nb (by intro z;cases z)) (cj q a.c.b (by intro z;cases z)));have R2:cJ H2 A.r S.m s.rws:=a.r.keep (fun o q=>p2 _ _ (p1 _ _ q nrn RQ) Ui RQ Uh) aaH;have sl:=w.sl s (List.mem_of_getElem? es);refine ⟨_,rfl,A.h,A.hx,_,rfl,c2.h,rfl,A,_,S.m,rfl,c2,R2,RQ,Uh,by show s.sy.length<_;omega,fun H3 c3 p3=> ?_⟩;have k13:∀x u,H x=some u->x≠W.nb->x≠A.b->x≠A.h->x≠A.sy->H3 x=some u:=fun x u q n1 n2 n3 n4=>p3 _ _ (p2 _ _ (p1 _ _ q n1 n2) n3 n2 n4) n3 n2 n4;have o3:=k13 _ _ w.o (bY w.to w.tb (by simp)) (bY w.to a.tb (by simp)) (bY w.to a.th (by simp)) (bY w.to a.ty (by simp));have tn3:=k13 _ _ w.tn (bY w.tt w.tb (by simp)) (bY w.tt a.tb (by simp)) (bY w.tt a.th (by simp)) (bY w.tt a.ty (by simp));have nb3:=p3 _ _ (p2 _ _ nb1 (bY w.tb a.th (by simp)) D_ Kh) (bY w.tb a.th (by simp)) D_ Kh;have t3:=c2.tup p3 _ _ t2;refine ⟨_,rfl,W.o,ao,W.dx,_,_,rfl,o3,aN.cls,aN.oU,rfl,.inl ⟨rfl,_,bC.of tn3⟩,_,rfl,_,_,_,rfl,rfl,tn3,(by rw [List.length_map,sizeLine_eq];omega), ?_⟩;have k14:∀x u,H x=some u->x≠W.nb->x≠A.b->x≠A.h->x≠A.sy->x≠W.tn->(upd H3 W.tn (.lst (S.ts.map V.int++[V.int h]))) x=some u:=fun x u q n1 n2 n3 n4 n5=>by rw [aG n5];exact k13 x u q n1 n2 n3 n4
  have nbt:W.nb≠W.tn:=bY w.tb w.tt (by simp);have c4:mQ aA (upd H3 W.tn (.lst (S.ts.map V.int++[V.int h]))) A (gF S.ns s r):=⟨by rw [aG (bY a.th w.tt (by simp))];exact c3.h,by rw [aG (bY a.tb w.tt (by simp))];exact c3.b,by rw [aG (bY a.ty w.tt (by simp))];exact c3.y,c3.tY,c3.bl⟩;obtain ⟨w4,st⟩:=w.turned (H':=upd H3 W.tn (.lst (S.ts.map V.int++[V.int h]))) eA es er k14 c4 (by rw [aG nbt];exact nb3) (by rw [ak,List.map_append,e];rfl);refine ⟨_,rfl,k1 k s r t _ e es wt er tr tf ?_ w4 st⟩;rw [aG (cj t3 tn3 (by intro z;cases z))];exact t3
structure Bs (H0:Hp) (τ0:Tg) (o:Addr) (τ:Tg) (H:Hp):Prop where
 un:oF τ H
 kp:Kp o H0 H
 tg:∀x u,H0 x=some u->x≠o->τ x=τ0 x
theorem Bs.same {H0 H H':Hp} {τ0 τ:Tg} {o:Addr} (b:Bs H0 τ0 o τ H) (k:Same H H'):Bs H0 τ0 o τ H':=⟨b.un.same k,b.kp.trans (Kp.of_same k),b.tg⟩
theorem Bs.claim {H0 H H':Hp} {τ0 τ:Tg} {o p:Addr} {t:List Nat} (b:Bs H0 τ0 o τ H) (k:Same H H') (hp:H p=none) (hp':∃u,H' p=some u):Bs H0 τ0 o (aQ τ p t) H':=
 ⟨b.un.claim k hp',b.kp.trans (Kp.of_same k),fun x u e n=>by rw [aP (aB (b.kp _ _ e n) hp)];exact b.tg x u e n⟩
theorem Bs.set {H0 H:Hp} {τ0 τ:Tg} {o x:Addr} {v:HO} (b:Bs H0 τ0 o τ H) (hx:x=o\/H0 x=none):Bs H0 τ0 o τ (upd H x v):=
 ⟨b.un.dom (fun y e=>by
   by_cases z:y=x
   ·rw [z,ak] at e;cases e
   ·rw [aG z] at e;exact e),fun y u e n=>by
   have z:y≠x:=by
    rcases hx with rfl|hx
    ·exact n
    ·exact aB e hx
   rw [aG z];exact b.kp _ _ e n,b.tg⟩
theorem Bs.fresh {H0 H:Hp} {τ0 τ:Tg} {o p:Addr} (b:Bs H0 τ0 o τ H) (hp:H p=none) (n:p≠o):H0 p=none:=oY b.kp n hp
def ju (CW CH CN:Addr) (K:PySem.W.Frag):Sp:=fun vs H Q E=>∃(i:Nat) (τ:Tg) (o dx p L0:Addr) (M9:List Addr) (m:Nat) (cv:V) (ns:List Int) (rws:List (List Rw)),vs=[.ref o,.ref p,cv]/\H o=some (.ins CW dx [])/\H p=some (.tup [.int m,.ref L0])/\H L0=some (.lst (M9.map V.ref))/\M9.length=rws.length /\
 (∀(k:Nat) (r:Addr) (x:List Rw),M9[k]? = some r->rws[k]? = some x->cJ H r m x)/\rws.length<=100/\m<=100/\oF τ H/\i≠0/\ns.length<=100/\((cv = .non/\ns=List.replicate m 0) \/ ∃cl,cv = .ref cl/\H cl=some (.lst (ns.map V.int))) /\
 (p7 m ns -> ∀(τ':Tg) (W:xT) (H':Hp),W.o=o->j6 CW CH i τ' H' W (qj m ns rws)->(∀x u,H x=some u->x≠o->τ' x=τ x)->Kp o H H'->Q .non H')/\(¬p7 m ns -> ∀H',Kp o H H'->E (.ref CN) none H')
theorem iw {α:Type} {l:List α} {x y:α} {k:Nat} (h:(l++[x])[k]? = some y):l[k]? = some y\/(k=l.length/\y=x):=by
 by_cases e:k<l.length
 ·rw [List.getElem?_append_left e] at h
  exact .inl h
 ·rw [List.getElem?_append_right (by omega)] at h
  have lt:=(List.getElem?_eq_some_iff.mp h).1;simp at lt;have:k=l.length:=by omega
  subst this;simp at h;exact .inr ⟨rfl,h.symm⟩
theorem JT {ao aA:Addr} {f:Addr} {fd:FuncData} (F:PX K "__init__" "Works.__init__" bW [.none] f fd) (aN:dD K ao) (aJ:eX K aA) {aZ:Addr} (uH:LR P w K mg base 3 "check_numbers" ["cells","count"] (pW aZ K)) (Ey:oH P w K mg base 1 aA "Hand" ["self","rows"] [] (uJ aA K)) (jO:MethAt P w K mg base 6 aA "lead_on" ["self"] (yS aA K)) (Bt:o8 mg):bV P w K mg base (rC P w) 7 f fd ["self","program","cells"] (ju ao aA aZ K):=by
 refine F.RL kE (fun vs H Q E h=> ?_) (fun cdv A outer s H vs Q E hr h hR=> ?_)
 ·obtain ⟨i,τ,o,dx,p,L0,M9,m,cv,ns,rws,rfl,_⟩:=h
  rfl
 ·obtain ⟨i,τ,o,dx,p,L0,M9,m,cv,ns,rws,rfl,ho,hp,hL,lr,Wj,rl,ml,un,i0,nl,hcv,k1,k2⟩:=h
  refine ⟨_,(aC (bU (aR zA (pv 2) gG (aV _)) (aH (qL (i:=2) rfl kE.nd rfl (Or.inl rfl) (N:=["cell"]) (own:=["cell"]) (caps:=[]) (bK.of (by kernel_rfl)) (iK (by rfl) Bt.mO (aj (aO (aU (K:=K) rfl) (pv 1) aq (fun _ _=>rfl)) au)) (fun _ _ _ _=>(bG (i:=0) (show List.Nodup (["cell"]:List Str) by decide +kernel) rfl (Or.inl rfl))) (fun _ _ _ _=>eU) (fun _ _ _ _=>aq))) bB)
   (aC (dh (Ro uH rfl hR (hr.mono (by decide)) (by rfl) (aj (pv 2) (aj (aO (aU (K:=K) rfl) (pv 1) aq (fun _ _=>rfl)) au))))
   (aC (dX (K:=K) rfl (pv 0) (bR (aj (aO (aU (K:=K) rfl) (pv 1) aq (fun _ _=>rfl)) (aj (gK rfl (N:=["rows"]) (own:=["rows"]) (caps:=[]) (bK.of (by kernel_rfl)) (dB (K:=K) rfl (aO (aU (K:=K) rfl) (pv 1) aq (fun _ _=>rfl))) (fun _ _ _ _=>(bG (i:=0) (show List.Nodup (["rows"]:List Str) by decide +kernel) rfl (Or.inl rfl))) (fun _ _ _ _=>eU) (fun _ _ _ _=>(b_ (bQ (K:=K) rfl) (by rfl) Bt.fZ eO (aj (pv 0) au)))) au))) rfl)
   (aC (dX (K:=K) rfl (pv 0) (b_ (bQ (K:=K) rfl) (by rfl) Bt.fZ eO (aj (pv 2) au)) rfl)
   (aC (dX (K:=K) rfl (pv 0) (gK rfl (N:=["rows"]) (own:=["rows"]) (caps:=[]) (bK.of (by kernel_rfl)) (dB (K:=K) rfl (aO (aU (K:=K) rfl) (bI (K:=K) rfl (pv 0) rfl) aq (fun _ _=>rfl))) (fun _ _ _ _=>(bG (i:=0) (show List.Nodup (["rows"]:List Str) by decide +kernel) rfl (Or.inl rfl))) (fun _ _ _ _=>eU) (fun _ _ _ _=>(nG Ey (hr.mono (by decide)) (by rfl) (aj (pv 0) au)))) rfl)
   (aC (dX (K:=K) rfl (pv 0) (bZ au) rfl)
   (aH (nF PassesOwn.leaving rfl (dB (K:=K) rfl (bI (K:=K) rfl (pv 0) rfl)) (bG (i:=3) kE.nd rfl (Or.inl rfl))
   (aH (dh (cU jO aJ.cls (hr.mono (by decide)) (pv 3)))))))))))), ?_⟩
  refine gU (fun σ H1=>∃cl:Addr,σ=[some (.ref o),some (.ref p),some (.ref cl),none]/\H1 cl=some (.lst (ns.map V.int))/\Same H H1) (fun D' hD' rt'=> ?_) ?_
  ·refine ⟨_,rfl,rfl,_,rfl, ?_⟩
   rcases hcv with ⟨rfl,rfl⟩|⟨cl,rfl,hcl⟩
   ·refine iR ?_
    refine ⟨_,rfl,_,_,_,_,rfl,rfl,cA.of hp,rfl,_,rfl,by omega,by omega,fun D hD=> ?_⟩;rw [Int.toNat_natCast];refine yu (fun _=>some (.int 0)) hD (by omega) (fun i H1 G F hi s1 kG kF=>kF _ H1 (Same.refl _) rfl) (fun H1 s1 e1=> ?_);rw [Gk] at e1;exact hD' _ _ ⟨D,rfl,e1,s1⟩
   ·refine fM ?_
    exact hD' _ _ ⟨cl,rfl,hcl,Same.refl _⟩
  rintro σ H1 ⟨cl,rfl,hcl,s1⟩;have hp1:=s1 _ _ hp;refine qH (fun R g=> ?_);refine ⟨_,rfl,_,rfl,_,_,_,_,rfl,rfl,cA.of hp1,rfl,cl,m,ns,rfl,hcl,nl,fun good H2 s2=> ?_,fun bad H2 s2=>k2 bad H2 (Kp.of_same (s1.trans s2))⟩;refine g _ _ ?_;have Q7:=s1.trans s2;have ho2:=Q7 _ _ ho;have hp2:=Q7 _ _ hp;have hL2:=Q7 _ _ hL;have Wu:=s2 _ _ hcl;have SJ:∀(k:Nat) (r:Addr) (x:List Rw),M9[k]? = some r->rws[k]? = some x->cJ H2 r m x:=fun k r x a b=>(Wj k r x a b).same Q7;have B2:Bs H τ o (aQ τ o [i,0]) H2:=⟨fun x e=>by rw [aP (aB ho2 e).symm];exact un.same Q7 x e,Kp.of_same Q7,fun x u e n=>aP n⟩;have to2:aQ τ o [i,0] o=[i,0]:=bw;generalize aQ τ o [i,0]=τ2 at B2 to2;refine qH (fun R g=> ?_);refine ⟨_,rfl,_,_,_,_,rfl,rfl,cA.of hp2,rfl,_,rfl,_,_,_,_,rfl,rfl,cA.of hp2,rfl,L0,rfl,⟨_,bC.of hL2⟩,fun L Wv=> ?_⟩;have sL:=aF (o:=HO.lst []) Wv;have nLo:L≠o:=(aB ho2 Wv).symm;refine iT (K:=K) (xs:=M9.map V.ref) (fun j σ Hc=>∃(v:Option V) (τc:Tg) (rs:List Addr),σ=[v]/\rs.length=j/\Same H2 Hc/\Hc L=some (.lst (rs.map V.ref))/\Bs H τ o τc Hc/\τc o=[i,0]/\τc L=[0] /\ ∀(k:Nat) (r:Addr) (x:List Rw),rs[k]? = some r->rws[k]? = some x->r≠L/\τc r=[0]/\cJ Hc r m x) ?_ ?_ ?_ ?_
  ·exact ⟨none,aQ τ2 L [0],[],rfl,rfl,sL,ak,B2.claim sL Wv ⟨_,ak⟩,by rw [aP nLo.symm];exact to2,bw,fun k r x h=>by simp at h⟩
  ·rintro j σ Hc hj ⟨v,τc,rs,rfl,_,sc,_⟩
   exact bC.of (sc _ _ hL2)
  ·rintro j x σ Hc hj ⟨v,τc,rs,rfl,lj,sc,hLc,Bc,toc,tLc,hc⟩
   rw [List.getElem?_map] at hj
   obtain ⟨r0,K8,rfl⟩:∃r0,M9[j]? = some r0/\x = .ref r0:=by
    cases e:M9[j]? with
    | none=>rw [e] at hj;cases hj
    | some r0=>rw [e] at hj;exact ⟨r0,rfl,(Option.some.inj hj).symm⟩
   have jl:j<rws.length:=by rw [←lr];exact (List.getElem?_eq_some_iff.mp K8).1
   have ex:rws[j]? = some rws[j]:=by simp [jl]
   have rr:=SJ j r0 _ K8 ex;obtain ⟨ts,hts,xK,rq,rl'⟩:=rr;dsimp only [dO,rM];rw [if_pos rfl];refine ⟨_,rfl,r0,_,rfl,.inl (bC.of (sc _ _ hts)),fun r hrn=> ?_⟩;have sr:=aF (o:=HO.lst ts) hrn;have nrL:r≠L:=(aB hLc hrn).symm;have nro:r≠o:=(aB (sc _ _ ho2) hrn).symm;have hLf:H L=none:=Q7.free Wv;refine ⟨rs.map V.ref,sr _ _ hLc,(by rw [List.length_map,sizeLine_eq];omega),some (.ref r0),aQ τc r [0],rs++[r],rfl,by simp [lj],fun y u e=> ?_,by rw [ak];simp,(Bc.claim sr hrn ⟨_,ak⟩).set (.inr hLf), ?_, ?_, ?_⟩
   ·rw [aG (aB e Wv)]
    exact sr _ _ (sc _ _ e)
   ·rw [aP nro.symm];exact toc
   ·rw [aP nrL.symm];exact tLc
   ·intro k r' x' h1 h2
    have tups:∀y ys,Hc y=some (.tup ys)->(upd (upd Hc r (.lst ts)) L (.lst (rs.map V.ref++[V.ref r]))) y=some (.tup ys):=fun y ys e=>by
     rw [aG (cj e hLc (by intro z;cases z))];exact sr _ _ e
    rcases iw h1 with h1|⟨e1,rfl⟩
    ·obtain ⟨n1,t1,R1⟩:=hc k r' x' h1 h2
     have rr:=R1;obtain ⟨ts',hr',_⟩:=rr;have n2:r'≠r:=aB hr' hrn;refine ⟨n1,by rw [aP n2];exact t1,R1.keep (fun u e=> ?_) tups⟩;rw [aG n1];exact sr _ _ e
    ·rw [e1,lj,ex] at h2
     cases h2;refine ⟨nrL,bw,ts,by rw [aG nrL,ak], ?_,rq,rl'⟩;exact xK.keep (fun y ys e=>tups _ _ (sc _ _ e)) _ (nZ _)
  rintro σ H3 ⟨v,τ3,rs,rfl,lrs,zm,hL3,B3,to3,tL3,hr3⟩;rw [List.length_map] at lrs;have ho3:=zm _ _ ho2;refine ⟨(by show 2<=sizeLine;decide),fun pg hpg=> ?_⟩;have Vn:=aF (o:=HO.tup [V.int m,V.ref L]) hpg;refine ⟨_,rfl,o,ao,dx,_,rfl,Vn _ _ ho3,aN.cls,aN.oW,(by show 0<1000;decide), ?_⟩;refine g _ _ ?_;have adV:pg≠o:=(aB ho3 hpg).symm;have ZQ:(upd (upd H3 pg (.tup [V.int m,V.ref L])) o (.ins ao dx (dg "program" (.ref pg) []))) o=some (.ins ao dx [("program",.ref pg)]):=ak;have Wm:(upd (upd H3 pg (.tup [V.int m,V.ref L])) o (.ins ao dx (dg "program" (.ref pg) []))) pg=some (.tup [V.int m,V.ref L]):=by rw [aG adV,ak]
  have q4:mZ [[i,0]] τ3 H3 τ3 (upd (upd H3 pg (.tup [V.int m,V.ref L])) o (.ins ao dx (dg "program" (.ref pg) []))):=(mZ.of_same Vn).trans (mZ.set (by rw [to3];simp) (Vn _ _ ho3) (by intro xs z;cases z));have B4:Bs H τ o τ3 (upd (upd H3 pg (.tup [V.int m,V.ref L])) o (.ins ao dx (dg "program" (.ref pg) []))):=(B3.same Vn).set (.inl rfl);have yp:Kp o H3 (upd (upd H3 pg (.tup [V.int m,V.ref L])) o (.ins ao dx (dg "program" (.ref pg) []))):=(Kp.of_same Vn).trans Kp.set;generalize (upd (upd H3 pg (.tup [V.int m,V.ref L])) o (.ins ao dx (dg "program" (.ref pg) [])))=H4 at ZQ Wm q4 B4 yp ⊢;have hL4:=(q4.keep _ _ hL3 (by rw [tL3];simp)).1;have hr4:∀(k:Nat) (r:Addr) (x:List Rw),rs[k]? = some r->rws[k]? = some x->τ3 r=[0]/\cJ H4 r m x:=fun k r x h1 h2=>gJ ⟨(hr3 k r x h1 h2).2.1,(hr3 k r x h1 h2).2.2⟩ q4 (by simp);have ad3:cl≠o:=cj Wu ho2 (by intro z;cases z);have afE:=yp _ _ (zm _ _ Wu) ad3;refine qH (fun R g=> ?_);refine ⟨_,rfl,cl,_,rfl,.inl (bC.of afE),fun nb hnb=> ?_⟩;have Q6:=aF (o:=HO.lst (ns.map V.int)) hnb;refine ⟨_,rfl,o,ao,dx,_,rfl,Q6 _ _ ZQ,aN.cls,aN.iM,(by show 1<1000;decide), ?_⟩;refine g _ _ ?_;have RW:nb≠o:=(aB ZQ hnb).symm;have Ur:(upd (upd H4 nb (.lst (ns.map V.int))) o (.ins ao dx (dg "numbers" (.ref nb) [("program",.ref pg)]))) o=some (.ins ao dx [("program",.ref pg),("numbers",.ref nb)]):=ak;have Wr:(upd (upd H4 nb (.lst (ns.map V.int))) o (.ins ao dx (dg "numbers" (.ref nb) [("program",.ref pg)]))) nb=some (.lst (ns.map V.int)):=by rw [aG RW,ak]
  have q5:mZ [[i,0]] τ3 H4 (aQ τ3 nb [i,1]) (upd (upd H4 nb (.lst (ns.map V.int))) o (.ins ao dx (dg "numbers" (.ref nb) [("program",.ref pg)]))):=(mZ.claim Q6 hnb).trans (mZ.set (by rw [aP RW.symm,to3];simp) (Q6 _ _ ZQ) (by intro xs z;cases z));have B5:Bs H τ o (aQ τ3 nb [i,1]) (upd (upd H4 nb (.lst (ns.map V.int))) o (.ins ao dx (dg "numbers" (.ref nb) [("program",.ref pg)]))):=(B4.claim Q6 hnb ⟨_,ak⟩).set (.inl rfl);have to5:aQ τ3 nb [i,1] o=[i,0]:=by rw [aP RW.symm];exact to3
  have tn5:aQ τ3 nb [i,1] nb=[i,1]:=bw;generalize (upd (upd H4 nb (.lst (ns.map V.int))) o (.ins ao dx (dg "numbers" (.ref nb) [("program",.ref pg)])))=H5 at Ur Wr q5 B5 ⊢;generalize aQ τ3 nb [i,1]=τ5 at q5 B5 to5 tn5;have Uu:=q5.keep _ _ hL4 (by rw [tL3];simp);have hr5:∀(k:Nat) (r:Addr) (x:List Rw),rs[k]? = some r->rws[k]? = some x->τ5 r=[0]/\cJ H5 r m x:=fun k r x h1 h2=>gJ (hr4 k r x h1 h2) q5 (by simp);have Wk:=q5.tup _ _ Wm;have tL5:τ5 L=[0]:=Uu.2.trans tL3;have Uu:=Uu.1;refine qH (fun R g=> ?_);refine ⟨_,rfl,o,ao,dx,_,_,rfl,Ur,aN.cls,aN.oW,rfl,_,_,_,_,rfl,rfl,cA.of Wk,rfl,L,rfl,⟨_,bC.of Uu⟩,fun hl Ox=> ?_⟩;have shl:=aF (o:=HO.lst []) Ox;have ad1:hl≠o:=(aB Ur Ox).symm;refine iT (K:=K) (xs:=rs.map V.ref) (fun j σ Hc=>∃(v:Option V) (τc:Tg) (hd:List m5),σ=[v]/\hd.length=j/\Same H5 Hc/\Hc hl=some (.lst (hd.map fun a=> .ref a.h))/\Bs H τ o τc Hc/\(∀x u,H5 x=some u->τc x=τ5 x)/\τc hl=[i,2] /\ ∀(k:Nat) (A:m5) (x:List Rw),hd[k]? = some A->rws[k]? = some x->uG aA i k m τc Hc A (new x)/\H A.h=none/\H A.b=none/\H A.sy=none) ?_ ?_ ?_ ?_
  ·exact ⟨none,aQ τ5 hl [i,2],[],rfl,rfl,shl,ak,B5.claim shl Ox ⟨_,ak⟩,fun x u e=>aP (aB e Ox),bw,fun k A x h=>by simp at h⟩
  ·rintro j σ Hc hj ⟨v,τc,hd,rfl,_,sc,_⟩
   exact bC.of (sc _ _ Uu)
  ·rintro j x σ Hc hj ⟨v,τc,hd,rfl,lj,sc,Us,Bc,xY,tlc,hc⟩
   rw [List.getElem?_map] at hj
   obtain ⟨r,er,rfl⟩:∃r,rs[j]? = some r/\x = .ref r:=by
    cases e:rs[j]? with
    | none=>rw [e] at hj;cases hj
    | some r0=>rw [e] at hj;exact ⟨r0,rfl,(Option.some.inj hj).symm⟩
   have jl:j<rws.length:=by rw [←lr,←lrs];exact (List.getElem?_eq_some_iff.mp er).1
   have ex:rws[j]? = some rws[j]:=by simp [jl]
   obtain ⟨tr,R⟩:=hr5 j r _ er ex;have rr:=R;obtain ⟨ts,hts,_⟩:=rr;dsimp only [dO,rM];rw [if_pos rfl];refine ⟨_,rfl,fun h hx hn hxn nhx=> ?_⟩;have hn':(upd Hc hx (.own h)) h=none:=by rw [aG nhx.symm];exact hn
   have sm:Same Hc (upd (upd Hc hx (.own h)) h (.ins aA hx [])):=(aF hxn).trans (aF hn');refine ⟨h,r,hx,rfl,ak,fun b sy H7 hb hsy V6 h7 b7 sy7 k7=>⟨rfl, ?_⟩⟩;have S7:Same Hc H7:=fun y u e=>k7 _ _ (sm _ _ e) (aB e hn);have fb:Hc b=none:=sm.free hb;have fy:Hc sy=none:=sm.free hsy;have nhl:hl≠h:=aB Us hn;have nbl:hl≠b:=aB Us fb;have nyl:hl≠sy:=aB Us fy;have zF:h≠b:=aB ak hb;have Ak:h≠sy:=aB ak hsy;have hlf:H hl=none:=B5.fresh Ox ad1;have sH:Same Hc Hc:=Same.refl _;have T:∀x u,Hc x=some u->aQ (aQ (aQ τc h [i,4,j]) b [i,5,j]) sy [i,6,j] x=τc x:=fun y u e=>by rw [aP (aB e fy),aP (aB e fb),aP (aB e hn)]
   have B7:Bs H τ o (aQ (aQ (aQ τc h [i,4,j]) b [i,5,j]) sy [i,6,j]) H7:=by
    refine ⟨fun y e=> ?_,Bc.kp.trans (Kp.of_same S7),fun y u e n=> ?_⟩
    ·have n1:y≠h:=fun z=>by rw [z,h7] at e;cases e
     have n2:y≠b:=fun z=>by rw [z,b7] at e;cases e
     have n3:y≠sy:=fun z=>by rw [z,sy7] at e;cases e
     rw [aP n3,aP n2,aP n1];exact Bc.un y (S7.free e)
    ·rw [T y u (Bc.kp _ _ e n)]
     exact Bc.tg y u e n
   have q7:mZ [[i,2]] τc Hc (aQ (aQ (aQ τc h [i,4,j]) b [i,5,j]) sy [i,6,j]) (upd H7 hl (.lst ((hd.map fun a=>V.ref a.h)++[V.ref h]))):=by
    refine ⟨fun y u e n=>⟨?_,T y u e⟩,fun y ys e=> ?_⟩
    ·rw [aG (fun z:y=hl=>n (by rw [z,tlc];simp))]
     exact S7 _ _ e
    ·rw [aG (cj e Us (by intro z;cases z))]
     exact S7 _ _ e
   have Th:aQ (aQ (aQ τc h [i,4,j]) b [i,5,j]) sy [i,6,j] h=[i,4,j]:=by rw [aP Ak,aP zF,bw]
   have Tb:aQ (aQ (aQ τc h [i,4,j]) b [i,5,j]) sy [i,6,j] b=[i,5,j]:=by rw [aP V6,bw]
   have Ty:aQ (aQ (aQ τc h [i,4,j]) b [i,5,j]) sy [i,6,j] sy=[i,6,j]:=bw;generalize aQ (aQ (aQ τc h [i,4,j]) b [i,5,j]) sy [i,6,j]=τ7 at T B7 q7 Th Tb Ty;refine ⟨_,S7 _ _ Us,(by rw [List.length_map,sizeLine_eq];omega),some (.ref r),τ7,hd++[⟨h,hx,r,b,sy⟩],rfl,by simp [lj],fun y u e=> ?_,by rw [ak];simp,B7.set (.inr hlf),fun y u e=> ?_, ?_, ?_⟩
   ·rw [aG (aB e Ox)]
    exact S7 _ _ (sc _ _ e)
   ·rw [T y u (sc _ _ e)]
    exact xY y u e
   ·rw [T _ _ Us];exact tlc
   ·intro k A x' h1 h2
    rcases iw h1 with h1|⟨e1,rfl⟩
    ·exact ⟨(hc k A x' h1 h2).1.Mi q7 (by simp) (by simp) (by simp) (by simp),(hc k A x' h1 h2).2⟩
    ·rw [e1,lj,ex] at h2
     cases h2;rw [e1,lj];have tr':τc r=[0]:=by rw [xY _ _ hts];exact tr
     obtain ⟨t9,R9⟩:=gJ ⟨tr',R.same sc⟩ q7 (by simp);have hoc:=sc _ _ Ur;exact ⟨⟨⟨by rw [aG nhl.symm];exact h7,by rw [aG nbl.symm];exact b7,by rw [aG nyl.symm];exact sy7,V6,rfl⟩,R9,t9,Th,Tb,Ty⟩,Bc.fresh hn (aB hoc hn).symm,Bc.fresh fb (aB hoc fb).symm,Bc.fresh fy (aB hoc fy).symm⟩
  rintro σ H8 ⟨v,τ8,hd,rfl,V_,YM,afC,B8,Mu,tl8,ZR⟩;rw [List.length_map] at V_;have Wo:=YM _ _ Ur;have QJ:τ8 o=[i,0]:=by rw [Mu _ _ Ur];exact to5
  refine ⟨_,rfl,o,ao,dx,_,rfl,Wo,aN.cls,aN.jZ,(by show 2<1000;decide), ?_⟩;refine g _ _ ?_;have ho9:(upd H8 o (.ins ao dx (dg "hands" (.ref hl) [("program",.ref pg),("numbers",.ref nb)]))) o=some (.ins ao dx [("program",.ref pg),("numbers",.ref nb),("hands",.ref hl)]):=ak;have q9:mZ [[i,0]] τ8 H8 τ8 (upd H8 o (.ins ao dx (dg "hands" (.ref hl) [("program",.ref pg),("numbers",.ref nb)]))):=mZ.set (by rw [QJ];simp) Wo (by intro xs z;cases z);have B9:Bs H τ o τ8 (upd H8 o (.ins ao dx (dg "hands" (.ref hl) [("program",.ref pg),("numbers",.ref nb)]))):=B8.set (.inl rfl);generalize (upd H8 o (.ins ao dx (dg "hands" (.ref hl) [("program",.ref pg),("numbers",.ref nb)])))=H9 at ho9 q9 B9 ⊢;refine qH (fun R g=> ?_);refine ⟨(by show 0<=sizeLine;decide),fun tn htn=> ?_⟩;have YD:=aF (o:=HO.lst []) htn;refine ⟨_,rfl,o,ao,dx,_,rfl,YD _ _ ho9,aN.cls,aN.oU,(by show 3<1000;decide), ?_⟩;refine g _ _ ?_;have RP:tn≠o:=(aB ho9 htn).symm;have HJ:(upd (upd H9 tn (.lst [])) o (.ins ao dx (dg "turns" (.ref tn) [("program",.ref pg),("numbers",.ref nb),("hands",.ref hl)]))) o=some (.ins ao dx (wF pg nb hl tn)):=ak;have Qo:(upd (upd H9 tn (.lst [])) o (.ins ao dx (dg "turns" (.ref tn) [("program",.ref pg),("numbers",.ref nb),("hands",.ref hl)]))) tn=some (.lst []):=by rw [aG RP,ak]
  have Nh:mZ [[i,0]] τ8 H9 (aQ τ8 tn [i,3]) (upd (upd H9 tn (.lst [])) o (.ins ao dx (dg "turns" (.ref tn) [("program",.ref pg),("numbers",.ref nb),("hands",.ref hl)]))):=(mZ.claim YD htn).trans (mZ.set (by rw [aP RP.symm,QJ];simp) (YD _ _ ho9) (by intro xs z;cases z));have B10:Bs H τ o (aQ τ8 tn [i,3]) (upd (upd H9 tn (.lst [])) o (.ins ao dx (dg "turns" (.ref tn) [("program",.ref pg),("numbers",.ref nb),("hands",.ref hl)]))):=(B9.claim YD htn ⟨_,ak⟩).set (.inl rfl);have GQ:aQ τ8 tn [i,3] o=[i,0]:=by rw [aP RP.symm];exact QJ
  have GP:aQ τ8 tn [i,3] tn=[i,3]:=bw;have Dz:=q9.trans Nh;generalize (upd (upd H9 tn (.lst [])) o (.ins ao dx (dg "turns" (.ref tn) [("program",.ref pg),("numbers",.ref nb),("hands",.ref hl)])))=QB at HJ Qo Nh B10 Dz ⊢;generalize aQ τ8 tn [i,3]=Aq at Nh B10 GQ GP Dz;have yr:=Dz.keep _ _ afC (by rw [tl8];simp);have Jl:Aq hl=[i,2]:=yr.2.trans tl8;have yr:=yr.1
  have n5:∀x u,H5 x=some u->τ5 x≠[i,0]->QB x=some u/\Aq x=τ5 x:=fun x u e n=>by
   have:=Dz.keep _ _ (YM _ _ e) (by rw [Mu _ _ e];simp [n]);exact ⟨this.1,by rw [this.2,Mu _ _ e]⟩
  have Ww:=n5 _ _ Uu (by rw [tL5];simp);have Qp:=n5 _ _ Wr (by rw [tn5];simp);have Wn:=Dz.tup _ _ (YM _ _ Wk);have afD:∀(k:Nat) (A:m5) (x:List Rw),hd[k]? = some A->rws[k]? = some x->uG aA i k m Aq QB A (new x):=fun k A x h1 h2=>(ZR k A x h1 h2).1.Mi Dz (by simp) (by simp) (by simp) (by simp)
  have aft:∀(k:Nat) (r:Addr) (x:List Rw),rs[k]? = some r->rws[k]? = some x->Aq r=[0]/\cJ QB r m x:=fun k r x h1 h2=>by
   obtain ⟨t5,R5⟩:=hr5 k r x h1 h2;have rr:=R5;obtain ⟨ts,hts,_⟩:=rr;exact gJ ⟨by rw [Mu _ _ hts];exact t5,R5.same YM⟩ Dz (by simp)
  have lh:hd.length=rws.length:=by rw [V_,lrs,lr]
  refine ⟨_,rfl,o,ao,dx,_,_,rfl,HJ,aN.cls,aN.jZ,rfl,hl,rfl,⟨_,bC.of yr⟩, ?_⟩
  refine oh (K:=K) (a:=hl) (xs:=hd.map fun a=>V.ref a.h) (fun j σ Hc=>∃x1:Option V,σ=[some (.ref o),some (.ref p),some (.ref cl),x1]/\(∀x u,QB x=some u->(∀k,Aq x≠[i,4,k])->(∀k,Aq x≠[i,5,k])->(∀k,Aq x≠[i,6,k])->Hc x=some u)/\(∀x ys,QB x=some (.tup ys)->Hc x=some (.tup ys))/\Bs H τ o Aq Hc /\
   ∀(k:Nat) (A:m5) (x:List Rw),hd[k]? = some A->rws[k]? = some x->uG aA i k m Aq Hc A (if k<j then lead (new x) else new x))
   ⟨none,rfl,fun x u e _ _ _=>e,fun x ys e=>e,B10,fun k A x h1 h2=>by rw [if_neg (by omega)];exact afD k A x h1 h2⟩ (fun j σ Hc _ ⟨_,_,kc,_⟩=>bC.of (kc _ _ yr (by rw [Jl];simp) (by rw [Jl];simp) (by rw [Jl];simp))) ?_ ?_
  ·rintro j v σ Hc hj ⟨x1,rfl,kc,tc,Bc,hc⟩
   rw [List.getElem?_map] at hj
   obtain ⟨A,eA,rfl⟩:∃A,hd[j]? = some A/\v = .ref A.h:=by
    cases e:hd[j]? with
    | none=>rw [e] at hj;cases hj
    | some A=>rw [e] at hj;exact ⟨A,rfl,(Option.some.inj hj).symm⟩
   have jl:j<rws.length:=by rw [←lh];exact (List.getElem?_eq_some_iff.mp eA).1
   have ex:rws[j]? = some rws[j]:=by simp [jl]
   have a:=hc j A _ eA ex;rw [if_neg (by omega)] at a;refine ⟨_,rfl,A.h,A.hx,_,rfl,a.c.h,rfl,A,_,m,rfl,a.c,a.r,bY a.tr a.tb (by intro z;cases z),bY a.tr a.ty (by intro z;cases z),(by show 0<900000;decide),fun H12 c12 k12=> ?_⟩;have YX:mZ [[i,4,j],[i,5,j],[i,6,j]] Aq Hc Aq H12:=⟨fun x u e n=>⟨k12 _ _ e (fun z=>n (by rw [z,a.th];simp)) (fun z=>n (by rw [z,a.tb];simp)) (fun z=>n (by rw [z,a.ty];simp)),rfl⟩,a.c.tup k12⟩;refine ⟨_,rfl,fun x u e n4 n5 n6=>(YX.keep _ _ (kc x u e n4 n5 n6) (by simp [n4,n5,n6])).1,fun x ys e=>YX.tup _ _ (tc _ _ e), ?_, ?_⟩
   ·obtain ⟨f1,f2,f3⟩:=(ZR j A _ eA ex).2
    refine ⟨Bc.un.dom fun x e=> ?_,fun x u e n=>k12 _ _ (Bc.kp _ _ e n) (aB e f1) (aB e f2) (aB e f3),Bc.tg⟩;cases q:Hc x with
    | none=>rfl
    | some u=>
      have no:∀y o,H12 y=some o->x≠y:=fun y o h z=>by rw [z,h] at e;cases e
      rw [k12 _ _ q (no _ _ c12.h) (no _ _ c12.b) (no _ _ c12.y)] at e;cases e
   ·intro k A' x h1 h2
    by_cases z:k=j
    ·subst z
     rw [eA] at h1;cases h1;rw [ex] at h2;cases h2;rw [if_pos (by omega)];have lr':(lead (new rws[k])).rws=rws[k]:=mK _ _;refine ⟨c12, ?_,a.tr,a.th,a.tb,a.ty⟩;rw [lr'];exact (gJ ⟨a.tr,a.r⟩ YX (by simp)).2
    ·have b:=(hc k A' x h1 h2).Mi YX (by simp) (by simp [z]) (by simp [z]) (by simp [z])
     by_cases lt:k<j
     ·rw [if_pos lt] at b
      rw [if_pos (by omega)];exact b
     ·rw [if_neg lt] at b
      rw [if_neg (by omega)];exact b
  ·rintro σ H11 ⟨x1,rfl,kc,tc,Bc,hc⟩
   rw [List.length_map] at hc;have kt:∀x u t,QB x=some u->Aq x=t->(∀k,t≠[i,4,k])->(∀k,t≠[i,5,k])->(∀k,t≠[i,6,k])->H11 x=some u:=fun x u t e et n4 n5 n6=>kc x u e (by rw [et];exact n4) (by rw [et];exact n5) (by rw [et];exact n6);have Vh:Aq L=[0]:=Ww.2.trans tL5;have Va:Aq nb=[i,1]:=Qp.2.trans tn5
   have get:∀(k:Nat) (s:aX),(rws.map fun r=>lead (new r))[k]? = some s -> ∃x,rws[k]? = some x/\s=lead (new x):=fun k s e=>by
    rw [List.getElem?_map] at e;cases q:rws[k]? with
    | none=>rw [q] at e;cases e
    | some x=>rw [q] at e;exact ⟨x,rfl,(Option.some.inj e).symm⟩
   refine k1 good Aq ⟨o,dx,pg,L,nb,hl,tn,rs,hd⟩ H11 rfl ⟨Bc.un,i0,kt _ _ _ HJ GQ (by simp) (by simp) (by simp),tc _ _ Wn,kt _ _ _ Ww.1 Vh (by simp) (by simp) (by simp),kt _ _ _ Qp.1 Va (by simp) (by simp) (by simp),kt _ _ _ yr Jl (by simp) (by simp) (by simp),kt _ _ _ Qo GP (by simp) (by simp) (by simp),GQ,Va,Jl,GP,Vh, ?_, ?_, ?_, ?_, ?_, ?_, ?_, ?_⟩ Bc.tg Bc.kp
   ·show rs.length=(rws.map _).length
    rw [List.length_map,lrs,lr]
   ·intro k r s h1 h2
    obtain ⟨x,ex,rfl⟩:=get k s h2;obtain ⟨t1,R1⟩:=aft k r x h1 ex;have lr':(lead (new x)).rws=x:=mK _ _;rw [lr'];exact ⟨t1,R1.keep (fun u e=>kt _ _ _ e t1 (by simp) (by simp) (by simp)) tc⟩
   ·show hd.length=(rws.map _).length
    rw [List.length_map,lh]
   ·intro k A s h1 h2
    obtain ⟨x,ex,rfl⟩:=get k s h2;have:=hc k A x h1 ex;rw [if_pos (List.getElem?_eq_some_iff.mp h1).1] at this;exact this
   ·intro s ms
    obtain ⟨x,_,rfl⟩:=List.mem_map.mp ms;exact Ef _ _
   ·intro s ms
    obtain ⟨x,_,rfl⟩:=List.mem_map.mp ms;exact Ed 60 (new x)
   ·have:=good.1
    show ns.length=m;omega
   ·show (rws.map _).length<=100
    rw [List.length_map];exact rl
structure RT (τ:Tg) (H:Hp) (r:Addr):Prop where
 R:dj H r
 off:∀x o,H x=some o->τ x≠[]->x≠r/\Off H r x
 un:oF τ H
theorem RT.draw {τ:Tg} {H H':Hp} {r:Addr} (h:RT τ H r) (k:KR r H H') (R':dj H' r):RT τ H' r:=by
 have un':oF τ H':=h.un.dom fun x e=>by
  refine Kp.new k.1 e ?_;exact R'.at
 refine ⟨R',fun x o e t=> ?_,un'⟩;cases q:H x with
 | none=>exact absurd (h.un x q) t
 | some u=>
   obtain ⟨n,f⟩:=h.off x u q t;exact ⟨n,k.2 x u q n f⟩
theorem RT.stp {τ:Tg} {H H':Hp} {r:Addr} {i:Nat} (h:RT τ H r) (k:Cv i τ H H'):RT τ H' r:=by
 obtain ⟨g,c,gs,cs,p,t,e1,e2,e3,q⟩:=h.R
 have tr:τ r=[]:=by
  by_cases z:τ r=[]
  ·exact z
  ·exact absurd rfl (h.off r _ e1 z).1
 have tg:τ g=[]:=by
  by_cases z:τ g=[]
  ·exact z
  ·exact absurd rfl ((h.off g _ e2 z).2 _ _ _ _ e1).1
 have tc:τ c=[]:=by
  by_cases z:τ c=[]
  ·exact z
  ·exact absurd rfl ((h.off c _ e3 z).2 _ _ _ _ e1).2
 have e1':=k.keep _ _ e1 (by rw [tr];simp);refine ⟨⟨g,c,gs,cs,p,t,e1',k.keep _ _ e2 (by rw [tg];simp),k.keep _ _ e3 (by rw [tc];simp),q⟩,fun x o e t=> ?_,h.un.dom k.dom⟩;cases q:H x with
 | none=>exact absurd (h.un x q) t
 | some u=>
   obtain ⟨n,f⟩:=h.off x u q t;refine ⟨n,fun g' c' u' v' e'=> ?_⟩;rw [e1'] at e';cases e';exact f _ _ _ _ e1
theorem RT.same {τ:Tg} {H H':Hp} {r:Addr} (h:RT τ H r) (k:Same H H'):RT τ H' r:=h.stp (i:=0) (Cv.of_same k)
theorem RT.kr {τ:Tg} {H H':Hp} {r:Addr} {i:Nat} (h:RT τ H r) (k:KR r H H'):Mv i τ H τ H':=⟨fun x o e t=>⟨k.1 _ _ e (h.off x o e (by
 rcases t with t|t
 ·rw [t];simp
 ·intro z;rw [z] at t;cases t)).1,rfl⟩,h.R.tups k.1⟩
theorem RT.keep {τ:Tg} {H H':Hp} {r x:Addr} {o:HO} (h:RT τ H r) (k:KR r H H') (e:H x=some o) (t:τ x≠[]):H' x=some o:=k.1 _ _ e (h.off x o e t).1
theorem RT.claim {τ:Tg} {H H':Hp} {r p:Addr} {t:List Nat} (h:RT τ H r) (k:Same H H') (hp:H p=none) (hp':∃o,H' p=some o):RT (aQ τ p t) H' r:=by
 have h':=h.same k;refine ⟨h'.R,fun x o e n=> ?_,h.un.claim k hp'⟩
 by_cases z:x=p
 ·subst z
  exact ⟨h.R.ne hp,(h.R.off hp).same h.R k⟩
 ·rw [aP z] at n
  exact h'.off x o e n
theorem RT.made {τ τ':Tg} {H H':Hp} {r:Addr} (h:RT τ H r) (k:Same H H') (tg:∀x u,H x=some u->τ' x=τ x) (un:oF τ' H'):RT τ' H' r:=by
 have h':=h.same k;refine ⟨h'.R,fun x o e n=> ?_,un⟩;cases q:H x with
 | some u=>exact h'.off x o e (by rw [←tg x u q];exact n)
 | none=>exact ⟨h.R.ne q,(h.R.off q).same h.R k⟩
theorem TJ:∀b:Fin 8,wU (Str.ofString "abcdefgh").cps.toList ((b.val:Nat):Int)=some (97+b.val):=by decide +kernel
theorem zY {i:Int} (h0:0<=i) (h1:i<8):wU (Str.ofString "abcdefgh").cps.toList i=some (97+i.toNat):=by
 have:=TJ ⟨i.toNat,by omega⟩;simp only [Int.toNat_of_nonneg h0] at this;exact this
theorem Ab:(Str.ofString "abcdefgh").length<=sizeLine:=by rw [sizeLine_eq];decide
theorem oA {H:Hp} {p:Addr} {x:Iu} (h:H p=some (.tup (match x with | .num n=>[.str "number",.int n] | .box b=>[.str "box",.str (qt b)]))):Dat H (.ref p) (wZ x):=by
 cases x<;>simp only [wZ,Dat]<;>refine ⟨p,_,rfl,h, ?_⟩<;>simp only [bf,Dat,and_true]
theorem O_ {H:Hp} {p:Addr} {a b:V} {q:Bool} {x y:Iu} (h:H p=some (.tup [.str (if q then "plus" else "minus"),a,b])) (da:Dat H a (wZ x)) (db:Dat H b (wZ y)):Dat H (.ref p) (lD (.two q x y)):=by
 simp only [lD,Dat];refine ⟨p,_,rfl,h, ?_⟩;simp only [bf,Dat,and_true];exact ⟨trivial,da,db⟩
def yR (K:PySem.W.Frag):Sp:=fun vs H Q _=>∃(r:Addr) (b:Int),vs=[.ref r,.int b]/\dj H r/\0<b/\b<=8 /\ ∀(v:V) (x:Iu) (H':Hp),Dat H' v (wZ x)->Jd x->dj H' r->KR r H H'->Q v H'
theorem JX {f:Addr} {fd:FuncData} (F:iY K "_law_plain" "_law_plain" g_ f fd) (bL:FnAt P w K mg base 1 "_law_draw" ["reel","many"] (gR K)):bV P w K mg base iD 2 f fd ["reel","boxes"] (yR K):=by
 refine F.ok yc (fun vs H Q E h=> ?_) (fun cdv A outer s H vs Q E hr h=> ?_)
 ·obtain ⟨r,b,rfl,_⟩:=h
  rfl
 ·obtain ⟨r,b,rfl,R,b0,b1,k⟩:=h
  refine ⟨_,(aC (aY (i:=2) yc.nd rfl (Or.inl rfl) (bD bL (hr.mono (by decide)) (by rfl) (aj (pv 0) (aj aq au))))
   (aC (bU (aR cT (pv 2) aq (aV _)) (aH (bA (bR (aj aW (aj (bD bL (hr.mono (by decide)) (by rfl) (aj (pv 0) (aj aq au))) au))))) bB)
   (aC (bU (aR cT (pv 2) aq (aV _)) (aH (bA (bR (aj aW (aj (bD bL (hr.mono (by decide)) (by rfl) (aj (pv 0) (aj aq au))) au))))) bB)
   (aH (bA (bR (aj aW (aj (aO zH aW (bD bL (hr.mono (by decide)) (by rfl) (aj (pv 0) (aj (pv 1) au))) (fun _ _=>rfl)) au)))))))), ?_⟩
  refine ⟨_,rfl,r,3,rfl,R,by decide,by decide,fun z H1 z0 z1 R1 k1=> ?_⟩
  have num:∀(H2:Hp) (n:Int) (p:Addr),0<=n->n<1000->dj H2 r->KR r H H2->H2 p=none->Q (.ref p) (upd H2 p (.tup [.str "number",.int n])):=fun H2 n p n0 n1 R2 k2 hp=>by
   have sp:=aF (o:=HO.tup [V.str (Str.ofString "number"),V.int n]) hp;exact k _ (.num n) _ (oA (x:= .num n) ak) ⟨n0,n1⟩ (R2.keep sp) (k2.trans (KR.same R2 sp))
  refine ⟨_,rfl,rfl,_,rfl, ?_⟩;refine bH (fun _=> ?_) (fun _=> ?_)
  ·refine ⟨_,rfl,r,1000,rfl,R1,by decide,by decide,fun n H2 n0 n1 R2 k2=> ?_⟩
   exact ⟨(by show 2<=sizeLine;decide),fun p hp=>num H2 n p n0 n1 R2 (k1.trans k2) hp⟩
  refine ⟨_,rfl,rfl,_,rfl, ?_⟩;refine bH (fun _=> ?_) (fun _=> ?_)
  ·refine ⟨_,rfl,r,4,rfl,R1,by decide,by decide,fun n H2 n0 n1 R2 k2=> ?_⟩
   exact ⟨(by show 2<=sizeLine;decide),fun p hp=>num H2 n p n0 (by omega) R2 (k1.trans k2) hp⟩
  refine ⟨_,rfl,_,rfl,r,b,rfl,R1,b0,by omega,fun n H2 n0 n1 R2 k2=> ?_⟩;refine ⟨_,_,_,rfl,rfl,Ab,zY n0 (by omega),(by show 2<=sizeLine;decide),fun p hp=> ?_⟩;have sp:=aF (o:=HO.tup [V.str (Str.ofString "box"),V.str (qt n.toNat)]) hp;exact k _ (.box n.toNat) _ (oA (x:= .box n.toNat) ak) (by show n.toNat<8;omega) (R2.keep sp) ((k1.trans k2).trans (KR.same R2 sp))
def yN (K:PySem.W.Frag):Sp:=fun vs H Q _=>∃(r:Addr) (b:Int),vs=[.ref r,.int b]/\dj H r/\0<b/\b<=8 /\ ∀(v:V) (e:Ao) (H':Hp),Dat H' v (lD e)->pB e->dj H' r->KR r H H'->Q v H'
theorem JQ {f:Addr} {fd:FuncData} (F:iY K "_law_worth" "_law_worth" gW f fd) (bL:FnAt P w K mg base 1 "_law_draw" ["reel","many"] (gR K)) (Cy:FnAt P w K mg base 2 "_law_plain" ["reel","boxes"] (yR K)):bV P w K mg base iD 3 f fd ["reel","boxes"] (yN K):=by
 refine F.ok rY (fun vs H Q E h=> ?_) (fun cdv A outer s H vs Q E hr h=> ?_)
 ·obtain ⟨r,b,rfl,_⟩:=h
  rfl
 ·obtain ⟨r,b,rfl,R,b0,b1,k⟩:=h
  refine ⟨_,(aC (aY (i:=2) rY.nd rfl (Or.inl rfl) (bD bL (hr.mono (by decide)) (by rfl) (aj (pv 0) (aj aq au))))
   (aC (aY (i:=3) rY.nd rfl (Or.inl rfl) (bD Cy (hr.mono (by decide)) (by rfl) (aj (pv 0) (aj (pv 1) au))))
   (aC (bU (aR iG (pv 2) aq (aV _)) (aH (bA (pv 3))) bB)
   (aH (bA (bR (aj (aO (aL (K:=K) rfl) (bZ (aj aW (aj aW au))) (bJ mH (pv 2) aq) (fun _ _=>rfl)) (aj (pv 3) (aj (bD Cy (hr.mono (by decide)) (by rfl) (aj (pv 0) (aj (pv 1) au))) au))))))))), ?_⟩
  refine ⟨_,rfl,r,4,rfl,R,by decide,by decide,fun z H1 z0 z1 R1 k1=> ?_⟩;refine ⟨_,rfl,_,rfl,r,b,rfl,R1,b0,b1,fun v x H2 dx xo R2 k2=> ?_⟩;refine ⟨_,rfl,_,_,rfl,rfl,_,rfl, ?_⟩;have k12:=k1.trans k2;refine bH (fun _=> ?_) (fun zz=> ?_)
  ·exact ⟨_,rfl,k v (.one x) H2 dx xo R2 k12⟩
  have z2:2<=z:=by simp at zz;omega
  refine ⟨(by show 2<=sizeLine;decide),fun l hl=> ?_⟩;have sl:=aF (o:=HO.lst [V.str (Str.ofString "plus"),V.str (Str.ofString "minus")]) hl
  obtain ⟨q,eq⟩:∃q:Bool,wU [V.str (Str.ofString "plus"),V.str (Str.ofString "minus")] (z - 2)=some (.str (if q then "plus" else "minus")):=by
   have:z=2\/z=3:=by omega
   rcases this with rfl|rfl
   ·exact ⟨true,rfl⟩
   ·exact ⟨false,rfl⟩
  refine ⟨_,rfl,_,_,rfl,rfl,_,_,_,_,rfl,rfl,bC.of ak,eq, ?_⟩;have R3:=R2.keep sl;refine ⟨_,rfl,_,rfl,_,rfl,r,b,rfl,R3,b0,b1,fun u y H4 dy yo R4 k4=> ?_⟩;refine ⟨(by show 3<=sizeLine;decide),fun p hp=> ?_⟩;have sp:=aF (o:=HO.tup [V.str (if q then "plus" else "minus"),v,u]) hp;have dx4:=dx.keep (fun a xs e=>sp _ _ (k4.tups R3 _ _ (sl _ _ e))) _ (Ej x);exact k _ (.two q x y) _ (O_ ak dx4 (dy.same sp _)) ⟨xo,yo⟩ (R4.keep sp) (((k12.trans (KR.same R2 sl)).trans k4).trans (KR.same R4 sp))
def tX (n:Nat) (K:PySem.W.Frag):Sp:=fun vs H Q _=>∃(b:Addr) (v:V) (e:Ao) (bs:List Int),vs=[.ref b,v]/\H b=some (.lst (bs.map V.int))/\bs.length=8/\Dat H v (lD e)/\pB e/\ud e<=n/\Q (.int (vx bs e)) H
theorem Ob {f:Addr} {fd:FuncData} (F:iY K "_law_now" "_law_now" kJ f fd):bV P w K mg base iD 1 f fd ["boxes","told"] (tX 0 K):=by
 refine F.ok Fw (fun vs H Q E h=> ?_) (fun cdv A outer s H vs Q E hr h=> ?_)
 ·obtain ⟨b,v,e,bs,rfl,_,_,_,_,z,_⟩:=h
  cases e<;>simp [ud] at z
 ·obtain ⟨b,v,e,bs,rfl,_,_,_,_,z,_⟩:=h
  cases e<;>simp [ud] at z
theorem Ga {n:Nat} {f:Addr} {fd:FuncData} (F:iY K "_law_now" "_law_now" kJ f fd) (jP:FnAt P w K mg base (n+1) "_law_now" ["boxes","told"] (tX n K)):bV P w K mg base iD (n+1+1) f fd ["boxes","told"] (tX (n+1) K):=by
 refine F.ok Fw (fun vs H Q E h=> ?_) (fun cdv A outer s H vs Q E hr h=> ?_)
 ·obtain ⟨b,v,e,bs,rfl,_⟩:=h
  rfl
 ·obtain ⟨bb,v,e,bs,rfl,hb,bl,d,eo,dp,k⟩:=h
  refine ⟨_,(aC (bU (aR cT (aO (aU (K:=K) rfl) (pv 1) aq (fun _ _=>rfl)) aW (aV _)) (aH (bA (aO (aU (K:=K) rfl) (pv 1) aq (fun _ _=>rfl)))) bB)
   (aC (bU (aR cT (aO (aU (K:=K) rfl) (pv 1) aq (fun _ _=>rfl)) aW (aV _)) (aH (bA (aO (aL (K:=K) rfl) (pv 0) (sI (K:=K) rfl PySem.F.plainAttrs_str PySem.F.slot_str_index PySem.F.type_str_index lC aW (aj (aO (aU (K:=K) rfl) (pv 1) aq (fun _ _=>rfl)) au)) (fun _ _=>rfl)))) bB)
   (aC (bU (aR cT (aO (aU (K:=K) rfl) (pv 1) aq (fun _ _=>rfl)) aW (aV _)) (aH (bA (bJ jL (bJ dM (bD jP (hr.mono (Nat.le_refl _)) (by rfl) (aj (pv 0) (aj (aO (aU (K:=K) rfl) (pv 1) aq (fun _ _=>rfl)) au))) (bD jP (hr.mono (Nat.le_refl _)) (by rfl) (aj (pv 0) (aj (aO (aU (K:=K) rfl) (pv 1) aq (fun _ _=>rfl)) au)))) aq))) bB)
   (aH (bA (bJ jL (bJ mH (bD jP (hr.mono (Nat.le_refl _)) (by rfl) (aj (pv 0) (aj (aO (aU (K:=K) rfl) (pv 1) aq (fun _ _=>rfl)) au))) (bD jP (hr.mono (Nat.le_refl _)) (by rfl) (aj (pv 0) (aj (aO (aU (K:=K) rfl) (pv 1) aq (fun _ _=>rfl)) au)))) aq)))))), ?_⟩
  match e,d,eo,dp,k with
  | .one (.num m),d,eo,dp,k=>
    obtain ⟨t,rfl,ht⟩:=GD (x:= .num m) d;refine ⟨_,rfl,_,_,_,_,rfl,rfl,cA.of ht,rfl,rfl,_,rfl, ?_⟩;refine bH (fun _=> ?_) (fun z=>absurd (decide_eq_true rfl) z);refine ⟨_,rfl,_,_,_,_,rfl,rfl,cA.of ht,rfl, ?_⟩;have e0:0<=m/\m<1000:=eo;have:vx bs (.one (.num m))=m:=Int.emod_eq_of_lt e0.1 e0.2;rw [this] at k;exact k
  | .one (.box b),d,eo,dp,k=>
    obtain ⟨t,rfl,ht⟩:=GD (x:= .box b) d;refine ⟨_,rfl,_,_,_,_,rfl,rfl,cA.of ht,rfl,rfl,_,rfl, ?_⟩;refine bH (fun z=>absurd (of_decide_eq_true z) (by decide)) (fun _=> ?_);refine ⟨_,rfl,_,_,_,_,rfl,rfl,cA.of ht,rfl,rfl,_,rfl, ?_⟩;refine bH (fun _=> ?_) (fun z=>absurd (decide_eq_true rfl) z);have hb8:b<8:=eo;refine ⟨_,rfl,rfl,_,rfl,_,_,_,_,rfl,rfl,cA.of ht,rfl,_,_,b,[],rfl,rfl,tK hb8,_,_,_,_,rfl,rfl,bC.of hb,cg (v:= .int ((bs[b]?).getD 0)) ?_,k⟩;have hl:b<bs.length:=by rw [bl];exact hb8
    rw [List.getElem?_map,List.getElem?_eq_getElem hl];rfl
  | .two p x y,d,eo,dp,k=>
    obtain ⟨t,u,w',rfl,ht,du,dw⟩:=LC d;have e1:pB (.one x)/\pB (.one y):=eo
    have dn:1<=n:=by
     have:2<=n+1:=dp;omega
    have np:∀q:Bool,(Str.ofString "number")≠(if q then Str.ofString "plus" else Str.ofString "minus"):=by decide +kernel
    have nb:∀q:Bool,(Str.ofString "box")≠(if q then Str.ofString "plus" else Str.ofString "minus"):=by decide +kernel
    refine ⟨_,rfl,_,_,_,_,rfl,rfl,cA.of ht,rfl,rfl,_,rfl, ?_⟩;refine bH (fun z=>absurd (by simpa using (of_decide_eq_true z).symm) (np p)) (fun _=> ?_);refine ⟨_,rfl,_,_,_,_,rfl,rfl,cA.of ht,rfl,rfl,_,rfl, ?_⟩;refine bH (fun z=>absurd (by simpa using (of_decide_eq_true z).symm) (nb p)) (fun _=> ?_);refine ⟨_,rfl,_,_,_,_,rfl,rfl,cA.of ht,rfl,rfl,_,rfl, ?_⟩;cases p with
    | true=>
      refine bH (fun _=> ?_) (fun z=>absurd (decide_eq_true rfl) z);exact ⟨_,rfl,_,rfl,_,_,_,_,rfl,rfl,cA.of ht,rfl,bb,u,.one x,bs,rfl,hb,bl,du,e1.1,dn,_,rfl,_,rfl,_,_,_,_,rfl,rfl,cA.of ht,rfl,bb,w',.one y,bs,rfl,hb,bl,dw,e1.2,dn,_,_,rfl,rfl,_,_,rfl,rfl,(by show (0:Int)<1000;decide),k⟩
    | false=>
      refine bH (fun z=>absurd (of_decide_eq_true z) (by decide)) (fun _=> ?_);exact ⟨_,rfl,_,rfl,_,_,_,_,rfl,rfl,cA.of ht,rfl,bb,u,.one x,bs,rfl,hb,bl,du,e1.1,dn,_,rfl,_,rfl,_,_,_,_,rfl,rfl,cA.of ht,rfl,bb,w',.one y,bs,rfl,hb,bl,dw,e1.2,dn,_,_,rfl,rfl,_,_,rfl,rfl,(by show (0:Int)<1000;decide),k⟩
section
variable {H:Hp} {p:Addr} {x y:V} {b c n:Nat} {e f:Ao}
theorem wH (h:H p=some (.tup [.str "load",.str (qt b),.int c])):Dat H (.ref p) (gD (.load b c)):=by
 simp only [gD,Dat];exact ⟨p,_,rfl,h,by simp only [bf,Dat,and_true]⟩
theorem sZ (h:H p=some (.tup [.str "store",.int c,x])) (d:Dat H x (lD e)):Dat H (.ref p) (gD (.store c e)):=by
 simp only [gD,Dat];exact ⟨p,_,rfl,h,by simp only [bf,Dat,and_true,true_and];exact d⟩
theorem Lh (h:H p=some (.tup [.str "swap",.str (qt b),.int c,x])) (d:Dat H x (lD e)):Dat H (.ref p) (gD (.swap b c e)):=by
 simp only [gD,Dat];exact ⟨p,_,rfl,h,by simp only [bf,Dat,and_true,true_and];exact d⟩
theorem Pb (h:H p=some (.tup [.str "let",.str (qt b),x])) (d:Dat H x (lD e)):Dat H (.ref p) (gD (.o_ b e)):=by
 simp only [gD,Dat];exact ⟨p,_,rfl,h,by simp only [bf,Dat,and_true,true_and];exact d⟩
theorem Pa (h:H p=some (.tup [.str "say",x])) (d:Dat H x (lD e)):Dat H (.ref p) (gD (.say e)):=by
 simp only [gD,Dat];exact ⟨p,_,rfl,h,by simp only [bf,Dat,and_true,true_and];exact d⟩
theorem El (h:H p=some (.tup [.str "go",.int n])):Dat H (.ref p) (gD (.go n)):=by
 simp only [gD,Dat];exact ⟨p,_,rfl,h,by simp only [bf,Dat,and_true]⟩
theorem zR {q:Bool} (h:H p=some (.tup [.str "unless",.str (if q then "=" else "<"),x,y,.int n])) (d:Dat H x (lD e)) (d':Dat H y (lD f)):Dat H (.ref p) (gD (.mX q e f n)):=by
 simp only [gD,Dat];exact ⟨p,_,rfl,h,by simp only [bf,Dat,and_true,true_and];exact ⟨d,d'⟩⟩
end
def rQ (CH:Addr) (K:PySem.W.Frag):Sp:=fun vs H Q _=>∃(A:m5) (s:aX),vs=[.ref A.h]/\mQ CH H A s /\ ∀(B:m5) (H':Hp),H B.h=none->H B.b=none->H B.sy=none->B.r=A.r->mQ CH H' B s->Same H H'->Q (.ref B.h) H'
theorem Rg (r b b' sy:Addr) (n:Int) (st:Str):dg "in_boxes" (.ref b') (hF r n b sy st)=hF r n b' sy st:=by rfl
theorem Rf (r b sy sy':Addr) (n:Int) (st:Str):dg "sayings" (.ref sy') (hF r n b sy st)=hF r n b sy' st:=by rfl
theorem DR {aA:Addr} {f:Addr} {fd:FuncData} (F:iY K "another" "Hand.another" cR f fd) (aJ:eX K aA) (Ey:oH P w K mg base 1 aA "Hand" ["self","rows"] [] (uJ aA K)) (Bt:o8 mg):bV P w K mg base iD 3 f fd ["self"] (rQ aA K):=by
 refine F.ok mU (fun vs H Q E h=> ?_) (fun cdv A outer s H vs Q E hr h=> ?_)
 ·obtain ⟨A,s,rfl,_⟩:=h
  rfl
 ·obtain ⟨B,s,rfl,c,k⟩:=h
  refine ⟨_,(aC (aY (i:=1) mU.nd rfl (Or.inl rfl) (nG Ey (hr.mono (by decide)) (by rfl) (aj (bI (K:=K) rfl (pv 0) rfl) au)))
   (aC (dX (K:=K) rfl (pv 1) (bI (K:=K) rfl (pv 0) rfl) rfl)
   (aC (dX (K:=K) rfl (pv 1) (b_ (bQ (K:=K) rfl) (by rfl) Bt.fZ eO (aj (bI (K:=K) rfl (pv 0) rfl) au)) rfl)
   (aC (dX (K:=K) rfl (pv 1) (b_ (bQ (K:=K) rfl) (by rfl) Bt.fZ eO (aj (bI (K:=K) rfl (pv 0) rfl) au)) rfl)
   (aC (dX (K:=K) rfl (pv 1) (bI (K:=K) rfl (pv 0) rfl) rfl)
   (aH (bA (pv 1)))))))), ?_⟩
  refine ⟨_,rfl,B.h,aA,B.hx,_,_,rfl,c.h,aJ.cls,aJ.nM,rfl,fun h hx hh hhx nx=> ?_⟩;have hh':(upd H hx (.own h)) h=none:=by rw [aG nx.symm];exact hh
  have sm:Same H (upd (upd H hx (.own h)) h (.ins aA hx [])):=(aF hhx).trans (aF hh');refine ⟨h,B.r,hx,rfl,ak,fun b0 Mz H1 hb0 amd alG e1 eb1 amH k1=>⟨rfl, ?_⟩⟩;have S1:Same H H1:=fun x u e=>k1 _ _ (sm _ _ e) (aB e hh);clear k1 sm hh';have c1:=c.same S1;refine ⟨_,rfl,B.h,aA,B.hx,_,_,rfl,c1.h,aJ.cls,aJ.qO,rfl,_,rfl,h,aA,hx,_,rfl,e1,aJ.cls,aJ.qO,(by show 5<1000;decide), ?_⟩;rw [vM];have S2:Same H (upd H1 h (.ins aA hx (hF B.r s.pos b0 Mz "waits"))):=fun x u e=>by rw [aG (aB e hh)];exact S1 _ _ e
  have e2:(upd H1 h (.ins aA hx (hF B.r s.pos b0 Mz "waits"))) h=some (.ins aA hx (hF B.r s.pos b0 Mz "waits")):=ak;generalize (upd H1 h (.ins aA hx (hF B.r s.pos b0 Mz "waits")))=H2 at S2 e2 ⊢;have c2:=c.same S2;refine ⟨_,rfl,B.h,aA,B.hx,_,_,rfl,c2.h,aJ.cls,aJ.gQ,rfl,B.b,_,rfl,.inl (bC.of c2.b),fun b hb=> ?_⟩;have sb:=aF (o:=HO.lst (s.bs.map V.int)) hb;have zF:b≠h:=(aB e2 hb).symm;refine ⟨_,rfl,h,aA,hx,_,rfl,sb _ _ e2,aJ.cls,aJ.gQ,(by show 5<1000;decide), ?_⟩;rw [Rg];have fb:H b=none:=S2.free hb;have S3:Same H (upd (upd H2 b (.lst (s.bs.map V.int))) h (.ins aA hx (hF B.r s.pos b Mz "waits"))):=fun x u e=>by rw [aG (aB e hh)];exact sb _ _ (S2 _ _ e)
  have e3:(upd (upd H2 b (.lst (s.bs.map V.int))) h (.ins aA hx (hF B.r s.pos b Mz "waits"))) h=some (.ins aA hx (hF B.r s.pos b Mz "waits")):=ak;have Tj:(upd (upd H2 b (.lst (s.bs.map V.int))) h (.ins aA hx (hF B.r s.pos b Mz "waits"))) b=some (.lst (s.bs.map V.int)):=by rw [aG zF,ak]
  generalize (upd (upd H2 b (.lst (s.bs.map V.int))) h (.ins aA hx (hF B.r s.pos b Mz "waits")))=H3 at S3 e3 Tj ⊢;have c3:=c.same S3;refine ⟨_,rfl,B.h,aA,B.hx,_,_,rfl,c3.h,aJ.cls,aJ.jE,rfl,B.sy,_,rfl,.inl (bC.of c3.y),fun y hy=> ?_⟩;have sy:=aF (o:=HO.lst (s.sy.map V.int)) hy;have Ak:y≠h:=(aB e3 hy).symm;have tY:b≠y:=aB Tj hy;refine ⟨_,rfl,h,aA,hx,_,rfl,sy _ _ e3,aJ.cls,aJ.jE,(by show 5<1000;decide), ?_⟩;rw [Rf];have fy:H y=none:=S3.free hy;have S4:Same H (upd (upd H3 y (.lst (s.sy.map V.int))) h (.ins aA hx (hF B.r s.pos b y "waits"))):=fun x u e=>by rw [aG (aB e hh)];exact sy _ _ (S3 _ _ e)
  have e4:(upd (upd H3 y (.lst (s.sy.map V.int))) h (.ins aA hx (hF B.r s.pos b y "waits"))) h=some (.ins aA hx (hF B.r s.pos b y "waits")):=ak;have Uz:(upd (upd H3 y (.lst (s.sy.map V.int))) h (.ins aA hx (hF B.r s.pos b y "waits"))) b=some (.lst (s.bs.map V.int)):=by rw [aG zF];exact sy _ _ Tj
  have ey4:(upd (upd H3 y (.lst (s.sy.map V.int))) h (.ins aA hx (hF B.r s.pos b y "waits"))) y=some (.lst (s.sy.map V.int)):=by rw [aG Ak,ak]
  generalize (upd (upd H3 y (.lst (s.sy.map V.int))) h (.ins aA hx (hF B.r s.pos b y "waits")))=H4 at S4 e4 Uz ey4 ⊢;have c4:=c.same S4;refine ⟨_,rfl,B.h,aA,B.hx,_,_,rfl,c4.h,aJ.cls,aJ.jC,rfl,_,rfl,h,aA,hx,_,rfl,e4,aJ.cls,aJ.jC,(by show 5<1000;decide), ?_⟩;rw [zq];exact ⟨_,rfl,k ⟨h,hx,B.r,b,y⟩ _ hh fb fy rfl ⟨ak,by rw [aG zF];exact Uz,by rw [aG Ak];exact ey4,tY,c.bl⟩ (fun x u e=>by rw [aG (aB e hh)];exact S4 _ _ e)⟩
def Dn (CW CH:Addr) (K:PySem.W.Frag):Sp:=fun vs H Q _=>∃(i i':Nat) (τ:Tg) (W:xT) (S:jR),vs=[.ref W.o]/\j6 CW CH i τ H W S/\iB S/\S.m<=100/\i'≠0 /\ ∀(τ':Tg) (W':xT) (H':Hp),j6 CW CH i' τ' H' W' S->(∀x u,H x=some u->τ' x=τ x)->Same H H'->Q (.ref W'.o) H'
theorem NP {ao aA aZ:Addr} {f:Addr} {fd:FuncData} (F:iY K "twin" "Works.twin" dG f fd) (aN:dD K ao) (aJ:eX K aA) (Ae:oH P w K mg base 7 ao "Works" ["self","program","cells"] [] (fun vs H Q _=>ju ao aA aZ K vs H Q fun _ _ _=>False)) (wX:MethAt P w K mg base 3 aA "another" ["self"] (rQ aA K)) (Bt:o8 mg):bV P w K mg base iD 9 f fd ["self"] (Dn ao aA K):=by
 refine F.ok pC (fun vs H Q E h=> ?_) (fun cdv A outer s H vs Q E hr h=> ?_)
 ·obtain ⟨i,i',τ,W,S,rfl,_⟩:=h
  rfl
 ·obtain ⟨i,i',τ,W,S,rfl,w,g,ml,i0,k⟩:=h
  refine ⟨_,(aC (aY (i:=1) pC.nd rfl (Or.inl rfl) (nG Ae (hr.mono (by decide)) (by rfl) (aj (bI (K:=K) rfl (pv 0) rfl) (aj (bI (K:=K) rfl (pv 0) rfl) au))))
   (aC (dX (K:=K) rfl (pv 1) (gK rfl (N:=["one"]) (own:=["one"]) (caps:=[]) (bK.of (by kernel_rfl)) (dB (K:=K) rfl (bI (K:=K) rfl (pv 0) rfl)) (fun _ _ _ _=>(bG (i:=0) (show List.Nodup (["one"]:List Str) by decide +kernel) rfl (Or.inl rfl))) (fun _ _ _ _=>eU) (fun _ _ _ _=>(cU wX aJ.cls (hr.mono (by decide)) (pv 0)))) rfl)
   (aC (dX (K:=K) rfl (pv 1) (b_ (bQ (K:=K) rfl) (by rfl) Bt.fZ eO (aj (bI (K:=K) rfl (pv 0) rfl) au)) rfl)
   (aH (bA (pv 1)))))), ?_⟩
  have good:p7 S.m S.ns:=⟨by rw [w.nl],g.n⟩;refine ⟨_,rfl,W.o,ao,W.dx,_,_,rfl,w.o,aN.cls,aN.oW,rfl,_,rfl,W.o,ao,W.dx,_,_,rfl,w.o,aN.cls,aN.iM,rfl,fun o dx ho hdx ndx=> ?_⟩;have ho':(upd H dx (.own o)) o=none:=by rw [aG ndx.symm];exact ho
  have sm:Same H (upd (upd H dx (.own o)) o (.ins ao dx [])):=(aF hdx).trans (aF ho');refine ⟨i',τ,o,dx,W.pg,W.L,W.rs,S.m,.ref W.nb,S.ns,S.hs.map aX.rws,rfl,ak,sm _ _ w.pg,sm _ _ w.L,by rw [List.length_map];exact w.rl,fun kk r x h1 h2=> ?_,by rw [List.length_map];exact w.hn,ml,w.un.same sm,i0,by rw [w.nl];exact ml,.inr ⟨W.nb,rfl,sm _ _ w.nb⟩,fun _ τ1 W1 H1 eo w1 tg kp=>⟨rfl, ?_⟩,fun bad=>absurd good bad⟩
  ·rw [List.getElem?_map] at h2
   cases e:S.hs[kk]? with
   | none=>rw [e] at h2;cases h2
   | some s=>rw [e] at h2;cases h2;exact (w.rs kk r s h1 e).2.same sm
  have S1:Same H H1:=fun x u e=>kp _ _ (sm _ _ e) (aB e ho);have CK:∀x u,H x=some u->τ1 x=τ x:=fun x u e=>tg x u (sm _ _ e) (aB e ho);have fo:H W1.o=none:=by rw [eo];exact ho
  have eo':V.ref o=V.ref W1.o:=by rw [eo]
  rw [eo'];clear kp tg sm ho' eo';have wA:j6 ao aA i τ1 H1 W S:=w.mv (Mv.tags S1 CK) w1.un;refine ⟨_,rfl,W.o,ao,W.dx,_,_,rfl,wA.o,aN.cls,aN.jZ,rfl,W.hl,rfl,⟨_,bC.of wA.hl⟩,fun D hD=> ?_⟩;have sD:=aF (o:=HO.lst []) hD;refine iT (K:=K) (xs:=W.hd.map fun a=>V.ref a.h) (fun j σ Hc=>∃(v:Option V) (τc:Tg) (hd:List m5),σ=[v]/\hd.length=j/\Same H1 Hc/\Hc D=some (.lst (hd.map fun a=> .ref a.h))/\oF τc Hc/\(∀x u,H1 x=some u->τc x=τ1 x)/\τc D=[i',2] /\ ∀(k:Nat) (A:m5) (s:aX),hd[k]? = some A->S.hs[k]? = some s->uG aA i' k S.m τc Hc A s) ?_ ?_ ?_ ?_
  ·exact ⟨none,aQ τ1 D [i',2],[],rfl,rfl,sD,ak,w1.un.claim sD ⟨_,ak⟩,fun x u e=>aP (aB e hD),bw,fun k A s e=>by simp at e⟩
  ·rintro j σ Hc _ ⟨v,τc,hd,rfl,_,sc,_⟩
   exact bC.of (sc _ _ wA.hl)
  ·rintro j x σ Hc hj ⟨v,τc,hd,rfl,lj,sc,Al,Uc,xY,tDc,hc⟩
   rw [List.getElem?_map] at hj
   obtain ⟨A,eA,rfl⟩:∃A,W.hd[j]? = some A/\x = .ref A.h:=by
    cases e:W.hd[j]? with
    | none=>rw [e] at hj;cases hj
    | some A=>rw [e] at hj;exact ⟨A,rfl,(Option.some.inj hj).symm⟩
   have wc:j6 ao aA i τc Hc W S:=wA.mv (Mv.tags sc xY) Uc;have jl:j<S.hs.length:=by rw [←w.len];exact (List.getElem?_eq_some_iff.mp eA).1
   have es:S.hs[j]? = some S.hs[j]:=by simp [jl]
   have a:=wc.hd j A _ eA es;dsimp only [dO,rM];rw [if_pos rfl];refine ⟨_,rfl,A.h,A.hx,_,rfl,a.c.h,rfl,A,_,rfl,a.c,fun B H7 fh fb fy er c7 s7=> ?_⟩;have nDh:D≠B.h:=aB Al fh;have nDb:D≠B.b:=aB Al fb;have nDy:D≠B.sy:=aB Al fy;have T:∀x u,Hc x=some u->aQ (aQ (aQ τc B.h [i',4,j]) B.b [i',5,j]) B.sy [i',6,j] x=τc x:=fun y u e=>by rw [aP (aB e fy),aP (aB e fb),aP (aB e fh)]
   have U7:oF (aQ (aQ (aQ τc B.h [i',4,j]) B.b [i',5,j]) B.sy [i',6,j]) H7:=fun y e=>by
    have n1:y≠B.h:=fun z=>by rw [z,c7.h] at e;cases e
    have n2:y≠B.b:=fun z=>by rw [z,c7.b] at e;cases e
    have n3:y≠B.sy:=fun z=>by rw [z,c7.y] at e;cases e
    rw [aP n3,aP n2,aP n1];exact Uc y (s7.free e)
   have Th:aQ (aQ (aQ τc B.h [i',4,j]) B.b [i',5,j]) B.sy [i',6,j] B.h=[i',4,j]:=by rw [aP c7.Ak,aP c7.zF,bw]
   have Tb:aQ (aQ (aQ τc B.h [i',4,j]) B.b [i',5,j]) B.sy [i',6,j] B.b=[i',5,j]:=by rw [aP c7.tY,bw]
   have Ty:aQ (aQ (aQ τc B.h [i',4,j]) B.b [i',5,j]) B.sy [i',6,j] B.sy=[i',6,j]:=bw;generalize aQ (aQ (aQ τc B.h [i',4,j]) B.b [i',5,j]) B.sy [i',6,j]=τ7 at T U7 Th Tb Ty
   have q7:mZ [[i',2]] τc Hc τ7 (upd H7 D (.lst ((hd.map fun a=>V.ref a.h)++[V.ref B.h]))):=by
    refine ⟨fun y u e n=>⟨?_,T y u e⟩,fun y ys e=> ?_⟩
    ·rw [aG (fun z:y=D=>n (by rw [z,tDc];simp))]
     exact s7 _ _ e
    ·rw [aG (cj e Al (by intro z;cases z))]
     exact s7 _ _ e
   have hjl:hd.length<=100:=by rw [lj];have:=w.hn;omega
   refine ⟨_,s7 _ _ Al,(by rw [List.length_map,sizeLine_eq];omega),some (.ref A.h),τ7,hd++[B],rfl,by simp [lj],fun y u e=> ?_,by rw [ak];simp, ?_,fun y u e=> ?_, ?_, ?_⟩
   ·rw [aG (aB e hD)]
    exact s7 _ _ (sc _ _ e)
   ·exact U7.dom fun y e=>by
     by_cases z:y=D
     ·rw [z,ak] at e;cases e
     ·rw [aG z] at e;exact e
   ·rw [T y u (sc _ _ e)]
    exact xY y u e
   ·rw [T _ _ Al];exact tDc
   ·intro k A' s' h1 h2
    rcases iw h1 with h1|⟨e1,rfl⟩
    ·exact (hc k A' s' h1 h2).Mi q7 (by simp) (by simp) (by simp) (by simp)
    ·rw [e1,lj,es] at h2
     cases h2;rw [e1,lj];obtain ⟨t9,R9⟩:=gJ ⟨a.tr,a.r⟩ q7 (by simp);exact ⟨⟨by rw [aG nDh.symm];exact c7.h,by rw [aG nDb.symm];exact c7.b,by rw [aG nDy.symm];exact c7.y,c7.tY,c7.bl⟩,by rw [er];exact R9,by rw [er];exact t9,Th,Tb,Ty⟩
  rintro σ H8 ⟨v,τ8,hd,rfl,V_,YQ,hD8,un8,Mu,tD8,ZR⟩;rw [List.length_map] at V_;have Wo:=YQ _ _ w1.o;have QJ:τ8 W1.o=[i',0]:=by rw [Mu _ _ w1.o];exact w1.to
  refine ⟨_,rfl,W1.o,ao,W1.dx,_,rfl,Wo,aN.cls,aN.jZ,(by show 4<1000;decide), ?_⟩;have ho9:(upd H8 W1.o (.ins ao W1.dx (dg "hands" (.ref D) (wF W1.pg W1.nb W1.hl W1.tn)))) W1.o=some (.ins ao W1.dx (wF W1.pg W1.nb D W1.tn)):=ak;have q9:mZ [[i',0]] τ8 H8 τ8 (upd H8 W1.o (.ins ao W1.dx (dg "hands" (.ref D) (wF W1.pg W1.nb W1.hl W1.tn)))):=mZ.set (by rw [QJ];simp) Wo (by intro xs z;cases z)
  have un9:oF τ8 (upd H8 W1.o (.ins ao W1.dx (dg "hands" (.ref D) (wF W1.pg W1.nb W1.hl W1.tn)))):=un8.dom fun y e=>by
   by_cases z:y=W1.o
   ·rw [z,ak] at e;cases e
   ·rw [aG z] at e;exact e
  have S9:Same H (upd H8 W1.o (.ins ao W1.dx (dg "hands" (.ref D) (wF W1.pg W1.nb W1.hl W1.tn)))):=fun x u e=>by rw [aG (aB e fo)];exact YQ _ _ (S1 _ _ e)
  generalize (upd H8 W1.o (.ins ao W1.dx (dg "hands" (.ref D) (wF W1.pg W1.nb W1.hl W1.tn))))=H9 at ho9 q9 un9 S9 ⊢;have w9:j6 ao aA i τ8 H9 W S:=w.mv (Mv.tags S9 fun x u e=>(Mu x u (S1 _ _ e)).trans (CK x u e)) un9;refine ⟨_,rfl,W.o,ao,W.dx,_,_,rfl,w9.o,aN.cls,aN.oU,rfl,W.tn,_,rfl,.inl (bC.of w9.tn),fun t ht=> ?_⟩;have st:=aF (o:=HO.lst (S.ts.map V.int)) ht;have nto:t≠W1.o:=(aB ho9 ht).symm;refine ⟨_,rfl,W1.o,ao,W1.dx,_,rfl,st _ _ ho9,aN.cls,aN.oU,(by show 4<1000;decide), ?_⟩;have HJ:(upd (upd H9 t (.lst (S.ts.map V.int))) W1.o (.ins ao W1.dx (dg "turns" (.ref t) (wF W1.pg W1.nb D W1.tn)))) W1.o=some (.ins ao W1.dx (wF W1.pg W1.nb D t)):=ak;have Wi:(upd (upd H9 t (.lst (S.ts.map V.int))) W1.o (.ins ao W1.dx (dg "turns" (.ref t) (wF W1.pg W1.nb D W1.tn)))) t=some (.lst (S.ts.map V.int)):=by rw [aG nto,ak]
  have Nh:mZ [[i',0]] τ8 H9 (aQ τ8 t [i',3]) (upd (upd H9 t (.lst (S.ts.map V.int))) W1.o (.ins ao W1.dx (dg "turns" (.ref t) (wF W1.pg W1.nb D W1.tn)))):=(mZ.claim st ht).trans (mZ.set (by rw [aP nto.symm,QJ];simp) (st _ _ ho9) (by intro xs z;cases z))
  have QF:oF (aQ τ8 t [i',3]) (upd (upd H9 t (.lst (S.ts.map V.int))) W1.o (.ins ao W1.dx (dg "turns" (.ref t) (wF W1.pg W1.nb D W1.tn)))):=(un9.claim st ⟨_,ak⟩).dom fun y e=>by
   by_cases z:y=W1.o
   ·rw [z,ak] at e;cases e
   ·rw [aG z] at e;exact e
  have S10:Same H (upd (upd H9 t (.lst (S.ts.map V.int))) W1.o (.ins ao W1.dx (dg "turns" (.ref t) (wF W1.pg W1.nb D W1.tn)))):=fun x u e=>by rw [aG (aB e fo)];exact st _ _ (S9 _ _ e)
  have GQ:aQ τ8 t [i',3] W1.o=[i',0]:=by rw [aP nto.symm];exact QJ
  have GP:aQ τ8 t [i',3] t=[i',3]:=bw;have tgt:∀x u,H x=some u->aQ τ8 t [i',3] x=τ x:=fun x u e=>by rw [aP (aB (S9 _ _ e) ht)];exact (Mu x u (S1 _ _ e)).trans (CK x u e)
  have Q18:mZ [[i',0]] τ1 H1 τ8 H8:=⟨fun x u e _=>⟨YQ _ _ e,Mu x u e⟩,YQ.tups⟩;have Q8:=q9.trans Nh;generalize (upd (upd H9 t (.lst (S.ts.map V.int))) W1.o (.ins ao W1.dx (dg "turns" (.ref t) (wF W1.pg W1.nb D W1.tn))))=QB at HJ Wi Nh QF S10 Q8 ⊢;generalize aQ τ8 t [i',3]=Aq at Nh QF GQ GP tgt Q8;have Q1:=Q18.trans Q8;have hL:=Q1.keep _ _ w1.L (by rw [w1.tL];simp);have hnb:=Q1.keep _ _ w1.nb (by rw [w1.tb];simp);have Gi:=Q8.keep _ _ hD8 (by rw [tD8];simp);refine ⟨_,rfl,k Aq ⟨W1.o,W1.dx,W1.pg,W1.L,W1.nb,D,t,W1.rs,hd⟩ QB ⟨QF,i0,HJ,Q1.tup _ _ w1.pg,hL.1,hnb.1,Gi.1,Wi,GQ,hnb.2.trans w1.tb,Gi.2.trans tD8,GP,hL.2.trans w1.tL, ?_, ?_,by rw [V_,w.len],fun kk A s h1 h2=>(ZR kk A s h1 h2).Mi Q8 (by simp) (by simp) (by simp) (by simp),w.ok,w.sl,w.nl,w.hn⟩ tgt S10⟩
  ·have:=w1.rl
   unfold qj at this;simpa using this
  ·intro kk r s h1 h2
   have e1:(qj S.m S.ns (S.hs.map aX.rws)).hs[kk]? = some (lead (new s.rws)):=by
    show ((S.hs.map aX.rws).map fun r=>lead (new r))[kk]? = _;rw [List.getElem?_map,List.getElem?_map,h2];rfl
   have:=w1.rs kk r _ h1 e1;rw [show (lead (new s.rws)).rws=s.rws from mK _ _] at this;exact gJ this Q1 (by simp)
def Jz (s:aX):V:=if s.st = "waits" then .int s.pos else .non
def Ds (CH:Addr) (K:PySem.W.Frag):Sp:=fun vs H Q _=>∃(A:m5) (s:aX),vs=[.ref A.h]/\mQ CH H A s /\ ∀(t:Addr) (H':Hp),Dat (nw H H') (.ref t) (lB s)->Same H H'->Q (.ref t) H'
theorem Od {aA:Addr} {f:Addr} {fd:FuncData} (F:iY K "picture" "Hand.picture" cP f fd) (aJ:eX K aA) (Bt:o8 mg):bV P w K mg base iD 1 f fd ["self"] (Ds aA K):=by
 refine F.ok mR (fun vs H Q E h=> ?_) (fun cdv A outer s H vs Q E hr h=> ?_)
 ·obtain ⟨A,s,rfl,_⟩:=h
  rfl
 ·obtain ⟨B,s,rfl,c,k⟩:=h
  refine ⟨_,(aC (aY (i:=1) mR.nd rfl (Or.inl rfl) (jK (aR cT (bI (K:=K) rfl (pv 0) rfl) aW (aV _)) (bI (K:=K) rfl (pv 0) rfl) gG))
   (aH (bA (bR (aj (bI (K:=K) rfl (pv 0) rfl) (aj (pv 1) (aj (b_ (bQ (K:=K) rfl) (by rfl) Bt.fZ eO (aj (bI (K:=K) rfl (pv 0) rfl) au)) (aj (b_ (bQ (K:=K) rfl) (by rfl) Bt.fZ eO (aj (bI (K:=K) rfl (pv 0) rfl) au)) au)))))))), ?_⟩
  refine gU (fun σ H1=>σ=[some (.ref B.h),some (Jz s)]/\H1=H) (fun D' hD' rt'=> ?_) ?_
  ·refine ⟨_,rfl,B.h,aA,B.hx,_,_,rfl,c.h,aJ.cls,aJ.jC,rfl,rfl,_,rfl, ?_⟩
   refine bH (fun q=> ?_) (fun q=> ?_)
   ·have hq:s.st=Str.ofString "waits" :=V.str.inj (of_decide_eq_true q)
    refine ⟨_,rfl,B.h,aA,B.hx,_,_,rfl,c.h,aJ.cls,aJ.qO,rfl,hD' _ _ ⟨?_,rfl⟩⟩;unfold Jz;rw [if_pos hq];rfl
   ·have hq:¬s.st=Str.ofString "waits" :=fun z=>q (decide_eq_true (by rw [z]))
    refine hD' _ _ ⟨?_,rfl⟩;unfold Jz;rw [if_neg hq];rfl
  rintro σ H1 ⟨rfl,rfl⟩;refine ⟨_,rfl,B.h,aA,B.hx,_,_,rfl,c.h,aJ.cls,aJ.jC,rfl,_,rfl,_,rfl,B.h,aA,B.hx,_,_,rfl,c.h,aJ.cls,aJ.gQ,rfl,B.b,_,rfl,.inl (bC.of c.b),fun b hb=> ?_⟩;have sb:=aF (o:=HO.lst (s.bs.map V.int)) hb;have cb:=c.same sb;refine ⟨_,rfl,B.h,aA,B.hx,_,_,rfl,cb.h,aJ.cls,aJ.jE,rfl,B.sy,_,rfl,.inl (bC.of cb.y),fun y hy=> ?_⟩;have sy:=aF (o:=HO.lst (s.sy.map V.int)) hy;refine ⟨(by show 4<=sizeLine;decide),fun t ht=> ?_⟩;have st:=aF (o:=HO.tup [V.str s.st,Jz s,V.ref b,V.ref y]) ht;refine k t _ ?_ ((sb.trans sy).trans st);have fy:H1 y=none:=sb.free hy;have ft:H1 t=none:=sb.free (sy.free ht);simp only [lB,Dat];refine ⟨t,_,rfl,yg ft ak, ?_⟩;simp only [bf,Dat,and_true,true_and];refine ⟨?_,eN (yg hb (st _ _ (sy _ _ ak))),eN (yg fy (st _ _ ak))⟩;unfold Jz;split<;>simp only [Dat]
def U5 (S:jR):PyData:=Dd S (tE S)
def Jw (CW CH:Addr) (K:PySem.W.Frag):Sp:=fun vs H Q _=>∃(i:Nat) (τ:Tg) (W:xT) (S:jR),vs=[.ref W.o]/\j6 CW CH i τ H W S /\ ∀(t:Addr) (H':Hp),Dat H' (.ref t) (U5 S)->Same H H'->Q (.ref t) H'
theorem j6.prog {CW CH:Addr} {i:Nat} {τ:Tg} {H:Hp} {W:xT} {S:jR} (w:j6 CW CH i τ H W S):Dat H (.ref W.pg) (iu S):=by
 have go:∀(rs:List Addr) (hs:List aX),rs.length=hs.length->(∀(k:Nat) (r:Addr) (s:aX),rs[k]? = some r->hs[k]? = some s->cJ H r S.m s.rws)->bf H (rs.map V.ref) (hs.map fun s=>lA s.rws):=by
  intro rs
  induction rs with
  | nil=>
    intro hs l _;cases hs with
    | nil=>simp only [List.map_nil,bf]
    | cons a b=>cases l
  | cons r rs ih=>
    intro hs l h;cases hs with
    | nil=>cases l
    | cons s hs=>
      simp only [List.map_cons,bf];obtain ⟨ts,e1,e2,_⟩:=h 0 r s rfl rfl;exact ⟨lF e1 e2,ih hs (by simpa using l) fun k r' s' h1 h2=>h (k+1) r' s' h1 h2⟩
 simp only [iu,Dat];refine ⟨W.pg,_,rfl,w.pg, ?_⟩;simp only [bf,Dat,and_true,true_and];exact ⟨W.L,_,rfl,w.L,go W.rs S.hs w.rl fun k r s h1 h2=>(w.rs k r s h1 h2).2⟩
theorem j6.pF {CW CH:Addr} {i:Nat} {τ:Tg} {H:Hp} {W:xT} {S:jR} (w:j6 CW CH i τ H W S):∀s∈S.hs,∀r∈s.rws,o9 S.m r:=fun s hs=>by
 obtain ⟨k,hk⟩:=List.getElem?_of_mem hs;obtain ⟨A,_,a⟩:=w.hand hk;obtain ⟨ts,_,_,h,_⟩:=a.r;exact h
theorem Ry {ao aA:Addr} {f:Addr} {fd:FuncData} (F:iY K "picture" "Works.picture" cG f fd) (aN:dD K ao) (aJ:eX K aA) (wW:MethAt P w K mg base 1 aA "picture" ["self"] (Ds aA K)) (jd:MethAt P w K mg base 1 ao "cells" ["self"] (uK ao aA K)) (dU:MethAt P w K mg base 1 ao "counts" ["self"] (ni ao aA K)) (Bt:o8 mg):bV P w K mg base iD 2 f fd ["self"] (Jw ao aA K):=by
 refine F.ok kZ (fun vs H Q E h=> ?_) (fun cdv A outer s H vs Q E hr h=> ?_)
 ·obtain ⟨i,τ,W,S,rfl,_⟩:=h
  rfl
 ·obtain ⟨i,τ,W,S,rfl,w,k⟩:=h
  refine ⟨_,(aC (qL (i:=1) rfl kZ.nd rfl (Or.inl rfl) (N:=["one"]) (own:=["one"]) (caps:=[]) (bK.of (by kernel_rfl)) (dB (K:=K) rfl (bI (K:=K) rfl (pv 0) rfl)) (fun _ _ _ _=>(bG (i:=0) (show List.Nodup (["one"]:List Str) by decide +kernel) rfl (Or.inl rfl))) (fun _ _ _ _=>eU) (fun _ _ _ _=>(cU wW aJ.cls (hr.mono (by decide)) (pv 0))))
   (aH (bA (bR (aj (bI (K:=K) rfl (pv 0) rfl) (aj (cU jd aN.cls (hr.mono (by decide)) (pv 0)) (aj (pv 1) (aj (cU dU aN.cls (hr.mono (by decide)) (pv 0)) au)))))))), ?_⟩
  refine ⟨_,rfl,W.o,ao,W.dx,_,_,rfl,w.o,aN.cls,aN.jZ,rfl,W.hl,rfl,⟨_,bC.of w.hl⟩,fun D hD=> ?_⟩;refine Ia (K:=K) (fun j=>((S.hs[j]?).map lB).getD .none) hD (bC.of w.hl) (by rw [List.length_map,w.len];have:=w.hn;omega) (fun j x H1 F hj s1 kF=> ?_) (fun H1 s1 d1=> ?_)
  ·rw [List.getElem?_map] at hj
   obtain ⟨A,eA,rfl⟩:∃A,W.hd[j]? = some A/\x = .ref A.h:=by
    cases e:W.hd[j]? with
    | none=>rw [e] at hj;cases hj
    | some A=>rw [e] at hj;exact ⟨A,rfl,(Option.some.inj hj).symm⟩
   have jl:j<S.hs.length:=by rw [←w.len];exact (List.getElem?_eq_some_iff.mp eA).1
   have es:S.hs[j]? = some S.hs[j]:=by simp [jl]
   have a:=(w.same s1).hd j A _ eA es;refine ⟨_,rfl,A.h,A.hx,_,rfl,a.c.h,rfl,A,_,rfl,a.c,fun t H2 d2 s2=> ?_⟩;refine kF _ H2 s2 ?_;rw [es];exact d2
  have w1:=w.same s1;refine ⟨_,rfl,W.o,ao,W.dx,_,_,rfl,w1.o,aN.cls,aN.oW,rfl,_,rfl,W.o,W.dx,_,rfl,w1.o,rfl,i,τ,W,S,rfl,w1,fun l2 H2 f2 e2 s2=> ?_⟩;have w2:=w1.same s2;refine ⟨_,rfl,_,rfl,W.o,W.dx,_,rfl,w2.o,rfl,i,τ,W,S,rfl,w2,fun l3 H3 f3 e3 s3=> ?_⟩;have w3:=w2.same s3;refine ⟨(by show 4<=sizeLine;decide),fun t ht=> ?_⟩;have st:=aF (o:=HO.tup [V.ref W.pg,V.ref l2,V.ref D,V.ref l3]) ht;have w4:=w3.same st;refine k t _ ?_ (((s1.trans s2).trans s3).trans st);have d4:=d1.same (((Oh _ _).trans (s2.trans s3)).trans st) _
  have eh:((List.range (W.hd.map fun a=>V.ref a.h).length).map fun j=>((S.hs[j]?).map lB).getD .none)=S.hs.map lB:=by
   rw [List.length_map,w.len];refine List.ext_getElem? fun n=> ?_
   by_cases hn:n<S.hs.length
   ·simp [hn]
   ·simp [hn]
  rw [eh] at d4;unfold U5 Dd;simp only [Dat];refine ⟨t,_,rfl,ak, ?_⟩;have d5:=w4.prog;simp only [bf,and_true];refine ⟨d5,eN (st _ _ (s3 _ _ e2)),d4,eN (st _ _ e3)⟩
theorem Ky (K:PySem.W.Frag) (C:Addr):PySem.W.kitOne K (.ref C) (.ref C)=some true:=by simp [PySem.W.kitOne]
def Fi (S T:jR):Bool:=PyData.eqv (U5 S) (U5 T)
def Vo (CW CH:Addr) (K:PySem.W.Frag):Sp:=fun vs H Q _=>∃(i i':Nat) (τ τ':Tg) (W W':xT) (S S':jR),vs=[.ref W.o,.ref W'.o]/\j6 CW CH i τ H W S/\j6 CW CH i' τ' H W' S'/\iB S/\iB S' /\ ∀(H':Hp),Same H H'->Q (.bl (Fi S S')) H'
theorem RT.set {τ:Tg} {H:Hp} {r x:Addr} {o u:HO} (h:RT τ H r) (e:H x=some o) (t:τ x≠[]):RT τ (upd H x u) r:=by
 obtain ⟨n,f⟩:=h.off x o e t;refine ⟨h.R.set n f,fun y v ey ty=> ?_,fun y ey=> ?_⟩
 ·by_cases z:y=x
  ·subst z
   exact ⟨n,f.set n⟩
  ·rw [aG z] at ey
   obtain ⟨n',f'⟩:=h.off y v ey ty;exact ⟨n',f'.set n⟩
 ·by_cases z:y=x
  ·rw [z,ak] at ey;cases ey
  ·rw [aG z] at ey;exact h.un y ey
def Ft (K:PySem.W.Frag):Sp:=fun vs H Q _=>∃(r z:Addr) (sz bx:Int) (m n:Nat),vs=[.ref r,.ref z,.int n]/\dj H r/\H z=some (.lst [.int sz,.int m,.int bx])/\z≠r/\0<=sz/\sz<=100/\0<m/\m<=20/\0<bx/\bx<=8 /\ ∀(v:V) (x:Rw) (H':Hp),Dat H' v (gD x)->o9 m x->dj H' r->KR r H H'->Q v H'
theorem afS:∀i:Int,i=0\/i=1->wU (Str.ofString "=<").cps.toList i=some (if i=0 then 61 else 60):=by
 intro i h;rcases h with rfl|rfl<;>decide +kernel
theorem La:(Str.ofString "=<").length<=sizeLine:=by rw [sizeLine_eq];decide
theorem Rx {f:Addr} {fd:FuncData} (F:iY K "_law_row" "_law_row" mD f fd) (bL:FnAt P w K mg base 1 "_law_draw" ["reel","many"] (gR K)) (lH:FnAt P w K mg base 3 "_law_worth" ["reel","boxes"] (yN K)) (Bt:o8 mg):bV P w K mg base iD 4 f fd ["reel","sizes","at"] (Ft K):=by
 refine F.ok mC (fun vs H Q E h=> ?_) (fun cdv A outer s H vs Q E hr h=> ?_)
 ·obtain ⟨r,z,sz,bx,m,n,rfl,_⟩:=h
  rfl
 ·obtain ⟨r,z,sz,bx,m,n,rfl,R,hz,Mg,z0,z1,m0,m1,b0,b1,k⟩:=h
  refine ⟨_,(aC (aY (i:=3) mC.nd rfl (Or.inl rfl) (bD bL (hr.mono (by decide)) (by rfl) (aj (pv 0) (aj aq au))))
   (aC (aY (i:=4) mC.nd rfl (Or.inl rfl) (bD bL (hr.mono (by decide)) (by rfl) (aj (pv 0) (aj aq au))))
   (aC (aY (i:=5) mC.nd rfl (Or.inl rfl) (aO zH aW (bD bL (hr.mono (by decide)) (by rfl) (aj (pv 0) (aj (aO (aL (K:=K) rfl) (pv 1) aq (fun _ _=>rfl)) au))) (fun _ _=>rfl)))
   (aC (aY (i:=6) mC.nd rfl (Or.inl rfl) (bD bL (hr.mono (by decide)) (by rfl) (aj (pv 0) (aj (aO (aL (K:=K) rfl) (pv 1) aq (fun _ _=>rfl)) au))))
   (aC (aY (i:=7) mC.nd rfl (Or.inl rfl) (bD bL (hr.mono (by decide)) (by rfl) (aj (pv 0) (aj (bJ dM (aO (aL (K:=K) rfl) (pv 1) aq (fun _ _=>rfl)) aq) au))))
   (aC (bU (aR iG (pv 3) aq (aV _)) (aH (bA (bR (aj aW (aj (pv 5) (aj (pv 6) au)))))) bB)
   (aC (bU (aR iG (pv 3) aq (aV _)) (aH (bA (bR (aj aW (aj (pv 6) (aj (bD lH (hr.mono (by decide)) (by rfl) (aj (pv 0) (aj (aO (aL (K:=K) rfl) (pv 1) aq (fun _ _=>rfl)) au))) au)))))) bB)
   (aC (bU (aR iG (pv 3) aq (aV _)) (aH (bA (bR (aj aW (aj (pv 5) (aj (pv 6) (aj (bD lH (hr.mono (by decide)) (by rfl) (aj (pv 0) (aj (aO (aL (K:=K) rfl) (pv 1) aq (fun _ _=>rfl)) au))) au))))))) bB)
   (aC (bU (aR iG (pv 3) aq (aV _)) (aH (bA (bR (aj aW (aj (pv 5) (aj (bD lH (hr.mono (by decide)) (by rfl) (aj (pv 0) (aj (aO (aL (K:=K) rfl) (pv 1) aq (fun _ _=>rfl)) au))) au)))))) bB)
   (aC (bU (aR cT (pv 3) aq (aV _)) (aH (bA (bR (aj aW (aj (bD lH (hr.mono (by decide)) (by rfl) (aj (pv 0) (aj (aO (aL (K:=K) rfl) (pv 1) aq (fun _ _=>rfl)) au))) au))))) bB)
   (aC (bU (aR JN (pv 4) aq (aV _)) (aH (aY (i:=7) mC.nd rfl (Or.inl rfl) (bN (yw rfl) (by rfl) Bt.Qt Lr (aj (pv 7) (aj (bJ dM (pv 2) aq) au))))) bB)
   (aC (bU (aR cT (pv 3) aq (aV _)) (aH (bA (bR (aj aW (aj (pv 7) au))))) bB)
   (aH (bA (bR (aj aW (aj (aO zH aW (bJ mH (pv 3) aq) (fun _ _=>rfl)) (aj (bD lH (hr.mono (by decide)) (by rfl) (aj (pv 0) (aj (aO (aL (K:=K) rfl) (pv 1) aq (fun _ _=>rfl)) au))) (aj (bD lH (hr.mono (by decide)) (by rfl) (aj (pv 0) (aj (aO (aL (K:=K) rfl) (pv 1) aq (fun _ _=>rfl)) au))) (aj (pv 7) au)))))))))))))))))))), ?_⟩
  refine ⟨_,rfl,r,13,rfl,R,by decide,by decide,fun kd H1 kd0 kd1 R1 k1=> ?_⟩;refine ⟨_,rfl,r,3,rfl,R1,by decide,by decide,fun ah H2 _ _ R2 k2=> ?_⟩;have hz2:=k2.1 _ _ (k1.1 _ _ hz Mg) Mg;refine ⟨_,rfl,_,rfl,_,_,_,_,rfl,rfl,bC.of hz2,rfl,r,bx,rfl,R2,b0,by omega,fun i H3 i0 i1 R3 k3=> ?_⟩;refine ⟨_,_,_,rfl,rfl,Ab,zY i0 (by omega), ?_⟩;have hz3:=k3.1 _ _ hz2 Mg;refine ⟨_,rfl,_,rfl,_,_,_,_,rfl,rfl,bC.of hz3,rfl,r,m,rfl,R3,by omega,by omega,fun c H4 c0 c1 R4 k4=> ?_⟩;obtain ⟨c,rfl⟩:=Int.eq_ofNat_of_zero_le c0;have hz4:=k4.1 _ _ hz3 Mg;refine ⟨_,rfl,_,rfl,_,_,_,_,rfl,rfl,bC.of hz4,rfl,_,_,rfl,rfl,r,_,rfl,R4,by omega,by omega,fun to H5 t0 t1 R5 k5=> ?_⟩;obtain ⟨to,rfl⟩:=Int.eq_ofNat_of_zero_le t0;have Uq:=k5.1 _ _ hz4 Mg;have K5:KR r H H5:=(((k1.trans k2).trans k3).trans k4).trans k5;have ib:i.toNat<8:=by omega
  have cm:c<m:=by omega
  refine ⟨_,rfl,_,_,rfl,rfl,_,rfl, ?_⟩;refine bH (fun _=> ?_) (fun _=> ?_)
  ·refine ⟨_,rfl,_,rfl,(by show 3<=sizeLine;decide),fun p hp=> ?_⟩
   have sp:=aF (o:=HO.tup [V.str (Str.ofString "load"),V.str (qt i.toNat),V.int c]) hp;exact k _ (.load i.toNat c) _ (wH ak) ⟨ib,cm⟩ (R5.keep sp) (K5.trans (KR.same R5 sp))
  refine ⟨_,rfl,_,_,rfl,rfl,_,rfl, ?_⟩;refine bH (fun _=> ?_) (fun _=> ?_)
  ·refine ⟨_,rfl,_,rfl,_,rfl,_,_,_,_,rfl,rfl,bC.of Uq,rfl,r,bx,rfl,R5,b0,b1,fun v e H6 d eo R6 k6=> ?_⟩
   refine ⟨(by show 3<=sizeLine;decide),fun p hp=> ?_⟩;have sp:=aF (o:=HO.tup [V.str (Str.ofString "store"),V.int c,v]) hp;exact k _ (.store c e) _ (sZ ak (d.same sp _)) ⟨cm,eo⟩ (R6.keep sp) ((K5.trans k6).trans (KR.same R6 sp))
  refine ⟨_,rfl,_,_,rfl,rfl,_,rfl, ?_⟩;refine bH (fun _=> ?_) (fun _=> ?_)
  ·refine ⟨_,rfl,_,rfl,_,rfl,_,rfl,_,_,_,_,rfl,rfl,bC.of Uq,rfl,r,bx,rfl,R5,b0,b1,fun v e H6 d eo R6 k6=> ?_⟩
   refine ⟨(by show 4<=sizeLine;decide),fun p hp=> ?_⟩;have sp:=aF (o:=HO.tup [V.str (Str.ofString "swap"),V.str (qt i.toNat),V.int c,v]) hp;exact k _ (.swap i.toNat c e) _ (Lh ak (d.same sp _)) ⟨ib,cm,eo⟩ (R6.keep sp) ((K5.trans k6).trans (KR.same R6 sp))
  refine ⟨_,rfl,_,_,rfl,rfl,_,rfl, ?_⟩;refine bH (fun _=> ?_) (fun q8=> ?_)
  ·refine ⟨_,rfl,_,rfl,_,rfl,_,_,_,_,rfl,rfl,bC.of Uq,rfl,r,bx,rfl,R5,b0,b1,fun v e H6 d eo R6 k6=> ?_⟩
   refine ⟨(by show 3<=sizeLine;decide),fun p hp=> ?_⟩;have sp:=aF (o:=HO.tup [V.str (Str.ofString "let"),V.str (qt i.toNat),v]) hp;exact k _ (.o_ i.toNat e) _ (Pb ak (d.same sp _)) ⟨ib,eo⟩ (R6.keep sp) ((K5.trans k6).trans (KR.same R6 sp))
  refine ⟨_,rfl,rfl,_,rfl, ?_⟩;refine bH (fun _=> ?_) (fun q9=> ?_)
  ·refine ⟨_,rfl,_,rfl,_,_,_,_,rfl,rfl,bC.of Uq,rfl,r,bx,rfl,R5,b0,b1,fun v e H6 d eo R6 k6=> ?_⟩
   refine ⟨(by show 2<=sizeLine;decide),fun p hp=> ?_⟩;have sp:=aF (o:=HO.tup [V.str (Str.ofString "say"),v]) hp;exact k _ (.say e) _ (Pa ak (d.same sp _)) eo (R6.keep sp) ((K5.trans k6).trans (KR.same R6 sp))
  have k10:10<=kd:=by
   have h8:¬kd<9:=by simpa using q8
   have h9:¬kd=9:=fun e=>q9 (decide_eq_true (by rw [e]));omega
  unfold Fp;dsimp only;refine gU (fun σ H'=>∃to:Nat,σ=[some (.ref r),some (.ref z),some (.int n),some (.int kd),some (.int ah),some (.str (qt i.toNat)),some (.int c),some (.int to)]/\H'=H5) (fun D' hD' _=> ?_) ?_
  ·refine ⟨_,rfl,_,_,rfl,rfl,_,rfl, ?_⟩
   refine bH (fun _=> ?_) (fun _=>hD' _ _ ⟨to,rfl,rfl⟩);refine ⟨_,rfl,_,rfl,_,_,rfl,rfl,_,_,rfl, ?_⟩;refine hD' _ _ ⟨if n+1>to then n+1 else to, ?_,rfl⟩
   have:(if (n:Int)+1>(to:Int) then (n:Int)+1 else (to:Int))=((if n+1>to then n+1 else to:Nat):Int):=by
    by_cases h:n+1>to
    ·rw [if_pos h,if_pos (by omega)];omega
    ·rw [if_neg h,if_neg (by omega)]
   rw [this];rfl
  rintro σ H' ⟨to,rfl,rfl⟩;refine ⟨_,rfl,rfl,_,rfl, ?_⟩;refine bH (fun _=> ?_) (fun Nh=> ?_)
  ·refine ⟨_,rfl,(by show 2<=sizeLine;decide),fun p hp=> ?_⟩
   have sp:=aF (o:=HO.tup [V.str (Str.ofString "go"),V.int to]) hp;exact k _ (.go to) _ (El ak) trivial (R5.keep sp) (K5.trans (KR.same R5 sp))
  have k11:kd - 11=0\/kd - 11=1:=by
   have:¬kd=10:=fun e=>Nh (decide_eq_true (by rw [e]));omega
  refine ⟨_,rfl,_,_,rfl,rfl,_,_,_,rfl,rfl,La,afS _ k11, ?_⟩;refine ⟨_,rfl,_,rfl,_,_,_,_,rfl,rfl,bC.of Uq,rfl,r,bx,rfl,R5,b0,b1,fun v e H6 d eo R6 k6=> ?_⟩;have hz6:=k6.1 _ _ Uq Mg;refine ⟨_,rfl,_,rfl,_,_,_,_,rfl,rfl,bC.of hz6,rfl,r,bx,rfl,R6,b0,b1,fun v' e' H7 d' eo' R7 k7=> ?_⟩;refine ⟨_,rfl,(by show 5<=sizeLine;decide),fun p hp=> ?_⟩;have sp:=aF (o:=HO.tup [V.str (Str.ofString "unless"),V.str ⟨#[if kd - 11=0 then 61 else 60]⟩,v,v',V.int to]) hp;have d7:=(d.keep (k7.tups R6) _ (sV e)).same sp _;refine k _ (.mX (decide (kd - 11=0)) e e' to) _ (zR ?_ d7 (d'.same sp _)) ⟨eo,eo'⟩ (R7.keep sp) (((K5.trans k6).trans k7).trans (KR.same R7 sp));rw [ak];rcases k11 with h|h
  ·rw [h];rfl
  ·rw [h];rfl
structure Pg (τ:Tg) (H:Hp) (p L:Addr) (rs:List Addr) (rws:List (List Rw)) (m:Nat):Prop where
 ep:H p=some (.tup [.int m,.ref L])
 eL:H L=some (.lst (rs.map V.ref))
 tL:τ L=[0]
 len:rs.length=rws.length
 row:∀(k:Nat) (r:Addr) (x:List Rw),rs[k]? = some r->rws[k]? = some x->τ r=[0]/\cJ H r m x
theorem Pg.mv {i:Nat} {τ τ':Tg} {H H':Hp} {p L:Addr} {rs:List Addr} {rws:List (List Rw)} {m:Nat} (g:Pg τ H p L rs rws m) (q:Mv i τ H τ' H'):Pg τ' H' p L rs rws m:=by
 have e:=q.keep _ _ g.eL (.inl g.tL);exact ⟨q.tup _ _ g.ep,e.1,e.2.trans g.tL,g.len,fun k r x h1 h2=>uM (g.row k r x h1 h2) q⟩
theorem Pg.same {τ:Tg} {H H':Hp} {p L:Addr} {rs:List Addr} {rws:List (List Rw)} {m:Nat} (g:Pg τ H p L rs rws m) (k:Same H H'):Pg τ H' p L rs rws m:=g.mv (Mv.of_same (i:=0) k)
def Dq (K:PySem.W.Frag):Sp:=fun vs H Q _=>∃(r:Addr) (τ:Tg),vs=[.ref r]/\RT τ H r /\ ∀(p L:Addr) (rs:List Addr) (rws:List (List Rw)) (m:Nat) (τ':Tg) (H':Hp),Pg τ' H' p L rs rws m->0<rws.length->rws.length<=8->0<m->m<=20->(∀x∈rws,x.length<=60)->RT τ' H' r->(∀x u,H x=some u->τ' x=τ x)->Kp r H H'->Q (.ref p) H'
theorem N_ {f:Addr} {fd:FuncData} (F:iY K "_law_program" "_law_program" fG f fd) (bL:FnAt P w K mg base 1 "_law_draw" ["reel","many"] (gR K)) (EY:FnAt P w K mg base 4 "_law_row" ["reel","sizes","at"] (Ft K)) (Bt:o8 mg):bV P w K mg base iD 5 f fd ["reel"] (Dq K):=by
 refine F.ok fW (fun vs H Q E h=> ?_) (fun cdv A outer s H vs Q E hr h=> ?_)
 ·obtain ⟨r,τ,rfl,_⟩:=h
  rfl
 ·obtain ⟨r,τ,rfl,T,k⟩:=h
  refine ⟨_,(aC (aY (i:=1) fW.nd rfl (Or.inl rfl) (bD bL (hr.mono (by decide)) (by rfl) (aj (pv 0) (aj aq au))))
   (aC (aY (i:=2) fW.nd rfl (Or.inr rfl) (bJ dM aq (bD bL (hr.mono (by decide)) (by rfl) (aj (pv 0) (aj (aO (aL (K:=K) rfl) (bZ (aj aq (aj aq (aj aq au)))) (bD bL (hr.mono (by decide)) (by rfl) (aj (pv 0) (aj aq au))) (fun _ _=>rfl)) au)))))
   (aC (aY (i:=3) fW.nd rfl (Or.inr rfl) (aO (aL (K:=K) rfl) (bZ (aj aq (aj aq au))) (bD bL (hr.mono (by decide)) (by rfl) (aj (pv 0) (aj aq au))) (fun _ _=>rfl)))
   (aC (aY (i:=4) fW.nd rfl (Or.inl rfl) (bZ au))
   (aC (nF PassesOwn.never rfl (iK (by rfl) Bt.mO (aj (bJ dM aq (bD bL (hr.mono (by decide)) (by rfl) (aj (pv 0) (aj (aO (aL (K:=K) rfl) (bZ (aj aq (aj aq au))) (b_ lG (by rfl) Bt.yG tM (aj (dY JN (pv 1) aq (aV _)) au)) (fun _ _=>rfl)) au)))) au)) (bG (i:=5) fW.nd rfl (Or.inl rfl))
   (aC (aY (i:=6) fW.nd rfl (Or.inr rfl) (bD bL (hr.mono (by decide)) (by rfl) (aj (pv 0) (aj (aO (aL (K:=K) rfl) (bZ (aj aq (aj aq au))) (b_ lG (by rfl) Bt.yG tM (aj (dY cT (pv 1) aq (aV _)) au)) (fun _ _=>rfl)) au))))
   (aH (dh (gP (K:=K) rfl (pv 4) (aj (gK rfl (N:=["at","reel","size","many","boxes"]) (own:=["at"]) (caps:=[0,6,2,3]) (bK.of (by kernel_rfl)) (iK (by rfl) Bt.mO (aj (pv 6) au)) (fun _ _ _ _=>(bG (i:=0) (show List.Nodup (["at","reel","size","many","boxes"]:List Str) by decide +kernel) rfl (Or.inl rfl))) (fun _ _ _ _=>eU) (fun _ _ _ _=>(bD EY (hr.mono (by decide)) (by rfl) (aj (pv 1) (aj (bZ (aj (pv 2) (aj (pv 3) (aj (pv 4) au)))) (aj (pv 0) au)))))) au))))))
   (aH (bA (bR (aj (pv 2) (aj (pv 4) au)))))))))), ?_⟩
  refine ⟨_,rfl,r,8,rfl,T.R,by decide,by decide,fun great H1 g0 g1 R1 k1=> ?_⟩;have T1:=T.draw k1 R1;refine ⟨_,rfl,(by show 3<=sizeLine;decide),fun l hl=> ?_⟩;have sl:=aF (o:=HO.lst [V.int 2,V.int 3,V.int 20]) hl;have nlr:l≠r:=R1.ne hl;refine ⟨_,rfl,r,3,rfl,R1.keep sl,by decide,by decide,fun z H2 z0 z1 R2 k2=> ?_⟩;have T2:=(T1.same sl).draw k2 R2
  obtain ⟨bb,eb,b0,b1⟩:∃bb:Int,wU [V.int 2,V.int 3,V.int 20] z=some (.int bb)/\0<bb/\bb<=20:=by
   have:z=0\/z=1\/z=2:=by omega
   rcases this with rfl|rfl|rfl
   ·exact ⟨2,rfl,by decide,by decide⟩
   ·exact ⟨3,rfl,by decide,by decide⟩
   ·exact ⟨20,rfl,by decide,by decide⟩
  refine ⟨_,_,_,_,rfl,rfl,bC.of (k2.1 _ _ ak nlr),eb,r,bb,rfl,R2,b0,by omega,fun i H3 i0 i1 R3 k3=>⟨_,_,rfl,rfl, ?_⟩⟩;have T3:=T2.draw k3 R3;obtain ⟨m,em,m0,Oo⟩:∃m:Nat,(1:Int)+i=m/\0<m/\m<=20:=⟨(1+i).toNat,by omega,by omega,by omega⟩;dsimp only [dO];rw [em];refine ⟨(by show 2<=sizeLine;decide),fun l4 hl4=> ?_⟩;have Vp:=aF (o:=HO.lst [V.int 2,V.int 8]) hl4;have adZ:l4≠r:=R3.ne hl4;refine ⟨_,rfl,r,2,rfl,R3.keep Vp,by decide,by decide,fun z4 H5 z40 z41 R5 k5=> ?_⟩;have T5:=(T3.same Vp).draw k5 R5
  obtain ⟨bx,ebx,bx0,bx1⟩:∃bb:Int,wU [V.int 2,V.int 8] z4=some (.int bb)/\0<bb/\bb<=8:=by
   have:z4=0\/z4=1:=by omega
   rcases this with rfl|rfl
   ·exact ⟨2,rfl,by decide,by decide⟩
   ·exact ⟨8,rfl,by decide,by decide⟩
  refine ⟨_,_,_,_,rfl,rfl,bC.of (k5.1 _ _ ak adZ),ebx, ?_⟩;have Sd:Kp r H H5:=((((k1.1.trans (Kp.of_same sl)).trans k2.1).trans k3.1).trans (Kp.of_same Vp)).trans k5.1;refine ⟨(by show 0<=sizeLine;decide),fun a ha=> ?_⟩;have sa:=aF (o:=HO.lst []) ha;have nar:a≠r:=R5.ne ha;have ha0:H a=none:=oY Sd nar ha;have T6:=T5.claim (t:=[0]) sa ha ⟨_,ak⟩;have QK:∀x u,H x=some u->aQ τ a [0] x=τ x:=fun x u e=>aP (aB e ha0);have ta6:aQ τ a [0] a=[0]:=bw;have Ql:=Sd.trans (Kp.of_same sa);have ea6:(upd H5 a (.lst [])) a=some (.lst []):=ak;generalize (upd H5 a (.lst []))=H6 at sa T6 Ql ea6 ⊢;generalize aQ τ a [0]=τ6 at T6 QK ta6;refine ⟨_,rfl,(by show 2<=sizeLine;decide),fun l7 hl7=> ?_⟩;have Ud:=aF (o:=HO.lst [V.int 4,V.int 8]) hl7;refine ⟨_,rfl,_,_,rfl,rfl,.inr ⟨_,rfl, ?_⟩⟩
  obtain ⟨nn,en,n0,n1⟩:∃nn:Int,wU [V.int 4,V.int 8] (if decide (5<great) then 1 else 0)=some (.int nn)/\0<nn/\nn<=8:=by
   cases decide (5<great)
   ·exact ⟨4,rfl,by decide,by decide⟩
   ·exact ⟨8,rfl,by decide,by decide⟩
  refine ⟨_,_,_,_,rfl,rfl,bC.of ak,en,r,nn,rfl,(T6.same Ud).R,n0,by omega,fun cnt H7 c0 c1 R7 k7=>⟨_,_,rfl,rfl,_,rfl,by omega,by omega, ?_⟩⟩;have T7:=(T6.same Ud).draw k7 R7;have ea7:=k7.1 _ _ (Ud _ _ ea6) nar
  refine yt (lo:=0) (fun j σ Hc=>∃(v w':Option V) (τc:Tg) (rs:List Addr) (rws:List (List Rw)),σ=[some (.ref r),some (.int great),some (.int m),some (.int bx),some (.ref a),v,w']/\RT τc Hc r/\Hc a=some (.lst (rs.map V.ref))/\τc a=[0]/\rs.length=rws.length/\rws.length=j/\(∀x∈rws,x.length<=60)/\(∀(k:Nat) (q:Addr) (x:List Rw),rs[k]? = some q->rws[k]? = some x->q≠a/\τc q=[0]/\cJ Hc q m x)/\(∀x u,H x=some u->τc x=τ x)/\Kp r H Hc)
   ⟨none,none,τ6,[],[],rfl,T7,ea7,ta6,rfl,rfl,by simp,fun k q x e=>by simp at e,QK,(Ql.trans (Kp.of_same Ud)).trans k7.1⟩ ?_ ?_
  ·rintro j σ Hc hj ⟨v,w',τc,rs,rws,rfl,Tc,eac,tac,lr,lj,Qk,hrs,xY,kpc⟩
   refine ⟨_,rfl,(by show 2<=sizeLine;decide),fun l8 hl8=> ?_⟩;have Mf:=aF (o:=HO.lst [V.int 9,V.int 61]) hl8;refine ⟨_,rfl,rfl,.inr ⟨_,rfl, ?_⟩⟩
   obtain ⟨nz,ez,nz0,nz1⟩:∃nn:Int,wU [V.int 9,V.int 61] (if decide (V.int great=V.int 7) then 1 else 0)=some (.int nn)/\0<nn/\nn<=61:=by
    cases decide (V.int great=V.int 7)
    ·exact ⟨9,rfl,by decide,by decide⟩
    ·exact ⟨61,rfl,by decide,by decide⟩
   refine ⟨_,_,_,_,rfl,rfl,bC.of ak,ez,r,nz,rfl,(Tc.same Mf).R,nz0,by omega,fun sz H8 s0 s1 R8 k8=> ?_⟩;have T8:=(Tc.same Mf).draw k8 R8;have Ge:∀x o,Hc x=some o->τc x≠[]->H8 x=some o:=fun x o e t=>(Tc.same Mf).keep k8 (Mf _ _ e) t;have t8:∀x xs,Hc x=some (.tup xs)->H8 x=some (.tup xs):=fun x xs e=>k8.tups (Tc.same Mf).R _ _ (Mf _ _ e);have W_:=Ge _ _ eac (by rw [tac];simp);have Wb:=(kpc.trans (Kp.of_same Mf)).trans k8.1;refine ⟨_,rfl,.inl ⟨rfl,_,bC.of W_⟩,_,rfl,sz,rfl,by omega,by omega,fun D hD=> ?_⟩;have sD:=aF (o:=HO.lst []) hD;have RZ:D≠r:=R8.ne hD;have Oz:H D=none:=oY Wb RZ hD;have Y9:D≠a:=(aB W_ hD).symm;have TD:=T8.claim (t:=[0]) sD hD ⟨_,ak⟩
   have tgD:∀x u,Hc x=some u->aQ τc D [0] x=τc x:=fun x u e=>by
    by_cases z:x=D
    ·subst z
     by_cases t:τc x=[]
     ·by_cases zr:x=r
      ·exact absurd zr RZ
      ·have:=k8.1 _ _ (Mf _ _ e) zr
       rw [hD] at this;cases this
     ·have:=Ge _ _ e t
      rw [hD] at this;cases this
    ·exact aP z
   have CP:aQ τc D [0] D=[0]:=bw;have Yz:aQ τc D [0] a=[0]:=by rw [aP Y9.symm];exact tac
   have Vb:∀x u,H x=some u->aQ τc D [0] x=τ x:=fun x u e=>by rw [aP (aB e Oz)];exact xY x u e
   have Ow:∀(k:Nat) (q:Addr) (x:List Rw),rs[k]? = some q->rws[k]? = some x->q≠a/\q≠D/\aQ τc D [0] q=[0]/\cJ H8 q m x:=fun k q x h1 h2=>by
    obtain ⟨n1,t1,R1'⟩:=hrs k q x h1 h2;have rr:=R1';obtain ⟨ts,hq,_⟩:=rr;have hq8:=Ge _ _ hq (by rw [t1];simp);exact ⟨n1,aB hq8 hD,by rw [tgD _ _ hq];exact t1,R1'.keep (fun o e=>Ge _ _ e (by rw [t1];simp)) t8⟩
   generalize aQ τc D [0]=τd at TD tgD CP Yz Vb Ow;refine mL (lo:=0) (n:=sz.toNat) (fun i σ Hd=>∃(v:Option V) (refs:List V) (rw':List Rw),σ=[v,some (.ref r),some (.int sz),some (.int m),some (.int bx)]/\RT τd Hd r/\Hd D=some (.lst refs)/\bf Hd refs (rw'.map gD)/\(∀x∈rw',o9 m x)/\rw'.length=i/\Hd a=some (.lst (rs.map V.ref))/\(∀(k:Nat) (q:Addr) (x:List Rw),rs[k]? = some q->rws[k]? = some x->cJ Hd q m x)/\Kp r H Hd) ?_ ?_ ?_
   ·exact ⟨none,[],[],rfl,TD,ak,by simp [bf],by simp,rfl,sD _ _ W_,fun k q x h1 h2=>((Ow k q x h1 h2).2.2.2).same sD,Wb.trans (Kp.of_same sD)⟩
   ·rintro i σ Hd hi ⟨v,refs,rw',rfl,Td,Gi,dd,od,ld,W9,hrd,Hy⟩
    dsimp only [dO,rM];rw [if_pos rfl];refine ⟨_,rfl,_,rfl,_,rfl,_,rfl,(by show 3<=sizeLine;decide),fun z hz=> ?_⟩;have sz':=aF (o:=HO.lst [V.int sz,V.int m,V.int bx]) hz;have Mg:z≠r:=Td.R.ne hz;refine ⟨_,rfl,r,z,sz,bx,m,i,by rw [Int.zero_add];rfl,Td.R.keep sz',ak,Mg,s0,by omega,m0,Oo,bx0,bx1,fun y x H9 dy xo R9 k9=> ?_⟩;have T9:=(Td.same sz').draw k9 R9;have Kz:∀x o,Hd x=some o->τd x≠[]->H9 x=some o:=fun x o e t=>(Td.same sz').keep k9 (sz' _ _ e) t;have t9:∀x xs,Hd x=some (.tup xs)->H9 x=some (.tup xs):=fun x xs e=>k9.tups (Td.same sz').R _ _ (sz' _ _ e);have hD9:=Kz _ _ Gi (by rw [CP];simp);have tu:∀a ys,H9 a=some (.tup ys)->(upd H9 D (.lst (refs++[y]))) a=some (.tup ys):=fun a ys e=>by rw [aG (cj e hD9 (by intro z;cases z))];exact e
    have ll:refs.length=rw'.length:=by rw [dd.length,List.length_map]
    refine ⟨refs,hD9,(by rw [ll,sizeLine_eq];omega),_,refs++[y],rw'++[x],rfl,T9.set hD9 (by rw [CP];simp),ak, ?_, ?_,by simp [ld],by rw [aG Y9.symm];exact Kz _ _ W9 (by rw [Yz];simp), ?_, ?_⟩
    ·rw [List.map_append]
     exact sY ((dd.kp t9).kp tu) (dy.keep tu _ (p8 x))
    ·intro q hq
     rcases List.mem_append.mp hq with hq|hq
     ·exact od q hq
     ·rw [List.mem_singleton.mp hq];exact xo
    ·intro kk q x' h1 h2
     obtain ⟨_,n2,t2,_⟩:=Ow kk q x' h1 h2;exact (hrd kk q x' h1 h2).keep (fun o e=>by rw [aG n2];exact Kz _ _ e (by rw [t2];simp)) (fun y ys e=>tu _ _ (t9 _ _ e))
    ·intro x' o e n'
     rw [aG (aB e Oz)];exact k9.1 _ _ (sz' _ _ (Hy _ _ e n')) n'
   ·rintro σ Hd ⟨v,refs,rw',rfl,Td,Gi,dd,od,ld,W9,hrd,Hy⟩
    refine ⟨_,_,_,rfl,rfl,W9,(by rw [List.length_map,lr,lj,sizeLine_eq];omega), ?_⟩;have tu:∀x ys,Hd x=some (.tup ys)->(upd Hd a (.lst (rs.map V.ref++[V.ref D]))) x=some (.tup ys):=fun x ys e=>by rw [aG (cj e W9 (by intro z;cases z))];exact e
    refine ⟨_,_,τd,rs++[D],rws++[rw'],rfl,Td.set W9 (by rw [Yz];simp),by rw [ak,List.map_append];rfl,Yz,by simp [lr],by simp [lj], ?_, ?_,Vb,fun x o e n'=>by rw [aG (aB e ha0)];exact Hy _ _ e n'⟩
    ·intro x hx
     rcases List.mem_append.mp hx with hx|hx
     ·exact Qk x hx
     ·rw [List.mem_singleton.mp hx];omega
    ·intro kk q x h1 h2
     rcases iw h2 with h2|⟨ek,rfl⟩
     ·have kl:=(List.getElem?_eq_some_iff.mp h2).1
      rw [List.getElem?_append_left (by rw [lr];exact kl)] at h1;obtain ⟨n1,_,t1,_⟩:=Ow kk q x h1 h2;exact ⟨n1,t1,(hrd kk q x h1 h2).keep (fun o e=>by rw [aG n1];exact e) tu⟩
     ·have e1:q=D:=by
       rcases iw h1 with h1|⟨_,h1⟩
       ·have:=(List.getElem?_eq_some_iff.mp h1).1;rw [lr] at this;omega
       ·exact h1
      subst e1;exact ⟨Y9,CP,refs,by rw [aG Y9];exact Gi,dd.kp tu,od,by omega⟩
  ·rintro σ Hc ⟨v,w',τc,rs,rws,rfl,Tc,eac,tac,lr,lj,Qk,hrs,xY,kpc⟩
   refine ⟨_,rfl,_,rfl,(by show 2<=sizeLine;decide),fun p hp=> ?_⟩;have sp:=aF (o:=HO.tup [V.int m,V.ref a]) hp;exact k p a rs rws m τc _ ⟨ak,sp _ _ eac,tac,lr,fun k q x h1 h2=>⟨(hrs k q x h1 h2).2.1,((hrs k q x h1 h2).2.2).same sp⟩⟩ (by omega) (by omega) m0 Oo Qk (Tc.same sp) xY (kpc.trans (Kp.of_same sp))
structure Am where
 (h b sy:Addr)
structure rA (H:Hp) (A:Am) (s:aX) (c:Nat):Prop where
 h:H A.h=some (.lst [.int s.pos,.ref A.b,.ref A.sy,.str s.st,.int c])
 b:H A.b=some (.lst (s.bs.map V.int))
 y:H A.sy=some (.lst (s.sy.map V.int))
 zF:A.h≠A.b
 Ak:A.h≠A.sy
 tY:A.b≠A.sy
 bl:s.bs.length=8
def KL (A:Am) (H H':Hp):Prop:=∀x o,H x=some o->x≠A.h->x≠A.b->x≠A.sy->H' x=some o
theorem KL.of_same {A:Am} {H H':Hp} (k:Same H H'):KL A H H':=fun x o e _ _ _=>k _ _ e
theorem KL.trans {A:Am} {H H1 H2:Hp} (a:KL A H H1) (b:KL A H1 H2):KL A H H2:=fun x o e n1 n2 n3=>b x o (a x o e n1 n2 n3) n1 n2 n3
theorem KL.gM {A:Am} {H:Hp} {o:HO}:KL A H (upd H A.h o):=fun x u e n _ _=>by rw [aG n];exact e
theorem KL.vD {A:Am} {H:Hp} {o:HO}:KL A H (upd H A.b o):=fun x u e _ n _=>by rw [aG n];exact e
theorem KL.Du {A:Am} {H:Hp} {o:HO}:KL A H (upd H A.sy o):=fun x u e _ _ n=>by rw [aG n];exact e
section
variable {H H':Hp} {A:Am} {s:aX} {c:Nat}
theorem rA.same (q:rA H A s c) (k:Same H H'):rA H' A s c:=⟨k _ _ q.h,k _ _ q.b,k _ _ q.y,q.zF,q.Ak,q.tY,q.bl⟩
theorem rA.tup (q:rA H A s c) (k:KL A H H'):∀x xs,H x=some (.tup xs)->H' x=some (.tup xs):=fun x xs e=>k _ _ e (cj e q.h (by intro z;cases z)) (cj e q.b (by intro z;cases z)) (cj e q.y (by intro z;cases z))
theorem rA.gM (q:rA H A s c) (n c':Nat) (st:Str):rA (upd H A.h (.lst [.int n,.ref A.b,.ref A.sy,.str st,.int c'])) A {s with pos:=n,st:=st} c':=
 ⟨ak,by rw [aG q.zF.symm];exact q.b,by rw [aG q.Ak.symm];exact q.y,q.zF,q.Ak,q.tY,q.bl⟩
theorem rA.vD (q:rA H A s c) (bs:List Int) (l:bs.length=8):rA (upd H A.b (.lst (bs.map V.int))) A {s with bs:=bs} c:=
 ⟨by rw [aG q.zF];exact q.h,ak,by rw [aG q.tY.symm];exact q.y,q.zF,q.Ak,q.tY,l⟩
theorem rA.Du (q:rA H A s c) (ys:List Int):rA (upd H A.sy (.lst (ys.map V.int))) A {s with sy:=ys} c:=
 ⟨by rw [aG q.Ak];exact q.h,by rw [aG q.tY];exact q.b,ak,q.zF,q.Ak,q.tY,q.bl⟩
theorem rA.ixb (q:rA H A s c) {b:Nat} (h:b<8):BJ (s.bs.map V.int).length ((b:Nat):Int)=some b:=by
 rw [List.length_map,q.bl];unfold BJ;rw [if_pos (by omega),if_pos (by omega)];simp
end
def Jx (K:PySem.W.Frag):Sp:=fun vs H Q _=>∃(A:Am) (s:aX) (c:Nat) (v:V) (r:Rw) (m:Nat),vs=[.ref A.h,v]/\rA H A s c/\Dat H v (gD r)/\o9 m r/\touch r=false/\s.sy.length<1000000 /\ ∀H',rA H' A (jN s r) c->KL A H H'->Q .non H'
theorem RD {f:Addr} {fd:FuncData} (F:iY K "_law_own" "_law_own" mF f fd) (jP:FnAt P w K mg base 3 "_law_now" ["boxes","told"] (tX 2 K)):bV P w K mg base iD 4 f fd ["hand","row"] (Jx K):=by
 refine F.ok yZ (fun vs H Q E h=> ?_) (fun cdv A outer s H vs Q E hr h=> ?_)
 ·obtain ⟨A,s,c,v,r,m,rfl,_⟩:=h
  rfl
 ·obtain ⟨B,z,c,v,r,m,rfl,q,d,ro,tr,sl,k⟩:=h
  refine ⟨_,(aC (dz (bJ dM (aO (aL (K:=K) rfl) (pv 0) aq (fun _ _=>rfl)) aq) (fX (pv 0) aq set_list))
   (aH (bU (aR cT (aO (aU (K:=K) rfl) (pv 1) aq (fun _ _=>rfl)) aW (aV _)) (aH (dz (bD jP (hr.mono (by decide)) (by rfl) (aj (aO (aL (K:=K) rfl) (pv 0) aq (fun _ _=>rfl)) (aj (aO (aU (K:=K) rfl) (pv 1) aq (fun _ _=>rfl)) au))) (fX (aO (aL (K:=K) rfl) (pv 0) aq (fun _ _=>rfl)) (sI (K:=K) rfl PySem.F.plainAttrs_str PySem.F.slot_str_index PySem.F.type_str_index lC aW (aj (aO (aU (K:=K) rfl) (pv 1) aq (fun _ _=>rfl)) au)) set_list))) (aH (bU (aR cT (aO (aU (K:=K) rfl) (pv 1) aq (fun _ _=>rfl)) aW (aV _)) (aH (dh (gP (K:=K) rfl (aO (aL (K:=K) rfl) (pv 0) aq (fun _ _=>rfl)) (aj (bD jP (hr.mono (by decide)) (by rfl) (aj (aO (aL (K:=K) rfl) (pv 0) aq (fun _ _=>rfl)) (aj (aO (aU (K:=K) rfl) (pv 1) aq (fun _ _=>rfl)) au))) au)))) (aH (bU (aR cT (aO (aU (K:=K) rfl) (pv 1) aq (fun _ _=>rfl)) aW (aV _)) (aH (dz (aO (aU (K:=K) rfl) (pv 1) aq (fun _ _=>rfl)) (fX (pv 0) aq set_list))) (aC (aY (i:=2) yZ.nd rfl (Or.inl rfl) (bD jP (hr.mono (by decide)) (by rfl) (aj (aO (aL (K:=K) rfl) (pv 0) aq (fun _ _=>rfl)) (aj (aO (aU (K:=K) rfl) (pv 1) aq (fun _ _=>rfl)) au))))
   (aC (aY (i:=3) yZ.nd rfl (Or.inl rfl) (bD jP (hr.mono (by decide)) (by rfl) (aj (aO (aL (K:=K) rfl) (pv 0) aq (fun _ _=>rfl)) (aj (aO (aU (K:=K) rfl) (pv 1) aq (fun _ _=>rfl)) au))))
   (aH (bU (pY (PW.pt (vL (PW.pt (jJ (aR cT (pv 2) (pv 3) (aV _)) (iZ (aR cT (aO (aU (K:=K) rfl) (pv 1) aq (fun _ _=>rfl)) aW (aV _))))) (sE (PW.pt (jJ (aR iG (pv 2) (pv 3) (aV _)) (iZ (aR cT (aO (aU (K:=K) rfl) (pv 1) aq (fun _ _=>rfl)) aW (aV _))))))))) (aH (dz (aO (aU (K:=K) rfl) (pv 1) aq (fun _ _=>rfl)) (fX (pv 0) aq set_list))) bB))))))))))), ?_⟩
  refine ⟨_,rfl,_,_,_,_,rfl,rfl,bC.of q.h,rfl,_,_,rfl,rfl,_,rfl,B.h,_,_,0,rfl,rfl,q.h,rfl, ?_⟩;have q1:=q.gM (z.pos+1) c z.st;have k1:KL B H (upd H B.h (.lst [.int ((z.pos+1:Nat):Int),.ref B.b,.ref B.sy,.str z.st,.int c])):=KL.gM;have d1:=d.keep (q.tup k1) _ (p8 r);rw [show ([V.int z.pos,V.ref B.b,V.ref B.sy,V.str z.st,V.int c].set 0 (V.int ((z.pos:Int)+1)))=[.int ((z.pos+1:Nat):Int),.ref B.b,.ref B.sy,.str z.st,.int c] from rfl];generalize (upd H B.h (.lst [.int ((z.pos+1:Nat):Int),.ref B.b,.ref B.sy,.str z.st,.int c]))=H1 at q1 k1 d1 ⊢;obtain ⟨t,ws,rfl,ht,ps⟩:=ug d1;cases r with
  | load b cc=>cases tr
  | store cc e=>cases tr
  | swap b cc e=>cases tr
  | o_ b e=>
    obtain ⟨x,rfl,dx⟩:=ps;refine ⟨_,rfl,_,_,_,_,rfl,rfl,cA.of ht,rfl,rfl,_,rfl, ?_⟩;refine bH (fun _=> ?_) (fun z=>absurd (decide_eq_true rfl) z);refine ⟨_,rfl,_,_,_,_,rfl,rfl,bC.of q1.h,rfl,_,rfl,_,_,_,_,rfl,rfl,cA.of ht,rfl,B.b,x,e,_,rfl,q1.b,q1.bl,dx,ro.2,ur e, ?_⟩;refine ⟨_,rfl,_,_,_,_,rfl,rfl,bC.of q1.h,rfl,rfl,_,rfl,_,_,_,_,rfl,rfl,cA.of ht,rfl,_,_,b,[],rfl,rfl,tK ro.1,B.b,_,_,b,rfl,rfl,q1.b,q1.ixb ro.1, ?_⟩;rw [←List.map_set];exact k _ (q1.vD _ (by rw [List.length_set];exact q1.bl)) (k1.trans KL.vD)
  | say e=>
    obtain ⟨x,rfl,dx⟩:=ps;refine ⟨_,rfl,_,_,_,_,rfl,rfl,cA.of ht,rfl,rfl,_,rfl, ?_⟩;refine bH (fun z=>absurd (of_decide_eq_true z) (by decide)) (fun _=> ?_);refine ⟨_,rfl,_,_,_,_,rfl,rfl,cA.of ht,rfl,rfl,_,rfl, ?_⟩;refine bH (fun _=> ?_) (fun z=>absurd (decide_eq_true rfl) z);refine ⟨_,rfl,_,_,_,_,rfl,rfl,bC.of q1.h,rfl,.inl ⟨rfl,_,bC.of q1.y⟩,_,rfl,_,_,_,_,rfl,rfl,bC.of q1.h,rfl,_,rfl,_,_,_,_,rfl,rfl,cA.of ht,rfl,B.b,x,e,_,rfl,q1.b,q1.bl,dx,ro,ur e, ?_⟩;refine ⟨_,_,_,rfl,rfl,q1.y,(by rw [List.length_map,sizeLine_eq];show z.sy.length<_;omega), ?_⟩;have:=k _ (q1.Du (z.sy++[vx z.bs e])) (k1.trans KL.Du);rw [List.map_append] at this;exact this
  | go n=>
    obtain rfl:=ps;refine ⟨_,rfl,_,_,_,_,rfl,rfl,cA.of ht,rfl,rfl,_,rfl, ?_⟩;refine bH (fun z=>absurd (of_decide_eq_true z) (by decide)) (fun _=> ?_);refine ⟨_,rfl,_,_,_,_,rfl,rfl,cA.of ht,rfl,rfl,_,rfl, ?_⟩;refine bH (fun z=>absurd (of_decide_eq_true z) (by decide)) (fun _=> ?_);refine ⟨_,rfl,_,_,_,_,rfl,rfl,cA.of ht,rfl,rfl,_,rfl, ?_⟩;refine bH (fun _=> ?_) (fun z=>absurd (decide_eq_true rfl) z);refine ⟨_,rfl,_,_,_,_,rfl,rfl,cA.of ht,rfl,_,rfl,B.h,_,_,0,rfl,rfl,q1.h,rfl, ?_⟩;exact k _ (q1.gM n c z.st) (k1.trans KL.gM)
  | mX qq e f n=>
    obtain ⟨x,y,rfl,dx,dy⟩:=ps;refine ⟨_,rfl,_,_,_,_,rfl,rfl,cA.of ht,rfl,rfl,_,rfl, ?_⟩;refine bH (fun z=>absurd (of_decide_eq_true z) (by decide)) (fun _=> ?_);refine ⟨_,rfl,_,_,_,_,rfl,rfl,cA.of ht,rfl,rfl,_,rfl, ?_⟩;refine bH (fun z=>absurd (of_decide_eq_true z) (by decide)) (fun _=> ?_);refine ⟨_,rfl,_,_,_,_,rfl,rfl,cA.of ht,rfl,rfl,_,rfl, ?_⟩;refine bH (fun z=>absurd (of_decide_eq_true z) (by decide)) (fun _=> ?_);refine ⟨_,rfl,_,_,_,_,rfl,rfl,bC.of q1.h,rfl,_,rfl,_,_,_,_,rfl,rfl,cA.of ht,rfl,B.b,x,e,_,rfl,q1.b,q1.bl,dx,ro.1,ur e, ?_⟩;refine ⟨_,rfl,_,_,_,_,rfl,rfl,bC.of q1.h,rfl,_,rfl,_,_,_,_,rfl,rfl,cA.of ht,rfl,B.b,y,f,_,rfl,q1.b,q1.bl,dy,ro.2,ur f, ?_⟩
    have yes:jq z.bs (.mX qq e f n)=true->k=k->Q .non H1:=fun hh _=>by
     refine k _ ?_ k1;show rA H1 B {z with pos:=if jq z.bs (.mX qq e f n) then z.pos+1 else n} c;rw [hh];exact q1
    have no:∀D:Ends,(∀σ H',D.nx σ H'=Q .non H')->jq z.bs (.mX qq e f n)=false -> ∀σ,D.nx σ (upd H1 B.h (.lst [.int n,.ref B.b,.ref B.sy,.str z.st,.int c])):=fun D hD hh σ=>by
     rw [hD];refine k _ ?_ (k1.trans KL.gM);show rA _ B {z with pos:=if jq z.bs (.mX qq e f n) then z.pos+1 else n} c;rw [hh];exact q1.gM n c z.st
    refine ⟨_,rfl,_,rfl,rfl,_,rfl, ?_⟩;cases qq with
    | true=>
      by_cases he:vx z.bs e=vx z.bs f
      ·refine bH (fun _=> ?_) (fun w'=>absurd (decide_eq_true (by rw [he])) w')
       refine ⟨_,rfl,_,_,_,_,rfl,rfl,cA.of ht,rfl,rfl,_,rfl, ?_⟩;refine bH (fun _=> ?_) (fun z=>absurd (decide_eq_true rfl) z);refine fM ?_;exact yes (by show decide (vx z.bs e=vx z.bs f)=true;rw [he];simp) rfl
      ·refine bH (fun w'=>absurd (V.int.inj (of_decide_eq_true w')) he) (fun _=> ?_)
       refine fM ?_;refine ⟨_,rfl,_,rfl,_,_,rfl,rfl,_,rfl, ?_⟩;have hF:jq z.bs (.mX true e f n)=false:=by show decide (vx z.bs e=vx z.bs f)=false;simp [he]
       refine bH (fun _=> ?_) (fun _=> ?_)
       ·refine ⟨_,rfl,_,_,_,_,rfl,rfl,cA.of ht,rfl,rfl,_,rfl, ?_⟩
        refine bH (fun _=> ?_) (fun z=>absurd (by decide) z);refine ⟨_,rfl,_,_,_,_,rfl,rfl,cA.of ht,rfl,_,rfl,B.h,_,_,0,rfl,rfl,q1.h,rfl, ?_⟩;exact no _ (fun _ _=>rfl) hF _
       ·refine iR ?_
        refine ⟨_,rfl,_,_,_,_,rfl,rfl,cA.of ht,rfl,_,rfl,B.h,_,_,0,rfl,rfl,q1.h,rfl, ?_⟩;exact no _ (fun _ _=>rfl) hF _
    | false=>
      by_cases he:vx z.bs e=vx z.bs f
      ·refine bH (fun _=> ?_) (fun w'=>absurd (decide_eq_true (by rw [he])) w')
       refine ⟨_,rfl,_,_,_,_,rfl,rfl,cA.of ht,rfl,rfl,_,rfl, ?_⟩;refine bH (fun z=>absurd (of_decide_eq_true z) (by decide)) (fun _=> ?_);refine ⟨_,rfl,_,rfl,_,_,rfl,rfl,_,rfl, ?_⟩;have hF:jq z.bs (.mX false e f n)=false:=by show decide (vx z.bs e<vx z.bs f)=false;simp [he]
       refine bH (fun w'=>absurd (of_decide_eq_true w') (by show ¬vx z.bs e<vx z.bs f;omega)) (fun _=> ?_);refine iR ?_;refine ⟨_,rfl,_,_,_,_,rfl,rfl,cA.of ht,rfl,_,rfl,B.h,_,_,0,rfl,rfl,q1.h,rfl, ?_⟩;exact no _ (fun _ _=>rfl) hF _
      ·refine bH (fun w'=>absurd (V.int.inj (of_decide_eq_true w')) he) (fun _=> ?_)
       refine fM ?_;refine ⟨_,rfl,_,rfl,_,_,rfl,rfl,_,rfl, ?_⟩
       by_cases hlt:vx z.bs e<vx z.bs f
       ·refine bH (fun _=> ?_) (fun w'=>absurd (decide_eq_true hlt) w')
        refine ⟨_,rfl,_,_,_,_,rfl,rfl,cA.of ht,rfl,rfl,_,rfl, ?_⟩;refine BK rfl ?_;exact yes (by show decide (vx z.bs e<vx z.bs f)=true;simp [hlt]) rfl
       ·refine bH (fun w'=>absurd (of_decide_eq_true w') hlt) (fun _=> ?_)
        refine iR ?_;refine ⟨_,rfl,_,_,_,_,rfl,rfl,cA.of ht,rfl,_,rfl,B.h,_,_,0,rfl,rfl,q1.h,rfl, ?_⟩;exact no _ (fun _ _=>rfl) (by show decide (vx z.bs e<vx z.bs f)=false;simp [hlt]) _
def uh (x:Str):Bool:=inV (.str x) [V.str (Str.ofString "let"),V.str (Str.ofString "say"),V.str (Str.ofString "go"),V.str (Str.ofString "unless")]
theorem Av (r:Rw):uh (qx r) = !touch r:=by
 cases r
 ·exact (by decide +kernel:uh (Str.ofString "load")=false)
 ·exact (by decide +kernel:uh (Str.ofString "store")=false)
 ·exact (by decide +kernel:uh (Str.ofString "swap")=false)
 ·exact (by decide +kernel:uh (Str.ofString "let")=true)
 ·exact (by decide +kernel:uh (Str.ofString "say")=true)
 ·exact (by decide +kernel:uh (Str.ofString "go")=true)
 ·exact (by decide +kernel:uh (Str.ofString "unless")=true)
theorem z9 {H:Hp} {v:V} {r:Rw} (h:Dat H v (gD r)):∃t ys,v = .ref t/\H t=some (.tup (.str (qx r)::ys)):=by
 obtain ⟨t,vs,rfl,e,ps⟩:=ug h;cases r with
 | load b c=>obtain rfl:=ps;exact ⟨t,_,rfl,e⟩
 | store c e'=>obtain ⟨x,rfl,_⟩:=ps;exact ⟨t,_,rfl,e⟩
 | swap b c e'=>obtain ⟨x,rfl,_⟩:=ps;exact ⟨t,_,rfl,e⟩
 | o_ b e'=>obtain ⟨x,rfl,_⟩:=ps;exact ⟨t,_,rfl,e⟩
 | say e'=>obtain ⟨x,rfl,_⟩:=ps;exact ⟨t,_,rfl,e⟩
 | go n=>obtain rfl:=ps;exact ⟨t,_,rfl,e⟩
 | mX q e' f n=>obtain ⟨x,y,rfl,_⟩:=ps;exact ⟨t,_,rfl,e⟩
def Ax (K:PySem.W.Frag):Sp:=fun vs H Q _=>∃(A:Am) (s:aX) (c m:Nat) (r:Addr),vs=[.ref A.h,.ref r]/\rA H A s c/\cJ H r m s.rws/\r≠A.h/\r≠A.b/\r≠A.sy/\s.sy.length<900000 /\ ∀H',rA H' A (lead s) c->KL A H H'->Q .non H'
theorem RG {f:Addr} {fd:FuncData} (F:iY K "_law_led" "_law_led" mG f fd) (Ua:FnAt P w K mg base 4 "_law_own" ["hand","row"] (Jx K)) (Bt:o8 mg):bV P w K mg base iD 5 f fd ["hand","rows"] (Ax K):=by
 refine F.ok za (fun vs H Q E h=> ?_) (fun cdv A outer s H vs Q E hr h=> ?_)
 ·obtain ⟨A,s,c,m,r,rfl,_⟩:=h
  rfl
 ·obtain ⟨B,s,c,m,rw',rfl,q,R,Ui,RQ,Uh,sl,k⟩:=h
  refine ⟨_,(aC (aY (i:=2) za.nd rfl (Or.inl rfl) aq)
   (aC (Bk PassesOwn.never (PW.pt (jJ (aR iG (pv 2) aq (aV _)) (jJ (aR iG (aO (aL (K:=K) rfl) (pv 0) aq (fun _ _=>rfl)) (bN (bF (K:=K) rfl) (by rfl) Bt.gj dR (aj (pv 1) au)) (aV _)) (iZ (aR (pZ (K:=K) rfl) (aO (aU (K:=K) rfl) (aO (aL (K:=K) rfl) (pv 1) (aO (aL (K:=K) rfl) (pv 0) aq (fun _ _=>rfl)) (fun _ _=>rfl)) aq (fun _ _=>rfl)) (bR (aj aW (aj aW (aj aW (aj aW au))))) (by with_unfolding_all rfl)))))) (aC (dh (bD Ua (hr.mono (by decide)) (by rfl) (aj (pv 0) (aj (aO (aL (K:=K) rfl) (pv 1) (aO (aL (K:=K) rfl) (pv 0) aq (fun _ _=>rfl)) (fun _ _=>rfl)) au))))
   (aH (aY (i:=2) za.nd rfl (Or.inl rfl) (bJ dM (pv 2) aq)))))
   (aC (dz aW (fX (pv 0) aq set_list))
   (aH (bU (aR iG (aO (aL (K:=K) rfl) (pv 0) aq (fun _ _=>rfl)) (bN (bF (K:=K) rfl) (by rfl) Bt.gj dR (aj (pv 1) au)) (aV _)) (aH (dz (aO (aL (K:=K) rfl) (bZ (aj aW (aj aW au))) (b_ lG (by rfl) Bt.yG tM (aj (dY (pZ (K:=K) rfl) (aO (aU (K:=K) rfl) (aO (aL (K:=K) rfl) (pv 1) (aO (aL (K:=K) rfl) (pv 0) aq (fun _ _=>rfl)) (fun _ _=>rfl)) aq (fun _ _=>rfl)) (bR (aj aW (aj aW (aj aW (aj aW au))))) (by with_unfolding_all rfl)) au)) (fun _ _=>rfl)) (fX (pv 0) aq set_list))) bB))))), ?_⟩
  have fin:∀(D:Ends) (d:Nat) (z:aX) (H1:Hp),(∀σ H',D.nx σ H'=Q .non H')->rA H1 B z c->KL B H H1->z.rws=s.rws->(∃ts,H1 rw'=some (.lst ts)/\bf H1 ts (z.rws.map gD))->(z.rws[z.pos]? = none->lead s={z with st:= "ends" })->(∀r,z.rws[z.pos]? = some r->lead s={z with st:=if touch r then "waits" else "lost" }) ->
   Jq (Jt (tC (V.str (Str.ofString "ends"))) (SX (pU 0) (tC (V.int 3)) JC)) (Vi (Qe (Fo (Nb fun i j=>V.bl (decide (i<j))) (Fo (Dy K) (pU 0) (tC (V.int 0))) (YB (Vv K) (jr (pU 1) xq)))) (Jt (Fo (Dy K) (Vg (jr (tC (V.str (Str.ofString "waits"))) (jr (tC (V.str (Str.ofString "lost"))) xq))) (YB (fun xs H Q=>(∃i,xs=[V.int i]/\Q (V.int i) H) \/ ∃k,xs=[V.bl k]/\Q (V.int (if k=true then 1 else 0)) H) (jr (Fo (rIn K false) (Fo (JD K) (Fo (Dy K) (pU 1) (Fo (Dy K) (pU 0) (tC (V.int 0)))) (tC (V.int 0))) (QM (jr (tC (V.str (Str.ofString "let"))) (jr (tC (V.str (Str.ofString "say"))) (jr (tC (V.str (Str.ofString "go"))) (jr (tC (V.str (Str.ofString "unless"))) xq)))))) xq))) (SX (pU 0) (tC (V.int 3)) JC)) Fp) D [some (.ref B.h),some (.ref rw'),some (.int d)] H1:=fun D d z H1 hD q1 k1 zr ⟨ts,hts,xK⟩ e0 e1=>by
   have ln:ts.length=z.rws.length:=by rw [xK.length,List.length_map]
   refine ⟨_,rfl,B.h,_,_,3,rfl,rfl,q1.h,rfl, ?_⟩;have q2:=q1.gM z.pos c "ends";have k2:=k1.trans (KL.gM (A:=B) (H:=H1) (o:= .lst [.int z.pos,.ref B.b,.ref B.sy,.str "ends",.int c]));rw [show ([V.int z.pos,V.ref B.b,V.ref B.sy,V.str z.st,V.int c].set 3 (V.str (Str.ofString "ends")))=[.int z.pos,.ref B.b,.ref B.sy,.str "ends",.int c] from rfl];have HF:(upd H1 B.h (.lst [.int z.pos,.ref B.b,.ref B.sy,.str "ends",.int c])) rw'=some (.lst ts):=by rw [aG Ui];exact hts
   have Xa:bf (upd H1 B.h (.lst [.int z.pos,.ref B.b,.ref B.sy,.str "ends",.int c])) ts (z.rws.map gD):=xK.kp fun x xs e=>by rw [aG (cj e q1.h (by intro z;cases z))];exact e
   generalize (upd H1 B.h (.lst [.int z.pos,.ref B.b,.ref B.sy,.str "ends",.int c]))=H2 at q2 k2 HF Xa ⊢;refine ⟨_,rfl,_,_,_,_,rfl,rfl,bC.of q2.h,rfl,_,rfl,rw',_,rfl,.inl (bC.of HF),_,_,rfl,rfl,_,rfl, ?_⟩;cases er:z.rws[z.pos]? with
   | none=>
     have ge:z.rws.length<=z.pos:=List.getElem?_eq_none_iff.mp er;refine bH (fun w'=>absurd (of_decide_eq_true w') (by rw [ln];show ¬(z.pos:Int)<(z.rws.length:Int);omega)) (fun _=> ?_);show D.nx _ _;rw [hD];exact k _ (by rw [e0 er];exact q2) k2
   | some r=>
     have lt:z.pos<z.rws.length:=(List.getElem?_eq_some_iff.mp er).1;obtain ⟨v,ev,dv⟩:=Xa.getD (i:=z.pos) (d:=gD r) (by rw [List.getElem?_map,er];rfl);obtain ⟨t,ys,rfl,ht⟩:=z9 dv;refine bH (fun _=> ?_) (fun w'=>absurd (decide_eq_true (by rw [ln];show (z.pos:Int)<(z.rws.length:Int);omega)) w');refine ⟨(by show 2<=sizeLine;decide),fun l hl=> ?_⟩;have sl':=aF (o:=HO.lst [V.str (Str.ofString "waits"),V.str (Str.ofString "lost")]) hl;refine ⟨_,rfl,_,rfl,_,_,_,_,rfl,rfl,bC.of (sl' _ _ q2.h),rfl,_,_,_,_,rfl,rfl,bC.of (sl' _ _ HF),cg ev,_,_,_,_,rfl,rfl,cA.of (sl' _ _ ht),Cr,(by show 4<=sizeLine;decide),fun p hp=> ?_⟩;have sp:=aF (o:=HO.tup [V.str (Str.ofString "let"),V.str (Str.ofString "say"),V.str (Str.ofString "go"),V.str (Str.ofString "unless")]) hp;refine ⟨p,_,rfl,.inr (cA.of ak),rfl,rfl,.inr ⟨_,rfl,_,_,_,_,rfl,rfl,bC.of (sp _ _ ak),(show wU [V.str (Str.ofString "waits"),V.str (Str.ofString "lost")] (if (if false=true then !uh (qx r) else uh (qx r))=true then 1 else 0)=some (.str (if touch r then "waits" else "lost")) from ?_), ?_⟩⟩
     ·rw [if_neg Bool.false_ne_true,Av]
      cases touch r<;>rfl
     have q3:=(q2.same sl').same sp;refine ⟨_,rfl,B.h,_,_,3,rfl,rfl,q3.h,rfl, ?_⟩;show D.nx _ _;rw [hD];refine k _ ?_ ((k2.trans (KL.of_same (sl'.trans sp))).trans KL.gM);rw [e1 r er];exact q3.gM z.pos c _
  refine ⟨fun n σ H1=>∃(d:Nat) (z:aX),σ=[some (.ref B.h),some (.ref rw'),some (.int d)]/\d<=60/\n=60 - d/\rA H1 B z c/\KL B H H1/\led (60 - d) z=lead s/\z.rws=s.rws/\z.sy.length<=s.sy.length+d,
   ⟨60,0,s,rfl,by decide,rfl,q,KL.of_same (Same.refl _),rfl,rfl,Nat.le_refl _⟩,fun n σ H1 hσ=> ?_⟩
  obtain ⟨d,z,rfl,d60,rfl,q1,k1,hl,zr,zs⟩:=hσ
  have R1:cJ H1 rw' m z.rws:=by
   rw [zr];exact R.keep (fun o e=>k1 _ _ e Ui RQ Uh) (q.tup k1)
  obtain ⟨ts,hts,xK,ro,rl⟩:=R1;have ln:ts.length=z.rws.length:=by rw [xK.length,List.length_map]
  refine ⟨_,rfl,_,_,rfl,rfl,_,rfl, ?_⟩
  by_cases e6:d=60
  ·subst e6
   have h0:led 0 z=lead s:=hl;refine bH (fun w'=>absurd (of_decide_eq_true w') (by decide)) (fun _=> ?_);refine fM ?_;refine fin _ 60 z H1 (fun _ _=>rfl) q1 k1 zr ⟨ts,hts,xK⟩ (fun en=> ?_) (fun r er=> ?_)
   ·rw [←h0];simp only [led,en]
   ·rw [←h0];simp only [led,er];cases touch r<;>rfl
  refine bH (fun _=> ?_) (fun w'=>absurd (decide_eq_true (by omega)) w');refine ⟨_,rfl,_,_,_,_,rfl,rfl,bC.of q1.h,rfl,_,rfl,rw',_,rfl,.inl (bC.of hts),_,_,rfl,rfl,_,rfl, ?_⟩;cases er:z.rws[z.pos]? with
  | none=>
    have ge:z.rws.length<=z.pos:=List.getElem?_eq_none_iff.mp er;refine bH (fun w'=>absurd (of_decide_eq_true w') (by rw [ln];show ¬(z.pos:Int)<(z.rws.length:Int);omega)) (fun _=> ?_);refine fM ?_;refine fin _ d z H1 (fun _ _=>rfl) q1 k1 zr ⟨ts,hts,xK⟩ (fun _=> ?_) (fun r Mp=>by rw [er] at Mp;cases Mp);rw [←hl];cases e60:60 - d<;>simp only [led,er]
  | some r=>
    have lt:z.pos<z.rws.length:=(List.getElem?_eq_some_iff.mp er).1;obtain ⟨v,ev,dv⟩:=xK.getD (i:=z.pos) (d:=gD r) (by rw [List.getElem?_map,er];rfl);obtain ⟨t,ys,rfl,ht⟩:=z9 dv;refine bH (fun _=> ?_) (fun w'=>absurd (decide_eq_true (by rw [ln];show (z.pos:Int)<(z.rws.length:Int);omega)) w');refine ⟨_,rfl,_,rfl,_,_,_,_,rfl,rfl,bC.of q1.h,rfl,_,_,_,_,rfl,rfl,bC.of hts,cg ev,_,_,_,_,rfl,rfl,cA.of ht,Cr,(by show 4<=sizeLine;decide),fun p hp=> ?_⟩;have sp:=aF (o:=HO.tup [V.str (Str.ofString "let"),V.str (Str.ofString "say"),V.str (Str.ofString "go"),V.str (Str.ofString "unless")]) hp;refine ⟨p,_,rfl,.inr (cA.of ak),rfl,rfl,_,rfl, ?_⟩;have q2:=q1.same sp;have k2:=k1.trans (KL.of_same (A:=B) sp);have uw:=Av r;cases tr:touch r with
    | true=>
      rw [tr] at uw;refine bH (fun w'=>absurd (show uh (qx r)=true from w') (by rw [uw];decide)) (fun _=> ?_);refine fin _ d z _ (fun _ _=>rfl) q2 k2 zr ⟨ts,sp _ _ hts,xK.same sp _⟩ (fun en=>by rw [er] at en;cases en) (fun r' Mp=> ?_);rw [er] at Mp;cases Mp;rw [←hl];cases e60:60 - d<;>simp only [led,er,tr,if_true]
    | false=>
      rw [tr] at uw;refine bH (fun _=> ?_) (fun w'=>absurd (show uh (qx r)=true from uw) w');refine ⟨fun σ' H'=>∃m',m'<60 - d /\ ∃(d:Nat) (z:aX),σ'=[some (.ref B.h),some (.ref rw'),some (.int d)]/\d<=60/\m'=60 - d/\rA H' B z c/\KL B H H'/\led (60 - d) z=lead s/\z.rws=s.rws/\z.sy.length<=s.sy.length+d,fun _ _ q=>q, ?_⟩;refine ⟨_,rfl,_,rfl,_,rfl,_,_,_,_,rfl,rfl,bC.of q2.h,rfl,_,_,_,_,rfl,rfl,bC.of (sp _ _ hts),cg ev,B,z,c,_,r,m,rfl,q2,dv.same sp _,ro r (List.mem_of_getElem? er),tr,by omega,fun H3 q3 k3=> ?_⟩;refine ⟨_,rfl,_,_,rfl,rfl,60 - (d+1),by omega,d+1,jN z r,rfl,by omega,rfl,q3,k2.trans k3, ?_,by rw [sX,zr], ?_⟩
      ·rw [←hl,show 60 - d=(60 - (d+1))+1 by omega]
       simp only [led,er,tr];rfl
      ·have:=wD z r
       omega
structure Qx where
 (st nb hl:Addr) (hd:List Am)
structure PJ (j k:Nat) (τ:Tg) (H:Hp) (A:Am) (s:aX) (c:Nat):Prop where
 q:rA H A s c
 th:τ A.h=[j,4,k]
 tb:τ A.b=[j,5,k]
 ty:τ A.sy=[j,6,k]
structure yH (j:Nat) (τ:Tg) (H:Hp) (L:Qx) (ns:List Int) (hs:List aX) (cs:List Nat):Prop where
 st:H L.st=some (.lst [.ref L.nb,.ref L.hl])
 nb:H L.nb=some (.lst (ns.map V.int))
 hl:H L.hl=some (.lst (L.hd.map fun a=> .ref a.h))
 ts:τ L.st=[j,0]
 tb:τ L.nb=[j,1]
 tl:τ L.hl=[j,2]
 len:L.hd.length=hs.length
 lc:cs.length=hs.length
 hd:∀(k:Nat) (A:Am) (s:aX) (c:Nat),L.hd[k]? = some A->hs[k]? = some s->cs[k]? = some c->PJ j k τ H A s c
theorem PJ.Mi {C:List (List Nat)} {j k:Nat} {τ τ':Tg} {H H':Hp} {A:Am} {s:aX} {c:Nat} (h:PJ j k τ H A s c) (q:mZ C τ H τ' H') (h4:[j,4,k]∉C) (h5:[j,5,k]∉C) (h6:[j,6,k]∉C):PJ j k τ' H' A s c:=by
 obtain ⟨⟨c1,c2,c3,c4,c5,c6,c7⟩,th,tb,ty⟩:=h;have e1:=q.keep _ _ c1 (by rw [th];exact h4);have e2:=q.keep _ _ c2 (by rw [tb];exact h5);have e3:=q.keep _ _ c3 (by rw [ty];exact h6);exact ⟨⟨e1.1,e2.1,e3.1,c4,c5,c6,c7⟩,e1.2.trans th,e2.2.trans tb,e3.2.trans ty⟩
theorem PJ.mv {j k:Nat} {τ τ':Tg} {H H':Hp} {A:Am} {s:aX} {c:Nat} (h:PJ j k τ H A s c) (q:Mv j τ H τ' H'):PJ j k τ' H' A s c:=by
 obtain ⟨⟨c1,c2,c3,c4,c5,c6,c7⟩,th,tb,ty⟩:=h;have e1:=q.keep _ _ c1 (.inr (by rw [th];rfl));have e2:=q.keep _ _ c2 (.inr (by rw [tb];rfl));have e3:=q.keep _ _ c3 (.inr (by rw [ty];rfl));exact ⟨⟨e1.1,e2.1,e3.1,c4,c5,c6,c7⟩,e1.2.trans th,e2.2.trans tb,e3.2.trans ty⟩
section
variable {j:Nat} {τ τ':Tg} {H H':Hp} {L:Qx} {ns:List Int} {hs:List aX} {cs:List Nat}
theorem yH.mv (w:yH j τ H L ns hs cs) (q:Mv j τ H τ' H'):yH j τ' H' L ns hs cs:=by
 have e1:=q.keep _ _ w.st (.inr (by rw [w.ts];rfl));have e2:=q.keep _ _ w.nb (.inr (by rw [w.tb];rfl));have e3:=q.keep _ _ w.hl (.inr (by rw [w.tl];rfl));exact ⟨e1.1,e2.1,e3.1,e1.2.trans w.ts,e2.2.trans w.tb,e3.2.trans w.tl,w.len,w.lc,fun k A s c h1 h2 h3=>(w.hd k A s c h1 h2 h3).mv q⟩
theorem yH.same (w:yH j τ H L ns hs cs) (k:Same H H'):yH j τ H' L ns hs cs:=w.mv (Mv.of_same k)
theorem yH.hand {k:Nat} {s:aX} (w:yH j τ H L ns hs cs) (h:hs[k]? = some s):∃A c,L.hd[k]? = some A/\cs[k]? = some c/\PJ j k τ H A s c:=by
 have kl:=(List.getElem?_eq_some_iff.mp h).1;have e1:L.hd[k]? = some (L.hd[k]'(by rw [w.len];exact kl)):=List.getElem?_eq_getElem _;have e2:cs[k]? = some (cs[k]'(by rw [w.lc];exact kl)):=List.getElem?_eq_getElem _;exact ⟨_,_,e1,e2,w.hd k _ s _ e1 h e2⟩
end
def yW (K:PySem.W.Frag):Sp:=fun vs H Q _=>∃(j:Nat) (τ:Tg) (p PL nb:Addr) (rs:List Addr) (rws:List (List Rw)) (m:Nat) (ns:List Int),vs=[.ref p,.ref nb]/\Pg τ H p PL rs rws m/\rws.length<=100/\H nb=some (.lst (ns.map V.int))/\oF τ H /\
 ∀(L:Qx) (τ':Tg) (H':Hp),yH j τ' H' L ns (rws.map fun r=>lead (new r)) (List.replicate rws.length 0)->oF τ' H'->(∀x u,H x=some u->τ' x=τ x)->Same H H'->Q (.ref L.st) H'
theorem Ka {f:Addr} {fd:FuncData} (F:iY K "_law_begun" "_law_begun" ig f fd) (Fd:FnAt P w K mg base 5 "_law_led" ["hand","rows"] (Ax K)) (Bt:o8 mg):bV P w K mg base iD 6 f fd ["program","numbers"] (yW K):=by
 refine F.ok oR (fun vs H Q E h=> ?_) (fun cdv A outer s H vs Q E hr h=> ?_)
 ·obtain ⟨j,τ,p,PL,nb,rs,rws,m,ns,rfl,_⟩:=h
  rfl
 ·obtain ⟨j,τ,p,PL,nb,rs,rws,m,ns,rfl,g,rl,hnb,un,k⟩:=h
  refine ⟨_,(aC (aY (i:=2) oR.nd rfl (Or.inl rfl) (bZ au))
   (aC (nF PassesOwn.never rfl (dB (K:=K) rfl (aO (aU (K:=K) rfl) (pv 0) aq (fun _ _=>rfl))) (bG (i:=3) oR.nd rfl (Or.inl rfl))
   (aC (aY (i:=4) oR.nd rfl (Or.inl rfl) (bZ (aj aq (aj (bJ vQ (bZ (aj aq au)) aq) (aj (bZ au) (aj aW (aj aq au)))))))
   (aC (dh (bD Fd (hr.mono (by decide)) (by rfl) (aj (pv 4) (aj (pv 3) au))))
   (aH (dh (gP (K:=K) rfl (pv 2) (aj (pv 4) au)))))))
   (aH (bA (bZ (aj (b_ (bQ (K:=K) rfl) (by rfl) Bt.fZ eO (aj (pv 1) au)) (aj (pv 2) au))))))), ?_⟩
  refine ⟨(by show 0<=sizeLine;decide),fun a ha=> ?_⟩;have sa:=aF (o:=HO.lst []) ha;have un1:=un.claim (t:=[j,2]) sa (p:=a) ⟨_,ak⟩;have g1:=g.same sa;refine ⟨_,rfl,_,_,_,_,rfl,rfl,cA.of g1.ep,rfl,PL,rfl,⟨_,bC.of g1.eL⟩, ?_⟩
  refine oh (K:=K) (a:=PL) (xs:=rs.map V.ref) (fun i σ Hc=>∃(x1 x2:Option V) (τc:Tg) (hd:List Am),σ=[some (.ref p),some (.ref nb),some (.ref a),x1,x2]/\Same H Hc/\oF τc Hc/\(∀x u,H x=some u->τc x=τ x)/\Hc a=some (.lst (hd.map fun q=> .ref q.h))/\τc a=[j,2]/\hd.length=i /\ ∀(k:Nat) (A:Am) (x:List Rw),hd[k]? = some A->rws[k]? = some x->PJ j k τc Hc A (lead (new x)) 0)
   ⟨none,none,aQ τ a [j,2],[],rfl,sa,un1,fun x u e=>aP (aB e ha),ak,bw,rfl,fun k A x e=>by simp at e⟩ ?_ ?_ ?_
  ·rintro i σ Hc _ ⟨x1,x2,τc,hd,rfl,sc,_⟩
   exact bC.of (sc _ _ g.eL)
  ·rintro i x σ Hc hi ⟨x1,x2,τc,hd,rfl,sc,Uc,xY,hac,tac,li,hdc⟩
   rw [List.getElem?_map] at hi
   obtain ⟨r,er,rfl⟩:∃r,rs[i]? = some r/\x = .ref r:=by
    cases e:rs[i]? with
    | none=>rw [e] at hi;cases hi
    | some r=>rw [e] at hi;exact ⟨r,rfl,(Option.some.inj hi).symm⟩
   have il:i<rws.length:=by rw [←g.len];exact (List.getElem?_eq_some_iff.mp er).1
   have ex:rws[i]? = some rws[i]:=by simp [il]
   obtain ⟨tr,R⟩:=g.row i r _ er ex;refine ⟨(by show 1<=sizeLine;decide),fun z hz=> ?_⟩;have sz:=aF (o:=HO.lst [V.int 0]) hz;refine ⟨z,8,_,rfl,rfl,ak,by decide,by decide,by show 1*8<=sizeLine;decide,fun b hb=> ?_⟩;have sb:=aF (o:=HO.lst (List.replicate (8:Int).toNat [V.int 0]).flatten) hb;refine ⟨(by show 0<=sizeLine;decide),fun y hy=> ?_⟩;have sy:=aF (o:=HO.lst []) hy;refine ⟨(by show 5<=sizeLine;decide),fun h hh=> ?_⟩;have sh:=aF (o:=HO.lst [V.int 0,V.ref b,V.ref y,V.str (Str.ofString ""),V.int 0]) hh;have s4:=((sz.trans sb).trans sy).trans sh;have fb:Hc b=none:=sz.free hb;have fy:Hc y=none:=(sz.trans sb).free hy;have fh:Hc h=none:=((sz.trans sb).trans sy).free hh;have tY:b≠y:=aB ak hy;have Uj:b≠h:=aB (sy _ _ ak) hh;have nyh:y≠h:=aB ak hh
   have q4:rA (upd (upd (upd (upd Hc z (.lst [V.int 0])) b (.lst (List.replicate (8:Int).toNat [V.int 0]).flatten)) y (.lst [])) h (.lst [V.int 0,V.ref b,V.ref y,V.str (Str.ofString ""),V.int 0])) ⟨h,b,y⟩ ⟨rws[i],0,List.replicate 8 0,[],""⟩ 0:=
    ⟨ak,sh _ _ (sy _ _ ak),sh _ _ ak,Uj.symm,nyh.symm,tY,rfl⟩
   have s04:=sc.trans s4;have R4:=R.same s04;have rr:=R;obtain ⟨ts,hts,_⟩:=rr;have htc:=sc _ _ hts;generalize (upd (upd (upd (upd Hc z (.lst [V.int 0])) b (.lst (List.replicate (8:Int).toNat [V.int 0]).flatten)) y (.lst [])) h (.lst [V.int 0,V.ref b,V.ref y,V.str (Str.ofString ""),V.int 0]))=H4 at s4 q4 s04 R4 ⊢;refine ⟨_,rfl,_,rfl,⟨h,b,y⟩,_,0,m,r,rfl,q4,R4,aB htc fh,aB htc fb,aB htc fy,(by show 0<900000;decide),fun H5 q5 k5=> ?_⟩;have s5:Same Hc H5:=fun x u e=>k5 _ _ (s4 _ _ e) (aB e fh) (aB e fb) (aB e fy);have ha5:=s5 _ _ hac;refine ⟨_,rfl,.inl ⟨rfl,_,bC.of ha5⟩,_,rfl,_,_,_,rfl,rfl,ha5,(by rw [List.length_map,sizeLine_eq];omega), ?_⟩;have nah:a≠h:=aB hac fh;have nab:a≠b:=aB hac fb;have nay:a≠y:=aB hac fy;have T:∀x u,Hc x=some u->aQ (aQ (aQ τc h [j,4,i]) b [j,5,i]) y [j,6,i] x=τc x:=fun x u e=>by rw [aP (aB e fy),aP (aB e fb),aP (aB e fh)]
   have Th:aQ (aQ (aQ τc h [j,4,i]) b [j,5,i]) y [j,6,i] h=[j,4,i]:=by rw [aP nyh.symm,aP Uj.symm,bw]
   have Tb:aQ (aQ (aQ τc h [j,4,i]) b [j,5,i]) y [j,6,i] b=[j,5,i]:=by rw [aP tY,bw]
   have Ty:aQ (aQ (aQ τc h [j,4,i]) b [j,5,i]) y [j,6,i] y=[j,6,i]:=bw
   have un6:oF (aQ (aQ (aQ τc h [j,4,i]) b [j,5,i]) y [j,6,i]) (upd H5 a (.lst ((hd.map fun q=>V.ref q.h)++[V.ref h]))):=fun x e=>by
    have e5:H5 x=none:=by
     by_cases z:x=a
     ·rw [z,ak] at e;cases e
     ·rw [aG z] at e;exact e
    have n1:x≠h:=fun z=>by rw [z,q5.h] at e5;cases e5
    have n2:x≠b:=fun z=>by rw [z,q5.b] at e5;cases e5
    have n3:x≠y:=fun z=>by rw [z,q5.y] at e5;cases e5
    rw [aP n3,aP n2,aP n1];exact Uc x (s5.free e5)
   have q6:mZ [[j,2]] τc Hc (aQ (aQ (aQ τc h [j,4,i]) b [j,5,i]) y [j,6,i]) (upd H5 a (.lst ((hd.map fun q=>V.ref q.h)++[V.ref h]))):=by
    refine ⟨fun x u e n=>⟨?_,T x u e⟩,fun x xs e=> ?_⟩
    ·rw [aG (fun z:x=a=>n (by rw [z,tac];simp))]
     exact s5 _ _ e
    ·rw [aG (cj e hac (by intro z;cases z))]
     exact s5 _ _ e
   generalize aQ (aQ (aQ τc h [j,4,i]) b [j,5,i]) y [j,6,i]=τ6 at T Th Tb Ty un6 q6;have haH:H a=none:=ha;refine ⟨_,_,τ6,hd++[⟨h,b,y⟩],rfl,(sc.trans s5).newly haH,un6,fun x u e=>by rw [T x u (sc _ _ e)];exact xY x u e,by rw [ak,List.map_append];rfl,by rw [T _ _ hac];exact tac,by simp [li],fun kk A x h1 h2=> ?_⟩;rcases iw h1 with h1|⟨e1,rfl⟩
   ·exact (hdc kk A x h1 h2).Mi q6 (by simp) (by simp) (by simp)
   ·rw [e1,li,ex] at h2
    cases h2;rw [e1,li];have el:lead ⟨rws[i],0,List.replicate 8 0,[],""⟩=lead (new rws[i]):=Ku 60 (new rws[i]) "";rw [el] at q5;exact ⟨⟨by rw [aG nah.symm];exact q5.h,by rw [aG nab.symm];exact q5.b,by rw [aG nay.symm];exact q5.y,q5.zF,q5.Ak,q5.tY,q5.bl⟩,Th,Tb,Ty⟩
  ·rintro σ Hc ⟨x1,x2,τc,hd,rfl,sc,Uc,xY,hac,tac,li,hdc⟩
   rw [List.length_map,g.len] at li;refine ⟨_,rfl,nb,_,rfl,.inl (bC.of (sc _ _ hnb)),fun n hn=> ?_⟩;have sn:=aF (o:=HO.lst (ns.map V.int)) hn;refine ⟨_,rfl,(by show 2<=sizeLine;decide),fun t ht=> ?_⟩;have st:=aF (o:=HO.lst [V.ref n,V.ref a]) ht;have fn:Hc n=none:=hn;have ft:Hc t=none:=sn.free ht;have nnt:n≠t:=aB ak ht;have nan:a≠n:=aB hac fn;have alK:a≠t:=aB hac ft;have s2:=sn.trans st;have T:∀x u,Hc x=some u->aQ (aQ τc n [j,1]) t [j,0] x=τc x:=fun x u e=>by rw [aP (aB e ft),aP (aB e fn)]
   have q7:mZ [] τc Hc (aQ (aQ τc n [j,1]) t [j,0]) (upd (upd Hc n (.lst (ns.map V.int))) t (.lst [V.ref n,V.ref a])):=⟨fun x u e _=>⟨s2 _ _ e,T x u e⟩,s2.tups⟩;refine k ⟨t,n,a,hd⟩ (aQ (aQ τc n [j,1]) t [j,0]) _ ⟨ak,st _ _ ak,s2 _ _ hac,bw,by show aQ (aQ τc n [j,1]) t [j,0] n=_;rw [aP nnt,bw],by show aQ (aQ τc n [j,1]) t [j,0] a=_;rw [T _ _ hac];exact tac,by show hd.length=(rws.map _).length;rw [List.length_map,li],by simp,fun kk A s' c h1 h2 h3=> ?_⟩ (fun x e=> ?_) (fun x u e=>by rw [T x u (sc _ _ e)];exact xY x u e) (sc.trans s2)
   ·rw [List.getElem?_map] at h2
    cases ex:rws[kk]? with
    | none=>rw [ex] at h2;cases h2
    | some x=>
      rw [ex] at h2;cases h2;rw [List.getElem?_replicate] at h3;split at h3
      ·cases h3
       exact (hdc kk A x h1 ex).Mi q7 (by simp) (by simp) (by simp)
      ·cases h3
   ·have n1:x≠t:=fun z=>by rw [z,ak] at e;cases e
    rw [aG n1] at e;have n2:x≠n:=fun z=>by rw [z,ak] at e;cases e
    rw [aG n2] at e;rw [aP n1,aP n2];exact Uc x e
theorem yH.gone {j:Nat} {τ:Tg} {H H':Hp} {L:Qx} {ns:List Int} {hs:List aX} {cs:List Nat} {k c:Nat} {A:Am} {s:aX} {r:Rw} (w:yH j τ H L ns hs cs) (eA:L.hd[k]? = some A) (es:hs[k]? = some s) (ec:cs[k]? = some c)
 (kp:∀x u,H x=some u->x≠L.nb->x≠A.h->x≠A.b->x≠A.sy->H' x=some u) (q:rA H' A (gF ns s r) (c+1)) (hnb:H' L.nb=some (.lst ((fY ns s.bs r).map V.int))):
 yH j τ H' L (fY ns s.bs r) (hs.set k (gF ns s r)) (cs.set k (c+1))/\Cv j τ H H':=by
 have a:=w.hd k A s c eA es ec;have tup:∀x xs,H x=some (.tup xs)->H' x=some (.tup xs):=fun x xs e=>kp _ _ e (cj e w.nb (by intro z;cases z)) (cj e a.q.h (by intro z;cases z)) (cj e a.q.b (by intro z;cases z)) (cj e a.q.y (by intro z;cases z))
 have st:Cv j τ H H':=by
  refine ⟨fun x u e n=> ?_,tup,fun x e=> ?_⟩
  ·have ne:∀(y:Addr) (t:List Nat),τ y=j::t->x≠y:=fun y t ty z=>n (by rw [z,ty];rfl)
   exact kp _ _ e (ne _ _ w.tb) (ne _ _ a.th) (ne _ _ a.tb) (ne _ _ a.ty)
  ·cases q':H x with
   | none=>rfl
   | some u=>
     have no:∀y o,H' y=some o->x≠y:=fun y o h z=>by rw [z,h] at e;cases e
     rw [kp _ _ q' (no _ _ hnb) (no _ _ q.h) (no _ _ q.b) (no _ _ q.y)] at e;cases e
 refine ⟨?_,st⟩
 have mv:mZ [[j,1],[j,4,k],[j,5,k],[j,6,k]] τ H τ H':=by
  refine ⟨fun x u e n=>⟨?_,rfl⟩,tup⟩;have ne:∀(y:Addr) (t:List Nat),τ y=t->t∈[[j,1],[j,4,k],[j,5,k],[j,6,k]]->x≠y:=fun y t ty ht z=>n (by rw [z,ty];exact ht);exact kp _ _ e (ne _ _ w.tb (by simp)) (ne _ _ a.th (by simp)) (ne _ _ a.tb (by simp)) (ne _ _ a.ty (by simp))
 have hk:k<hs.length:=(List.getElem?_eq_some_iff.mp es).1;have hk':k<cs.length:=(List.getElem?_eq_some_iff.mp ec).1;refine ⟨(mv.keep _ _ w.st (by rw [w.ts];simp)).1,hnb,(mv.keep _ _ w.hl (by rw [w.tl];simp)).1,w.ts,w.tb,w.tl,by simp [w.len],by simp [w.lc],fun i A' s' c' h1 h2 h3=> ?_⟩;rw [List.getElem?_set] at h2 h3
 by_cases z:k=i
 ·subst z
  rw [if_pos rfl,if_pos hk] at h2;rw [if_pos rfl,if_pos hk'] at h3;rw [eA] at h1;cases h1;cases h2;cases h3;exact ⟨q,a.th,a.tb,a.ty⟩
 ·rw [if_neg z] at h2 h3
  exact (w.hd i A' s' c' h1 h2 h3).Mi mv (by simp [Ne.symm z]) (by simp [Ne.symm z]) (by simp [Ne.symm z])
def Dt (K:PySem.W.Frag):Sp:=fun vs H Q _=>∃(j:Nat) (τ:Tg) (L:Qx) (ns:List Int) (hs:List aX) (cs:List Nat) (p PL:Addr) (rs:List Addr) (rws:List (List Rw)) (m k:Nat) (s:aX) (r:Rw),vs=[.ref L.st,.ref p,.int k]/\yH j τ H L ns hs cs/\Pg τ H p PL rs rws m/\j≠0/\ns.length=m/\hs[k]? = some s/\rws[k]? = some s.rws/\s.rws[s.pos]? = some r/\touch r=true/\s.sy.length<900000 /\
 ∀(t:Addr) (H':Hp),H' t=some (.tup (Dl ns s.bs r))->(∃c,cs[k]? = some c/\yH j τ H' L (fY ns s.bs r) (hs.set k (gF ns s r)) (cs.set k (c+1)))->Cv j τ H H'->Q (.ref t) H'
theorem Oe {f:Addr} {fd:FuncData} (F:iY K "_law_gone" "_law_gone" jy f fd) (jP:FnAt P w K mg base 3 "_law_now" ["boxes","told"] (tX 2 K)) (Fd:FnAt P w K mg base 5 "_law_led" ["hand","rows"] (Ax K)) (Bt:o8 mg):bV P w K mg base iD 6 f fd ["state","program","k"] (Dt K):=by
 refine F.ok jg (fun vs H Q E h=> ?_) (fun cdv A outer s H vs Q E hr h=> ?_)
 ·obtain ⟨j,τ,L,ns,hs,cs,p,PL,rs,rws,m,k,s,r,rfl,_⟩:=h
  rfl
 ·obtain ⟨j,τ,L,ns,hs,cs,p,PL,rs,rws,m,k,s,r,rfl,w,g,j0,nl,es,ew,er,tr,sl,kk⟩:=h
  refine ⟨_,(aC (aY (i:=3) jg.nd rfl (Or.inl rfl) (aO (aL (K:=K) rfl) (aO (aL (K:=K) rfl) (pv 0) aq (fun _ _=>rfl)) (pv 2) (fun _ _=>rfl)))
   (aC (aY (i:=4) jg.nd rfl (Or.inl rfl) (aO (aL (K:=K) rfl) (aO (aL (K:=K) rfl) (aO (aU (K:=K) rfl) (pv 1) aq (fun _ _=>rfl)) (pv 2) (fun _ _=>rfl)) (aO (aL (K:=K) rfl) (pv 3) aq (fun _ _=>rfl)) (fun _ _=>rfl)))
   (aC (dz (bJ dM (aO (aL (K:=K) rfl) (pv 3) aq (fun _ _=>rfl)) aq) (fX (pv 3) aq set_list))
   (aC (dz (bJ dM (aO (aL (K:=K) rfl) (pv 3) aq (fun _ _=>rfl)) aq) (fX (pv 3) aq set_list))
   (aC (aY (i:=5) jg.nd rfl (Or.inl rfl) gG)
   (aC (aY (i:=6) jg.nd rfl (Or.inl rfl) gG)
   (aC (aY (i:=7) jg.nd rfl (Or.inl rfl) (aO (aU (K:=K) rfl) (pv 4) (aO (aL (K:=K) rfl) (bZ (aj aq (aj aq au))) (b_ lG (by rfl) Bt.yG tM (aj (dY cT (aO (aU (K:=K) rfl) (pv 4) aq (fun _ _=>rfl)) aW (aV _)) au)) (fun _ _=>rfl)) (fun _ _=>rfl)))
   (aC (bU (aR qN (aO (aU (K:=K) rfl) (pv 4) aq (fun _ _=>rfl)) aW (aV _)) (aH (aY (i:=6) jg.nd rfl (Or.inl rfl) (bD jP (hr.mono (by decide)) (by rfl) (aj (aO (aL (K:=K) rfl) (pv 3) aq (fun _ _=>rfl)) (aj (aO (aU (K:=K) rfl) (pv 4) (JF Di aq) (fun _ _=>rfl)) au))))) bB)
   (aC (bU (aR qN (aO (aU (K:=K) rfl) (pv 4) aq (fun _ _=>rfl)) aW (aV _)) (aC (aY (i:=5) jg.nd rfl (Or.inl rfl) (aO (aL (K:=K) rfl) (aO (aL (K:=K) rfl) (pv 0) aq (fun _ _=>rfl)) (pv 7) (fun _ _=>rfl)))
   (aH (dz (pv 5) (fX (aO (aL (K:=K) rfl) (pv 3) aq (fun _ _=>rfl)) (sI (K:=K) rfl PySem.F.plainAttrs_str PySem.F.slot_str_index PySem.F.type_str_index lC aW (aj (aO (aU (K:=K) rfl) (pv 4) aq (fun _ _=>rfl)) au)) set_list)))) bB)
   (aC (bU (aR uN (pv 6) gG (aV _)) (aH (dz (pv 6) (fX (aO (aL (K:=K) rfl) (pv 0) aq (fun _ _=>rfl)) (pv 7) set_list))) bB)
   (aC (dh (bD Fd (hr.mono (by decide)) (by rfl) (aj (pv 3) (aj (aO (aL (K:=K) rfl) (aO (aU (K:=K) rfl) (pv 1) aq (fun _ _=>rfl)) (pv 2) (fun _ _=>rfl)) au))))
   (aH (bA (bR (aj (aO (aU (K:=K) rfl) (pv 4) aq (fun _ _=>rfl)) (aj (pv 7) (aj (pv 5) (aj (pv 6) au)))))))))))))))))), ?_⟩
  obtain ⟨A,c,eA,ec,a⟩:=w.hand es;have kl:=(List.getElem?_eq_some_iff.mp ew).1;have erw:rs[k]? = some (rs[k]'(by rw [g.len];exact kl)):=List.getElem?_eq_getElem _;generalize rs[k]'(by rw [g.len];exact kl)=rk at erw;obtain ⟨Ip,RK⟩:=g.row k rk _ erw ew;have RK':=RK;obtain ⟨ts,hts,xK,ro,rl⟩:=RK';obtain ⟨v,ev,dv⟩:=xK.getD (i:=s.pos) (d:=gD r) (by rw [List.getElem?_map,er];rfl);have pF:=ro r (List.mem_of_getElem? er);have nkh:rk≠A.h:=bY Ip a.th (by intro z;cases z);have nkb:rk≠A.b:=bY Ip a.tb (by intro z;cases z);have nky:rk≠A.sy:=bY Ip a.ty (by intro z;cases z);have nkn:rk≠L.nb:=bY Ip w.tb (by intro z;exact j0 (List.cons.inj z).1.symm);have V3:L.nb≠A.h:=bY w.tb a.th (by simp);have D_:L.nb≠A.b:=bY w.tb a.tb (by simp);have Kh:L.nb≠A.sy:=bY w.tb a.ty (by simp);have nsh:L.st≠A.h:=bY w.ts a.th (by simp);have nsb:L.st≠A.b:=bY w.ts a.tb (by simp);have nsn:L.st≠L.nb:=bY w.ts w.tb (by simp);have nPh:PL≠A.h:=bY g.tL a.th (by intro z;cases z);have nPb:PL≠A.b:=bY g.tL a.tb (by intro z;cases z);have nPn:PL≠L.nb:=bY g.tL w.tb (by intro z;exact j0 (List.cons.inj z).1.symm);have cellOf:∀cc,cc<m->ns[cc]? = some ((ns[cc]?).getD 0):=fun cc h=>by rw [List.getElem?_eq_getElem (by omega)];rfl
  have cellAt:∀cc,cc<m->(ns.map V.int)[cc]? = some (.int ((ns[cc]?).getD 0)):=fun cc h=>by rw [List.getElem?_map,cellOf cc h];rfl
  have KC:∀cc,cc<m->BJ (ns.map V.int).length ((cc:Nat):Int)=some cc:=fun cc h=>by rw [List.length_map];unfold BJ;rw [if_pos (by omega),if_pos (by omega)];simp
  refine ⟨_,rfl,_,_,_,_,rfl,rfl,bC.of w.st,rfl,_,rfl,_,_,_,_,rfl,rfl,bC.of w.hl,cg (by rw [List.getElem?_map,eA];rfl), ?_⟩;refine ⟨_,rfl,_,_,_,_,rfl,rfl,cA.of g.ep,rfl,_,rfl,_,_,_,_,rfl,rfl,bC.of g.eL,cg (by rw [List.getElem?_map,erw];rfl),_,rfl,_,_,_,_,rfl,rfl,bC.of a.q.h,rfl,_,_,_,_,rfl,rfl,bC.of hts,cg ev, ?_⟩;refine ⟨_,rfl,_,_,_,_,rfl,rfl,bC.of a.q.h,rfl,_,_,rfl,rfl,_,rfl,A.h,_,_,0,rfl,rfl,a.q.h,rfl, ?_⟩;have q1:=a.q.gM (s.pos+1) c s.st;rw [show ([V.int s.pos,V.ref A.b,V.ref A.sy,V.str s.st,V.int c].set 0 (V.int ((s.pos:Int)+1)))=[.int ((s.pos+1:Nat):Int),.ref A.b,.ref A.sy,.str s.st,.int c] from rfl];have k1:KL A H (upd H A.h (.lst [.int ((s.pos+1:Nat):Int),.ref A.b,.ref A.sy,.str s.st,.int c])):=KL.gM;generalize (upd H A.h (.lst [.int ((s.pos+1:Nat):Int),.ref A.b,.ref A.sy,.str s.st,.int c]))=H1 at q1 k1 ⊢;refine ⟨_,rfl,_,_,_,_,rfl,rfl,bC.of q1.h,rfl,_,_,rfl,rfl,_,rfl,A.h,_,_,4,rfl,rfl,q1.h,rfl, ?_⟩;have q2:=q1.gM (s.pos+1) (c+1) s.st;have k2:=k1.trans (KL.gM (A:=A) (H:=H1) (o:= .lst [.int ((s.pos+1:Nat):Int),.ref A.b,.ref A.sy,.str s.st,.int ((c+1:Nat):Int)]));rw [show ([V.int ((s.pos+1:Nat):Int),V.ref A.b,V.ref A.sy,V.str s.st,V.int c].set 4 (V.int ((c:Int)+1)))=[.int ((s.pos+1:Nat):Int),.ref A.b,.ref A.sy,.str s.st,.int ((c+1:Nat):Int)] from rfl];generalize (upd H1 A.h (.lst [.int ((s.pos+1:Nat):Int),.ref A.b,.ref A.sy,.str s.st,.int ((c+1:Nat):Int)]))=H2 at q2 k2 ⊢;obtain ⟨t,ws,rfl,ht0,ps0⟩:=ug dv
  have ps:Parts H2 ws r:=by
   obtain ⟨t',ws',et,e2',ps'⟩:=ug (dv.keep (a.q.tup k2) _ (p8 r));cases et;have:=(a.q.tup k2 _ _ ht0);rw [this] at e2';cases e2';exact ps'
  have ht:=a.q.tup k2 _ _ ht0;have st2:=k2 _ _ w.st nsh nsb (bY w.ts a.ty (by simp));have Uk:=k2 _ _ w.nb V3 D_ Kh;have g2p:=a.q.tup k2 _ _ g.ep;have gL2:=k2 _ _ g.eL nPh nPb (bY g.tL a.ty (by intro z;cases z));have R2:=RK.keep (fun o e=>k2 _ _ e nkh nkb nky) (a.q.tup k2)
  have fin:∀(D:Ends) (σr:V) (rd wr:Option Int) (H3:Hp),D.rt=Q->rA H3 A {s with pos:=s.pos+1,bs:=wK ns s.bs r} (c+1)->H3 L.nb=some (.lst ((fY ns s.bs r).map V.int))->(∀x u,H2 x=some u->x≠L.nb->x≠A.b->H3 x=some u)->(∀x xs,H2 x=some (.tup xs)->H3 x=some (.tup xs))->rd=Qh ns r->wr=Qc s.bs r ->
   Jq (Qg (Js (Ax K) [] E0 (jr (pU 3) (jr (Fo (Dy K) (Fo (JD K) (pU 1) (tC (V.int 1))) (pU 2)) xq)))) (Vd (QM (jr (Fo (JD K) (pU 4) (tC (V.int 0))) (jr (pU 7) (jr (pU 5) (jr (pU 6) xq)))))) D [some (.ref L.st),some (.ref p),some (.int k),some (.ref A.h),some (.ref t),some (oV rd),some (oV wr),some (.int (uf r))] H3:=fun D σr rd wr H3 hD q3 afz Sg t3 erd ewr=>by
   have R3:=R2.keep (fun o e=>Sg _ _ e nkn nkb) t3;refine ⟨_,rfl,_,rfl,_,_,_,_,rfl,rfl,cA.of (t3 _ _ g2p),rfl,_,rfl,_,_,_,_,rfl,rfl,bC.of (Sg _ _ gL2 nPn nPb),cg (by rw [List.getElem?_map,erw];rfl),A,_,c+1,m,rk,rfl,q3,R3,nkh,nkb,nky,sl,fun H4 q4 k4=> ?_⟩;have t4:=q3.tup k4;obtain ⟨t',ys,et,ht'⟩:=z9 (dv.keep (fun x xs e=>t4 _ _ (t3 _ _ (a.q.tup k2 _ _ e))) _ (p8 r));cases et;refine ⟨_,rfl,_,_,_,_,rfl,rfl,cA.of ht',Cr,_,rfl,_,rfl,_,rfl,(by show 4<=sizeLine;decide),fun u hu=> ?_⟩;have su:=aF (o:=HO.tup [V.str (qx r),V.int (uf r),oV rd,oV wr]) hu;have yp:∀x u,H x=some u->x≠L.nb->x≠A.h->x≠A.b->x≠A.sy->H4 x=some u:=fun x u e n1 n2 n3 n4=>k4 _ _ (Sg _ _ (k2 _ _ e n2 n3 n4) n1 n3) n2 n3 n4;have afy:=k4 _ _ afz V3 D_ Kh;obtain ⟨w5,MJ⟩:=w.gone (H':=upd H4 u (.tup [V.str (qx r),V.int (uf r),oV rd,oV wr])) (r:=r) eA es ec (fun x o e n1 n2 n3 n4=>su _ _ (yp x o e n1 n2 n3 n4)) (q4.same su) (su _ _ afy);rw [hD];refine kk u _ ?_ ⟨c,ec,w5⟩ MJ;rw [ak,erd,ewr];rfl
  cases r with
  | load bb cc=>
    obtain rfl:=ps;refine ⟨_,rfl,(by show 2<=sizeLine;decide),fun l hl=> ?_⟩;have sl':=aF (o:=HO.lst [V.int 2,V.int 1]) hl;have ht1:=sl' _ _ ht;refine ⟨_,rfl,_,_,_,_,rfl,rfl,cA.of ht1,rfl,rfl,.inr ⟨_,rfl,_,_,_,_,rfl,rfl,bC.of ak,rfl,_,_,_,_,rfl,rfl,cA.of ht1,rfl, ?_⟩⟩;refine ⟨_,rfl,_,_,_,_,rfl,rfl,cA.of ht1,rfl,rfl,_,rfl,BK rfl ?_⟩;refine ⟨_,rfl,_,_,_,_,rfl,rfl,cA.of ht1,rfl,rfl,_,rfl, ?_⟩;refine bH (fun _=> ?_) (fun z=>absurd (by decide) z);have q3:=q2.same sl';refine ⟨_,rfl,_,_,_,_,rfl,rfl,bC.of (sl' _ _ st2),rfl,_,rfl,_,_,_,_,rfl,rfl,bC.of (sl' _ _ Uk),cg (cellAt cc pF.2), ?_⟩;refine ⟨_,rfl,_,rfl,_,_,_,_,rfl,rfl,bC.of q3.h,rfl,rfl,_,rfl,_,_,_,_,rfl,rfl,cA.of ht1,rfl,_,_,bb,[],rfl,rfl,tK pF.1,A.b,_,_,bb,rfl,rfl,q3.b,q3.ixb pF.1, ?_⟩;rw [←List.map_set];refine ⟨_,rfl,rfl,_,rfl,fM ?_⟩;refine fin _ .non (some ((ns[cc]?).getD 0)) none _ rfl (q3.vD _ (by rw [List.length_set];exact q3.bl)) (by rw [aG D_];exact sl' _ _ Uk) (fun x u e n1 n2=>by rw [aG n2];exact sl' _ _ e) (fun x xs e=>by rw [aG (cj (sl' _ _ e) q3.b (by intro z;cases z))];exact sl' _ _ e) ?_ rfl;exact (cellOf cc pF.2).symm
  | store cc e=>
    obtain ⟨x,rfl,dx⟩:=ps;refine ⟨_,rfl,(by show 2<=sizeLine;decide),fun l hl=> ?_⟩;have sl':=aF (o:=HO.lst [V.int 2,V.int 1]) hl;have ht1:=sl' _ _ ht;have q3:=q2.same sl';refine ⟨_,rfl,_,_,_,_,rfl,rfl,cA.of ht1,rfl,rfl,.inr ⟨_,rfl,_,_,_,_,rfl,rfl,bC.of ak,rfl,_,_,_,_,rfl,rfl,cA.of ht1,rfl, ?_⟩⟩;refine ⟨_,rfl,_,_,_,_,rfl,rfl,cA.of ht1,rfl,rfl,_,rfl, ?_⟩;refine bH (fun _=> ?_) (fun z=>absurd (by decide) z);refine ⟨_,rfl,_,_,_,_,rfl,rfl,bC.of q3.h,rfl,_,rfl,_,rfl,_,_,_,_,rfl,rfl,cA.of ht1,rfl,A.b,x,e,s.bs,rfl,q3.b,q3.bl,dx.same sl' _,pF.2,ur e, ?_⟩;refine ⟨_,rfl,_,_,_,_,rfl,rfl,cA.of ht1,rfl,rfl,_,rfl,BK rfl ?_⟩;refine ⟨_,rfl,rfl,_,rfl,iR ?_⟩;refine ⟨_,rfl,_,rfl,_,_,_,_,rfl,rfl,bC.of (sl' _ _ st2),rfl,_,rfl,L.nb,_,_,cc,rfl,rfl,sl' _ _ Uk,KC cc pF.1, ?_⟩;rw [←List.map_set];have nhn:A.h≠L.nb:=V3.symm;refine fin _ .non none (some (vx s.bs e)) _ rfl ⟨by rw [aG V3.symm];exact q3.h,by rw [aG D_.symm];exact q3.b,by rw [aG Kh.symm];exact q3.y,q3.zF,q3.Ak,q3.tY,q3.bl⟩ ak (fun x u e n1 n2=>by rw [aG n1];exact sl' _ _ e) (fun x xs e=>by rw [aG (cj (sl' _ _ e) (sl' _ _ Uk) (by intro z;cases z))];exact sl' _ _ e) rfl rfl
  | swap bb cc e=>
    obtain ⟨x,rfl,dx⟩:=ps;refine ⟨_,rfl,(by show 2<=sizeLine;decide),fun l hl=> ?_⟩;have sl':=aF (o:=HO.lst [V.int 2,V.int 1]) hl;have ht1:=sl' _ _ ht;have q3:=q2.same sl';refine ⟨_,rfl,_,_,_,_,rfl,rfl,cA.of ht1,rfl,rfl,.inr ⟨_,rfl,_,_,_,_,rfl,rfl,bC.of ak,rfl,_,_,_,_,rfl,rfl,cA.of ht1,rfl, ?_⟩⟩;refine ⟨_,rfl,_,_,_,_,rfl,rfl,cA.of ht1,rfl,rfl,_,rfl, ?_⟩;refine bH (fun _=> ?_) (fun z=>absurd (by decide) z);refine ⟨_,rfl,_,_,_,_,rfl,rfl,bC.of q3.h,rfl,_,rfl,_,rfl,_,_,_,_,rfl,rfl,cA.of ht1,rfl,A.b,x,e,s.bs,rfl,q3.b,q3.bl,dx.same sl' _,pF.2.2,ur e, ?_⟩;refine ⟨_,rfl,_,_,_,_,rfl,rfl,cA.of ht1,rfl,rfl,_,rfl, ?_⟩;refine bH (fun _=> ?_) (fun z=>absurd (by decide) z);refine ⟨_,rfl,_,_,_,_,rfl,rfl,bC.of (sl' _ _ st2),rfl,_,rfl,_,_,_,_,rfl,rfl,bC.of (sl' _ _ Uk),cg (cellAt cc pF.2.1), ?_⟩;refine ⟨_,rfl,_,rfl,_,_,_,_,rfl,rfl,bC.of q3.h,rfl,rfl,_,rfl,_,_,_,_,rfl,rfl,cA.of ht1,rfl,_,_,bb,[],rfl,rfl,tK pF.1,A.b,_,_,bb,rfl,rfl,q3.b,q3.ixb pF.1, ?_⟩;rw [←List.map_set];have q4:=q3.vD (s.bs.set bb ((ns[cc]?).getD 0)) (by rw [List.length_set];exact q3.bl);have t4:∀x xs,H2 x=some (.tup xs)->(upd (upd H2 l (.lst [V.int 2,V.int 1])) A.b (.lst ((s.bs.set bb ((ns[cc]?).getD 0)).map V.int))) x=some (.tup xs):=fun x xs e=>by rw [aG (cj (sl' _ _ e) q3.b (by intro z;cases z))];exact sl' _ _ e
    have yp:∀x u,H2 x=some u->x≠A.b->(upd (upd H2 l (.lst [V.int 2,V.int 1])) A.b (.lst ((s.bs.set bb ((ns[cc]?).getD 0)).map V.int))) x=some u:=fun x u e n=>by rw [aG n];exact sl' _ _ e
    generalize (upd (upd H2 l (.lst [V.int 2,V.int 1])) A.b (.lst ((s.bs.set bb ((ns[cc]?).getD 0)).map V.int)))=H4 at q4 t4 yp ⊢;refine ⟨_,rfl,rfl,_,rfl,iR ?_⟩;have nb4:=yp _ _ Uk D_;refine ⟨_,rfl,_,rfl,_,_,_,_,rfl,rfl,bC.of (yp _ _ st2 nsb),rfl,_,rfl,L.nb,_,_,cc,rfl,rfl,nb4,KC cc pF.2.1, ?_⟩;rw [←List.map_set];refine fin _ .non (some ((ns[cc]?).getD 0)) (some (vx s.bs e)) _ rfl ⟨by rw [aG V3.symm];exact q4.h,by rw [aG D_.symm];exact q4.b,by rw [aG Kh.symm];exact q4.y,q4.zF,q4.Ak,q4.tY,q4.bl⟩ ak (fun x u e n1 n2=>by rw [aG n1];exact yp _ _ e n2) (fun x xs e=>by rw [aG (cj (t4 _ _ e) nb4 (by intro z;cases z))];exact t4 _ _ e) ?_ rfl;exact (cellOf cc pF.2.1).symm
  | o_ b e=>cases tr
  | say e=>cases tr
  | go n=>cases tr
  | mX q e f n=>cases tr
def aiJ (hs:List aX) (k:Nat):Bool:=match hs[k]? with
 | some s=>decide (s.st = "waits")
 | none=>false
def NumV (τ:Tg) (H:Hp) (v:V) (ns:List Int) (m:Nat):Prop:=p7 m ns/\((v = .non/\ns=List.replicate m 0) \/ ∃l,v = .ref l/\τ l=[0]/\H l=some (.lst (ns.map V.int)))
theorem NumV.mv {i:Nat} {τ τ':Tg} {H H':Hp} {v:V} {ns:List Int} {m:Nat} (h:NumV τ H v ns m) (q:Mv i τ H τ' H'):NumV τ' H' v ns m:=by
 obtain ⟨g,h⟩:=h;refine ⟨g, ?_⟩;rcases h with h|⟨l,e,t,hl⟩
 ·exact .inl h
 ·have:=q.keep _ _ hl (.inl t)
  exact .inr ⟨l,e,this.2.trans t,this.1⟩
theorem DY (m:Nat):p7 m (List.replicate m 0):=⟨by rw [List.length_replicate],fun x hx=>by rw [(List.mem_replicate.mp hx).2];exact ⟨by decide,by decide⟩⟩
theorem rep0 (m:Nat):(List.replicate m [V.int 0]).flatten=(List.replicate m (0:Int)).map V.int:=by
 rw [List.map_replicate]
 induction m with
 | zero=>rfl
 | succ n ih=>rw [List.replicate_succ,List.flatten_cons,ih,List.replicate_succ];rfl
def Dr (K:PySem.W.Frag):Sp:=fun vs H Q _=>∃(r:Addr) (τ:Tg) (m:Nat),vs=[.ref r,.int m]/\RT τ H r/\m<=20 /\ ∀(v:V) (ns:List Int) (τ':Tg) (H':Hp),NumV τ' H' v ns m->RT τ' H' r->(∀x u,H x=some u->τ' x=τ x)->Kp r H H'->Q v H'
theorem Oa {f:Addr} {fd:FuncData} (F:iY K "_law_numbers" "_law_numbers" fH f fd) (bL:FnAt P w K mg base 1 "_law_draw" ["reel","many"] (gR K)) (Bt:o8 mg):bV P w K mg base iD 2 f fd ["reel","many"] (Dr K):=by
 refine F.ok Ba (fun vs H Q E h=> ?_) (fun cdv A outer s H vs Q E hr h=> ?_)
 ·obtain ⟨r,τ,m,rfl,_⟩:=h
  rfl
 ·obtain ⟨r,τ,m,rfl,T,Oo,k⟩:=h
  refine ⟨_,(aC (bU (aR cT (bD bL (hr.mono (by decide)) (by rfl) (aj (pv 0) (aj aq au))) aq (aV _)) (aH (bA gG)) bB)
   (aH (bA (gK rfl (N:=["k","reel"]) (own:=["k"]) (caps:=[0]) (bK.of (by kernel_rfl)) (iK (by rfl) Bt.mO (aj (pv 1) au)) (fun _ _ _ _=>(bG (i:=0) (show List.Nodup (["k","reel"]:List Str) by decide +kernel) rfl (Or.inl rfl))) (fun _ _ _ _=>eU) (fun _ _ _ _=>(bD bL (hr.mono (by decide)) (by rfl) (aj (pv 1) (aj (aO (aL (K:=K) rfl) (bZ (aj aq (aj aq au))) (bD bL (hr.mono (by decide)) (by rfl) (aj (pv 1) (aj aq au))) (fun _ _=>rfl)) au)))))))), ?_⟩
  refine ⟨_,rfl,r,2,rfl,T.R,by decide,by decide,fun z H1 z0 z1 R1 k1=>⟨rfl,_,rfl, ?_⟩⟩;have T1:=T.draw k1 R1;refine bH (fun _=> ?_) (fun _=> ?_)
  ·exact k .non _ τ H1 ⟨DY m,.inl ⟨rfl,rfl⟩⟩ T1 (fun x u e=>rfl) k1.1
  refine ⟨_,rfl,_,rfl,by omega,by omega,fun D hD=> ?_⟩;rw [Int.toNat_natCast];have sD:=aF (o:=HO.lst []) hD;have RZ:D≠r:=R1.ne hD;have Oz:H D=none:=oY k1.1 RZ hD;have TD:=T1.claim (t:=[0]) sD hD ⟨_,ak⟩;have CP:aQ τ D [0] D=[0]:=bw;have Vb:∀x u,H x=some u->aQ τ D [0] x=τ x:=fun x u e=>aP (aB e Oz);generalize aQ τ D [0]=τd at TD CP Vb;refine mL (lo:=0) (n:=m) (fun i σ Hd=>∃(v:Option V) (ns:List Int),σ=[v,some (.ref r)]/\RT τd Hd r/\Hd D=some (.lst (ns.map V.int))/\(∀x∈ns,0<=x/\x<1000)/\ns.length=i/\Kp r H Hd) ?_ ?_ ?_
  ·exact ⟨none,[],rfl,TD,ak,by simp,rfl,k1.1.trans (Kp.of_same sD)⟩
  ·rintro i σ Hd hi ⟨v,ns,rfl,Td,Gi,od,ld,Hy⟩
   dsimp only [dO,rM];rw [if_pos rfl];refine ⟨_,rfl,(by show 2<=sizeLine;decide),fun l hl=> ?_⟩;have sl:=aF (o:=HO.lst [V.int 4,V.int 1000]) hl;have nlr:l≠r:=Td.R.ne hl;refine ⟨_,rfl,r,2,rfl,(Td.same sl).R,by decide,by decide,fun q H2 q0 q1 R2 k2=> ?_⟩;have T2:=(Td.same sl).draw k2 R2
   obtain ⟨bb,eb,b0,b1⟩:∃bb:Int,wU [V.int 4,V.int 1000] q=some (.int bb)/\0<bb/\bb<=1000:=by
    have:q=0\/q=1:=by omega
    rcases this with rfl|rfl
    ·exact ⟨4,rfl,by decide,by decide⟩
    ·exact ⟨1000,rfl,by decide,by decide⟩
   refine ⟨_,_,_,_,rfl,rfl,bC.of (k2.1 _ _ ak nlr),eb,r,bb,rfl,R2,b0,by omega,fun y H3 y0 y1 R3 k3=> ?_⟩;have T3:=T2.draw k3 R3;have Wx:=T2.keep k3 ((Td.same sl).keep k2 (sl _ _ Gi) (by rw [CP];simp)) (by rw [CP];simp);refine ⟨_,Wx,(by rw [List.length_map,sizeLine_eq];omega),_,ns++[y],rfl,T3.set Wx (by rw [CP];simp),by rw [ak,List.map_append];rfl, ?_,by simp [ld],fun x o e n'=>by rw [aG (aB e Oz)];exact k3.1 _ _ (k2.1 _ _ (sl _ _ (Hy _ _ e n')) n') n'⟩;intro x hx;rcases List.mem_append.mp hx with hx|hx
   ·exact od x hx
   ·rw [List.mem_singleton.mp hx];exact ⟨y0,by omega⟩
  ·rintro σ Hd ⟨v,ns,rfl,Td,Gi,od,ld,Hy⟩
   exact k _ ns τd Hd ⟨⟨by rw [ld],od⟩,.inr ⟨D,rfl,CP,Gi⟩⟩ Td Vb Hy
def oO (CW CH:Addr) (K:PySem.W.Frag):Sp:=fun vs H Q _=>∃(i:Nat) (τ:Tg) (p L:Addr) (rs:List Addr) (rws:List (List Rw)) (m:Nat) (v:V) (ns:List Int),vs=[.ref p,v]/\Pg τ H p L rs rws m/\rws.length<=100/\m<=100/\NumV τ H v ns m/\oF τ H/\i≠0 /\ ∀(W:xT) (τ':Tg) (H':Hp),j6 CW CH i τ' H' W (qj m ns rws)->(∀x u,H x=some u->τ' x=τ x)->Same H H'->Q (.ref W.o) H'
theorem Pg.copied {τ:Tg} {H:Hp} {p L D:Addr} {rs:List Addr} {rws:List (List Rw)} {m:Nat} {te:TE} {Q:VK} {rest:St} (g:Pg τ H p L rs rws m) (hD:H D=none) (rl:rws.length<=100) (Wh:∀(r:Addr) (ts:List V) (H1:Hp) (F:VK),H1 r=some (.lst ts)->(∀q,H1 q=none->F (.ref q) (upd H1 q (.lst ts)))->te (some (.ref r)::rest) H1 F)
 (k:∀(qs:List Addr) (H':Hp),Same H H'->H' D=some (.lst (qs.map V.ref))->qs.length=rws.length->(∀(kk:Nat) (q:Addr) (x:List Rw),qs[kk]? = some q->rws[kk]? = some x->cJ H' q m x)->Q (.ref D) H'):oK (Mq K L) (dO 0) rM te Q D (none::rest) H:=by
 refine iT (K:=K) (xs:=rs.map V.ref) (fun j σ Hc=>∃(v:Option V) (qs:List Addr),σ=v::rest/\qs.length=j/\Same H Hc/\Hc D=some (.lst (qs.map V.ref)) /\ ∀(kk:Nat) (q:Addr) (x:List Rw),qs[kk]? = some q->rws[kk]? = some x->q≠D/\cJ Hc q m x) ?_ ?_ ?_ ?_
 ·exact ⟨none,[],rfl,rfl,aF hD,ak,fun kk q x e=>by simp at e⟩
 ·rintro j σ Hc _ ⟨v,qs,rfl,_,sc,_⟩
  exact bC.of (sc _ _ g.eL)
 ·rintro j x σ Hc hj ⟨v,qs,rfl,lj,sc,Al,hc⟩
  rw [List.getElem?_map] at hj
  obtain ⟨r0,K8,rfl⟩:∃r0,rs[j]? = some r0/\x = .ref r0:=by
   cases e:rs[j]? with
   | none=>rw [e] at hj;cases hj
   | some r0=>rw [e] at hj;exact ⟨r0,rfl,(Option.some.inj hj).symm⟩
  have jl:j<rws.length:=by rw [←g.len];exact (List.getElem?_eq_some_iff.mp K8).1
  have ex:rws[j]? = some rws[j]:=by simp [jl]
  obtain ⟨ts,hts,xK,rq,rl'⟩:=(g.row j r0 _ K8 ex).2;dsimp only [dO,rM];rw [if_pos rfl];refine Wh r0 ts Hc _ (sc _ _ hts) (fun q hq=> ?_);have sr:=aF (o:=HO.lst ts) hq;have Mh:q≠D:=(aB Al hq).symm;refine ⟨qs.map V.ref,sr _ _ Al,(by rw [List.length_map,sizeLine_eq];omega),_,qs++[q],rfl,by simp [lj],(sc.trans sr).newly hD,by rw [ak];simp,fun kk q' x' h1 h2=> ?_⟩
  have tups:∀y ys,Hc y=some (.tup ys)->(upd (upd Hc q (.lst ts)) D (.lst (qs.map V.ref++[V.ref q]))) y=some (.tup ys):=fun y ys e=>by
   rw [aG (cj e Al (by intro z;cases z))];exact sr _ _ e
  rcases iw h1 with h1|⟨e1,rfl⟩
  ·obtain ⟨n1,R1⟩:=hc kk q' x' h1 h2
   exact ⟨n1,R1.keep (fun u e=>by rw [aG n1];exact sr _ _ e) tups⟩
  ·rw [e1,lj,ex] at h2
   cases h2;exact ⟨Mh,ts,by rw [aG Mh,ak],xK.keep (fun y ys e=>tups _ _ (sc _ _ e)) _ (nZ _),rq,rl'⟩
 ·rintro σ Hc ⟨v,qs,rfl,lj,sc,Al,hc⟩
  rw [List.length_map,g.len] at lj;exact k qs Hc sc Al lj fun kk q x h1 h2=>(hc kk q x h1 h2).2
theorem JR {ao aA aZ:Addr} {f:Addr} {fd:FuncData} (F:iY K "_law_works" "_law_works" gY f fd) (LQ:oH P w K mg base 7 ao "Works" ["self","program","cells"] [.non] (fun vs H Q _=>ju ao aA aZ K vs H Q fun _ _ _=>False)) (LK:Af P w K mg base 7 ao "Works" ["self","program","cells"] "cells" (ju ao aA aZ K)) (Bt:o8 mg):bV P w K mg base iD 9 f fd ["program","numbers"] (oO ao aA K):=by
 refine F.ok GX (fun vs H Q E h=> ?_) (fun cdv A outer s H vs Q E hr h=> ?_)
 ·obtain ⟨i,τ,p,L,rs,rws,m,v,ns,rfl,_⟩:=h
  rfl
 ·obtain ⟨i,τ,p,L,rs,rws,m,v,ns,rfl,g,rl,ml,⟨good,hv⟩,un,i0,k⟩:=h
  refine ⟨_,(aC (bU (aR zA (pv 1) gG (aV _)) (aH (bA (nG LQ (hr.mono (by decide)) (by rfl) (aj (bR (aj (aO (aU (K:=K) rfl) (pv 0) aq (fun _ _=>rfl)) (aj (gK rfl (N:=["rows"]) (own:=["rows"]) (caps:=[]) (bK.of (by kernel_rfl)) (dB (K:=K) rfl (aO (aU (K:=K) rfl) (pv 0) aq (fun _ _=>rfl))) (fun _ _ _ _=>(bG (i:=0) (show List.Nodup (["rows"]:List Str) by decide +kernel) rfl (Or.inl rfl))) (fun _ _ _ _=>eU) (fun _ _ _ _=>(b_ (bQ (K:=K) rfl) (by rfl) Bt.fZ eO (aj (pv 0) au)))) au))) au)))) bB)
   (aH (bA (JK LK rfl rzF (hr.mono (by decide)) (by rfl) (aj (bR (aj (aO (aU (K:=K) rfl) (pv 0) aq (fun _ _=>rfl)) (aj (gK rfl (N:=["rows"]) (own:=["rows"]) (caps:=[]) (bK.of (by kernel_rfl)) (dB (K:=K) rfl (aO (aU (K:=K) rfl) (pv 0) aq (fun _ _=>rfl))) (fun _ _ _ _=>(bG (i:=0) (show List.Nodup (["rows"]:List Str) by decide +kernel) rfl (Or.inl rfl))) (fun _ _ _ _=>eU) (fun _ _ _ _=>(b_ (bQ (K:=K) rfl) (by rfl) Bt.fZ eO (aj (pv 0) au)))) au))) au) (b_ (bQ (K:=K) rfl) (by rfl) Bt.fZ eO (aj (pv 1) au)))))), ?_⟩
  have nl:ns.length=m:=by have:=good.1;omega
  have mk:∀(H1:Hp) (D q o dx:Addr) (qs:List Addr) (cv:V),Same H H1->H1 D=some (.lst (qs.map V.ref))->qs.length=rws.length->(∀(kk:Nat) (q:Addr) (x:List Rw),qs[kk]? = some q->rws[kk]? = some x->cJ H1 q m x)->H1 q=some (.tup [.int m,.ref D])->H1 o=none->H1 dx=none->dx≠o->((cv = .non/\ns=List.replicate m 0) \/ ∃cl,cv = .ref cl/\H1 cl=some (.lst (ns.map V.int))) ->
   ju ao aA aZ K [.ref o,.ref q,cv] (upd (upd H1 dx (.own o)) o (.ins ao dx [])) (fun v H'=>v = .non/\Q (.ref o) H') (fun _ _ _=>False):=fun H1 D q o dx qs cv s1 hD lq hq hq1 ho hdx ndx hcv=>by
   have ho':(upd H1 dx (.own o)) o=none:=by rw [aG ndx.symm];exact ho
   have sm:Same H1 (upd (upd H1 dx (.own o)) o (.ins ao dx [])):=(aF hdx).trans (aF ho');refine ⟨i,τ,o,dx,q,D,qs,m,cv,ns,rws,rfl,ak,sm _ _ hq1,sm _ _ hD,lq,fun kk q' x h1 h2=>(hq kk q' x h1 h2).same sm,rl,ml,(un.same s1).same sm,i0,by omega, ?_,fun _ τ' W H' eo w tg kp=>⟨rfl, ?_⟩,fun bad=>absurd good bad⟩
   ·rcases hcv with h|⟨cl,e,h⟩
    ·exact .inl h
    ·exact .inr ⟨cl,e,sm _ _ h⟩
   ·rw [←eo]
    have s1':Same H1 H':=fun x u e=>kp _ _ (sm _ _ e) (aB e ho);exact k W τ' H' w (fun x u e=>tg x u (sm _ _ (s1 _ _ e)) (aB (s1 _ _ e) ho)) (s1.trans s1')
  refine ⟨_,rfl,rfl,_,rfl, ?_⟩;rcases hv with ⟨rfl,rfl⟩|⟨l,rfl,tl,hl⟩
  ·refine iR ?_
   refine ⟨_,rfl,_,_,_,_,rfl,rfl,cA.of g.ep,rfl,_,rfl,_,_,_,_,rfl,rfl,cA.of g.ep,rfl,L,rfl,⟨_,bC.of g.eL⟩,fun D hD=> ?_⟩;refine g.copied hD rl (fun r ts H1 F hr kF=>⟨_,rfl,r,_,rfl,.inl (bC.of hr),fun q hq=>kF q hq⟩) (fun qs H1 s1 hD1 lq hq=> ?_);refine ⟨(by show 2<=sizeLine;decide),fun q hq'=> ?_⟩;have sq:=aF (o:=HO.tup [V.int m,V.ref D]) hq';refine fun o dx ho hdx ndx=> ?_;exact mk _ D q o dx qs .non (s1.trans sq) (sq _ _ hD1) lq (fun kk q' x h1 h2=>(hq kk q' x h1 h2).same sq) ak ho hdx ndx (.inl ⟨rfl,rfl⟩)
  ·refine fM ?_
   refine ⟨_,rfl,_,_,_,_,rfl,rfl,cA.of g.ep,rfl,_,rfl,_,_,_,_,rfl,rfl,cA.of g.ep,rfl,L,rfl,⟨_,bC.of g.eL⟩,fun D hD=> ?_⟩;refine g.copied hD rl (fun r ts H1 F hr kF=>⟨_,rfl,r,_,rfl,.inl (bC.of hr),fun q hq=>kF q hq⟩) (fun qs H1 s1 hD1 lq hq=> ?_);refine ⟨(by show 2<=sizeLine;decide),fun q hq'=> ?_⟩;have sq:=aF (o:=HO.tup [V.int m,V.ref D]) hq';refine ⟨_,rfl,l,_,rfl,.inl (bC.of (sq _ _ (s1 _ _ hl))),fun cl hcl=> ?_⟩;have YK:=aF (o:=HO.lst (ns.map V.int)) hcl;refine ⟨_,rfl,fun o dx ho hdx ndx=> ?_⟩;exact mk _ D q o dx qs (.ref cl) ((s1.trans sq).trans YK) (YK _ _ (sq _ _ hD1)) lq (fun kk q' x h1 h2=>((hq kk q' x h1 h2).same sq).same YK) (YK _ _ ak) ho hdx ndx (.inr ⟨cl,rfl,ak⟩)
def yV (K:PySem.W.Frag):Sp:=fun vs H Q _=>∃(j:Nat) (τ:Tg) (p PL:Addr) (rs:List Addr) (rws:List (List Rw)) (m:Nat) (v:V) (ns:List Int),vs=[.ref p,v]/\Pg τ H p PL rs rws m/\rws.length<=100/\m<=100/\NumV τ H v ns m/\oF τ H /\
 ∀(L:Qx) (τ':Tg) (H':Hp),yH j τ' H' L ns (rws.map fun r=>lead (new r)) (List.replicate rws.length 0)->oF τ' H'->(∀x u,H x=some u->τ' x=τ x)->Same H H'->Q (.ref L.st) H'
theorem J1 {f:Addr} {fd:FuncData} (F:iY K "_law_first" "_law_first" h_ f fd) (Cz:FnAt P w K mg base 6 "_law_begun" ["program","numbers"] (yW K)):bV P w K mg base iD 7 f fd ["program","numbers"] (yV K):=by
 refine F.ok GZ (fun vs H Q E h=> ?_) (fun cdv A outer s H vs Q E hr h=> ?_)
 ·obtain ⟨j,τ,p,PL,rs,rws,m,v,ns,rfl,_⟩:=h
  rfl
 ·obtain ⟨j,τ,p,PL,rs,rws,m,v,ns,rfl,g,rl,ml,⟨good,hv⟩,un,k⟩:=h
  refine ⟨_,(aC (bU (aR zA (pv 1) gG (aV _)) (aH (bA (bD Cz (hr.mono (by decide)) (by rfl) (aj (pv 0) (aj (bJ vQ (bZ (aj aq au)) (aO (aU (K:=K) rfl) (pv 0) aq (fun _ _=>rfl))) au))))) bB)
   (aH (bA (bD Cz (hr.mono (by decide)) (by rfl) (aj (pv 0) (aj (pv 1) au)))))), ?_⟩
  refine ⟨_,rfl,rfl,_,rfl, ?_⟩;rcases hv with ⟨rfl,rfl⟩|⟨l,rfl,tl,hl⟩
  ·refine iR ?_
   refine ⟨_,rfl,(by show 1<=sizeLine;decide),fun z hz=> ?_⟩;have sz:=aF (o:=HO.lst [V.int 0]) hz;refine ⟨_,rfl,_,_,_,_,rfl,rfl,cA.of (sz _ _ g.ep),rfl,z,_,_,rfl,rfl,ak,by omega,by omega,by rw [Int.toNat_natCast,sizeLine_eq];simp only [List.length_singleton];omega,fun b hb=> ?_⟩;have sb:=aF (o:=HO.lst (List.replicate ((m:Nat):Int).toNat [V.int 0]).flatten) hb;have eb:(upd (upd H z (.lst [V.int 0])) b (.lst (List.replicate ((m:Nat):Int).toNat [V.int 0]).flatten)) b=some (.lst ((List.replicate m (0:Int)).map V.int)):=by rw [ak,Int.toNat_natCast,rep0]
   have s2:=sz.trans sb;exact ⟨j,τ,p,PL,b,rs,rws,m,_,rfl,g.same s2,rl,eb,un.same s2,fun L τ' H' w u' tg s'=>k L τ' H' w u' (fun x u e=>tg x u (s2 _ _ e)) (s2.trans s')⟩
  ·refine fM ?_
   exact ⟨_,rfl,_,rfl,j,τ,p,PL,l,rs,rws,m,ns,rfl,g,rl,hl,un,k⟩
def vA (CW CH:Addr) (K:PySem.W.Frag):Sp:=fun vs H Q E=>Vo CW CH K vs H Q E \/ ∃(o:Addr) (y:V) (tb:Value),vs=[.ref o,y]/\jk K H y tb/\PySem.W.kitOne K tb (.ref CW)=some false/\Q (.bl false) H
theorem Nz {ao aA:Addr} {f:Addr} {fd:FuncData} (F:iY K "__eq__" "Works.__eq__" cO f fd) (aN:dD K ao) (uP:IsO K mg ao "Works") (mV:MethAt P w K mg base 2 ao "picture" ["self"] (Jw ao aA K)) (Bt:o8 mg):bV P w K mg base iD 3 f fd ["self","other"] (vA ao aA K):=by
 refine F.ok uo (fun vs H Q E h=> ?_) (fun cdv A outer s H vs Q E hr h=> ?_)
 ·rcases h with ⟨i,i',τ,τ',W,W',S,S',rfl,_⟩|⟨o,y,tb,rfl,_⟩<;>rfl
 ·have wj:=hr.units
  refine ⟨_,(aH (bA (sJ (bN (o7 (K:=K) (cv:= .ref ao) (c:= .ref ao) rfl rfl) (by rfl) Bt.jD i_ (aj (pv 1) (aj (jY (v:= .ref ao) (by rfl) uP.bd rfl) au))) (sG (dY (zB (K:=K) rfl wj) (cU mV aN.cls (hr.mono (by decide)) (pv 0)) (cU mV aN.cls (hr.mono (by decide)) (pv 1)) (aV _)))))), ?_⟩;rcases h with ⟨i,i',τ,τ',W,W',S,S',rfl,w,w',g,g',k⟩|⟨o,y,tb,rfl,ty,ko,q⟩
  rotate_left
  ·exact ⟨_,rfl,_,_,false,rfl,ty,ko,false,rfl,fM q⟩
  refine ⟨_,rfl,_,_,true,rfl,uP.ty w'.o aN.cls,Ky K _,true,rfl, ?_⟩;refine iR ?_;refine ⟨_,rfl,W.o,W.dx,_,rfl,w.o,rfl,i,τ,W,S,rfl,w,fun t H1 d1 s1=> ?_⟩;have w1:=w'.same s1;refine ⟨_,rfl,W'.o,W'.dx,_,rfl,w1.o,rfl,i',τ',W',S',rfl,w1,fun t' H2 d2 s2=> ?_⟩;refine ⟨_,_,d1.same s2 _,d2,tG g w.pF,tG g' w'.pF, ?_⟩;rw [if_neg Bool.false_ne_true];exact k H2 (s1.trans s2)
theorem OJ {l1 l2:Addr} {xs ys:List V} {n:Nat} {g:TG} {tb:TS} {D:Ends} {σ:St} {H:Hp} (hn:n=min xs.length ys.length) (Pv:Nat->St->Hp->Prop) (h0:Pv 0 σ H) (hl:∀i σ H,i<=n->Pv i σ H->bC K H l1 xs/\bC K H l2 ys)
 (hs:∀i x y σ H p,xs[i]? = some x->ys[i]? = some y->Pv i σ H->H p=none->g (.ref p) σ (upd H p (.tup [x,y])) fun σ2 H2=>tb {D with nx:=Pv (i+1),ct:=Pv (i+1),bk:=D.nx} σ2 H2) (hd:∀σ H,Pv n σ H->D.nx σ H):
 ∃W:Nat->Nat->St->Hp->Prop,(∃m,W 0 m σ H) /\ ∀i m σ H,W i m σ H ->
  ((Yq K l1 l2).stop i H/\D.nx σ H)\/((Yq K l1 l2).go i H /\ ∃N:St->Hp->Prop,(∀σ' H',N σ' H' -> ∃m',m'<m/\W (i+1) m' σ' H') /\ ∀x H',(Yq K l1 l2).Ub i H x H'->g x σ H' fun σ2 H2=>tb {D with nx:=N,ct:=N,bk:=D.nx} σ2 H2):=by
 refine ⟨fun i m σ H=>m=n - i/\i<=n/\Pv i σ H,⟨n,by simp,Nat.zero_le _,h0⟩, ?_⟩;rintro i m σ H ⟨rfl,hi,p⟩;obtain ⟨q1,q2⟩:=hl i σ H hi p
 by_cases hlt:i<n
 ·refine .inr ⟨⟨xs,ys,xs[i]'(by omega),ys[i]'(by omega),q1,q2,by simp [show i<xs.length by omega],by simp [show i<ys.length by omega]⟩,Pv (i+1),fun σ' H' p'=>⟨n - (i+1),by omega,rfl,hlt,p'⟩,fun x H' y=> ?_⟩
  obtain ⟨t,z,u,rfl,ht,hz,hu,rfl⟩:=y;exact hs i z u σ _ t (hz xs q1) (hu ys q2) p ht
 ·have e:i=n:=by omega
  subst e;exact .inl ⟨⟨xs,ys,q1,q2,by omega⟩,hd σ H p⟩
def zM (s:aX) (c:Nat):PyData:= .list [.list (s.bs.map PyData.int),.list (s.sy.map PyData.int),.str s.st,.int c]
theorem vC (s:aX) (c:Nat) (so:PyData.strOk s.st=true):SeqAt.shaped (zM s c)=true:=by
 have e1:=shaped_ints s.bs;have e2:=shaped_ints s.sy;have d1:PyData.depthAll (s.bs.map PyData.int)<=0:=eH _ 0 s.bs (fun _ _=>by show 0<=0;decide);have d2:PyData.depthAll (s.sy.map PyData.int)<=0:=eH _ 0 s.sy (fun _ _=>by show 0<=0;decide);simp only [SeqAt.shaped,PyData.depth,PyData.depthAll,PyData.canLay0,PyData.canLayAll0,zM,Bool.and_eq_true,decide_eq_true_eq,Bool.and_true,and_true] at e1 e2 ⊢;refine ⟨?_, ?_⟩<;>first |(clear e2 e1;omega)|exact ⟨e1.1,e2.1,so⟩|skip
def hE (s s':aX) (c c':Nat):Prop:=(s.bs=s'.bs/\s.sy=s'.sy/\s.st=s'.st/\c=c')/\(s.st = "waits" -> s.pos=s'.pos)
theorem Gp (s s':aX) (c c':Nat):PyData.eqv (zM s c) (zM s' c')=true↔s.bs=s'.bs/\s.sy=s'.sy/\s.st=s'.st/\c=c':=by
 have e1:=lE PyData.int j5 s.bs s'.bs;have e2:=lE PyData.int j5 s.sy s'.sy;simp only [PyData.eqv] at e1 e2;simp only [zM,PyData.eqv,PyData.eqvAll,Bool.and_true,e1,e2,Bool.and_eq_true,decide_eq_true_eq,beq_iff_eq];constructor
 ·rintro ⟨a,b,c,d⟩
  exact ⟨a,b,c,by omega⟩
 ·rintro ⟨a,b,c,d⟩
  exact ⟨a,b,c,by omega⟩
def GF (ns ns':List Int) (hs hs':List aX) (cs cs':List Nat):Prop:=ns=ns' /\ ∀(i:Nat) s s' c c',hs[i]? = some s->hs'[i]? = some s'->cs[i]? = some c->cs'[i]? = some c'->hE s s' c c'
def yP (K:PySem.W.Frag):Sp:=fun vs H Q _=>∃(j j':Nat) (τ τ':Tg) (L L':Qx) (ns ns':List Int) (hs hs':List aX) (cs cs':List Nat),vs=[.ref L.st,.ref L'.st]/\yH j τ H L ns hs cs/\yH j' τ' H L' ns' hs' cs'/\(∀s∈hs,PyData.strOk s.st=true)/\(∀s∈hs',PyData.strOk s.st=true) /\ ∀(b:Bool) H',(b=true↔GF ns ns' hs hs' cs cs')->Same H H'->Q (.bl b) H'
theorem Ho {f:Addr} {fd:FuncData} (F:iY K "_law_same" "_law_same" jw f fd) (Bt:o8 mg):bV P w K mg base iD 1 f fd ["one","other"] (yP K):=by
 refine F.ok vJ (fun vs H Q E h=> ?_) (fun cdv A outer s H vs Q E hr h=> ?_)
 ·obtain ⟨j,j',τ,τ',L,L',ns,ns',hs,hs',cs,cs',rfl,_⟩:=h
  rfl
 ·obtain ⟨j,j',τ,τ',L,L',ns,ns',hs,hs',cs,cs',rfl,l,l',so,so',k⟩:=h
  have wj:=hr.units
  refine ⟨_,(aC (bU (aR (zy (K:=K) rfl wj) (aO (aL (K:=K) rfl) (pv 0) aq (fun _ _=>rfl)) (aO (aL (K:=K) rfl) (pv 1) aq (fun _ _=>rfl)) (aV _)) (aH (bA nH)) bB)
   (aC (nF PassesOwn.never rfl (Nm (K:=K) rfl (by rfl) Bt.Ye (aj (aO (aL (K:=K) rfl) (pv 0) aq (fun _ _=>rfl)) (aj (aO (aL (K:=K) rfl) (pv 1) aq (fun _ _=>rfl)) au))) (jB (K:=K) (n:=2) rfl rfl (cL (bG (i:=2) vJ.nd rfl (Or.inl rfl)) (cL (bG (i:=3) vJ.nd rfl (Or.inl rfl)) jA)))
   (aH (bU (PW.pt (vL (aR (zy (K:=K) rfl wj) (jh (je (K:=K) rfl) (pv 2) (jW aq) jX) (jh (je (K:=K) rfl) (pv 3) (jW aq) jX) (aV _)) (sE (PW.pt (jJ (aR cT (aO (aL (K:=K) rfl) (pv 2) aq (fun _ _=>rfl)) aW (aV _)) (iZ (aR qN (aO (aL (K:=K) rfl) (pv 2) aq (fun _ _=>rfl)) (aO (aL (K:=K) rfl) (pv 3) aq (fun _ _=>rfl)) (aV _)))))))) (aH (bA nH)) bB)))
   (aH (bA nH)))), ?_⟩
  refine ⟨_,rfl,_,_,_,_,rfl,rfl,bC.of l.st,rfl,_,rfl,_,_,_,_,rfl,rfl,bC.of l'.st,rfl,_,_,eN l.nb,eN l'.nb,shaped_ints _,shaped_ints _,_,rfl, ?_⟩;rw [if_pos rfl,lE PyData.int j5]
  by_cases en:ns=ns'
  rotate_left
  ·rw [decide_eq_false en]
   refine iR ?_;exact k false H ⟨fun z=>(by cases z),fun z=>absurd z.1 en⟩ (Same.refl _)
  rw [decide_eq_true en];refine fM ?_;have al:(L.hd.map fun a=>V.ref a.h).length=L.hd.length:=List.length_map _;have bl:(L'.hd.map fun a=>V.ref a.h).length=L'.hd.length:=List.length_map _;refine ⟨_,rfl,_,_,_,_,rfl,rfl,bC.of l.st,rfl,_,rfl,_,_,_,_,rfl,rfl,bC.of l'.st,rfl,L.hl,L'.hl,_,_,rfl,bC.of l.hl,bC.of l'.hl, ?_⟩;refine OJ (K:=K) (l1:=L.hl) (l2:=L'.hl) rfl (fun i σ Hc=>∃(x2 x3:Option V),σ=[some (.ref L.st),some (.ref L'.st),x2,x3]/\Same H Hc /\ ∀(i':Nat) s s' c c',i'<i->hs[i']? = some s->hs'[i']? = some s'->cs[i']? = some c->cs'[i']? = some c'->hE s s' c c') ⟨none,none,rfl,Same.refl _,fun i' s s' c c' z=>absurd z (Nat.not_lt_zero _)⟩ (fun i σ Hc _ ⟨_,_,_,sm,_⟩=>⟨bC.of (sm _ _ l.hl),bC.of (sm _ _ l'.hl)⟩) ?_ ?_
  ·rintro i v1 v2 σ Hc pq h1 h2 ⟨x2,x3,rfl,sm,inv⟩ hpq
   have sq:=aF (o:=HO.tup [v1,v2]) hpq;have Sq:=sm.trans sq;rw [List.getElem?_map] at h1 h2
   obtain ⟨A,eA,rfl⟩:∃A,L.hd[i]? = some A/\V.ref A.h=v1:=by
    cases e:L.hd[i]? with
    | none=>rw [e] at h1;cases h1
    | some A=>rw [e] at h1;exact ⟨A,rfl,Option.some.inj h1⟩
   obtain ⟨B,eB,rfl⟩:∃B,L'.hd[i]? = some B/\V.ref B.h=v2:=by
    cases e:L'.hd[i]? with
    | none=>rw [e] at h2;cases h2
    | some A=>rw [e] at h2;exact ⟨A,rfl,Option.some.inj h2⟩
   have i1:=(List.getElem?_eq_some_iff.mp eA).1;have i2:=(List.getElem?_eq_some_iff.mp eB).1;have l1:=l.len;have l2:=l.lc;have l3:=l'.len;have l4:=l'.lc;obtain ⟨s1,e1⟩:∃s1,hs[i]? = some s1:=⟨_,List.getElem?_eq_getElem (by omega)⟩;obtain ⟨s2,e2⟩:∃s2,hs'[i]? = some s2:=⟨_,List.getElem?_eq_getElem (by omega)⟩;obtain ⟨c1,f1⟩:∃c1,cs[i]? = some c1:=⟨_,List.getElem?_eq_getElem (by omega)⟩;obtain ⟨c2,f2⟩:∃c2,cs'[i]? = some c2:=⟨_,List.getElem?_eq_getElem (by omega)⟩;have q1:=(l.hd i A s1 c1 eA e1 f1).q.same Sq;have q2:=(l'.hd i B s2 c2 eB e2 f2).q.same Sq
   have here:∀b:Bool,(¬hE s1 s2 c1 c2)->(b=true↔GF ns ns' hs hs' cs cs')->b=false:=fun b nh hb=>by
    cases b with
    | false=>rfl
    | true=>exact absurd ((hb.mp rfl).2 i s1 s2 c1 c2 e1 e2 f1 f2) nh
   have no:∀H',Same H H' -> ¬hE s1 s2 c1 c2->Q (.bl false) H':=fun H' s' nh=>k false H' ⟨fun z=>(by cases z),fun z=>absurd (z.2 i s1 s2 c1 c2 e1 e2 f1 f2) nh⟩ s'
   have yes:∀(H':Hp),Same H H'->hE s1 s2 c1 c2 -> ∀(i':Nat) s s' c c',i'<i+1->hs[i']? = some s->hs'[i']? = some s'->cs[i']? = some c->cs'[i']? = some c'->hE s s' c c':=fun H' _ hh i' s s' c c' li a1 a2 a3 a4=>by
    by_cases q:i'=i
    ·subst q
     rw [e1] at a1;rw [e2] at a2;rw [f1] at a3;rw [f2] at a4;cases a1;cases a2;cases a3;cases a4;exact hh
    ·exact inv i' s s' c c' (by omega) a1 a2 a3 a4
   clear here;refine ⟨pq,_,rfl,cA.of ak,rfl,_,_,rfl,_,_,rfl,rfl, ?_⟩;generalize (upd Hc pq (HO.tup [V.ref A.h,V.ref B.h]))=Hq at sq Sq q1 q2 ⊢;refine ⟨_,rfl,_,rfl,A.h,_,rfl,bC.of q1.h,fun p1 hp1=> ?_⟩;rw [show qU [V.int s1.pos,V.ref A.b,V.ref A.sy,V.str s1.st,V.int c1] (some (1:Int)) none=[V.ref A.b,V.ref A.sy,V.str s1.st,V.int c1] from qT _ 1];have u1:=aF (o:=HO.lst [V.ref A.b,V.ref A.sy,V.str s1.st,V.int c1]) hp1;refine ⟨_,rfl,_,rfl,B.h,_,rfl,bC.of (u1 _ _ q2.h),fun p2 hp2=> ?_⟩;rw [show qU [V.int s2.pos,V.ref B.b,V.ref B.sy,V.str s2.st,V.int c2] (some (1:Int)) none=[V.ref B.b,V.ref B.sy,V.str s2.st,V.int c2] from qT _ 1];have u2:=aF (o:=HO.lst [V.ref B.b,V.ref B.sy,V.str s2.st,V.int c2]) hp2;have r1:=q1.same (u1.trans u2);have r2:=q2.same (u1.trans u2)
   have d1:Dat (upd (upd Hq p1 (.lst [V.ref A.b,V.ref A.sy,V.str s1.st,V.int c1])) p2 (.lst [V.ref B.b,V.ref B.sy,V.str s2.st,V.int c2])) (.ref p1) (zM s1 c1):=by
    refine lF (u2 _ _ ak) ?_;simp only [bf,Dat,and_true,true_and];exact ⟨eN r1.b,eN r1.y⟩
   have d2:Dat (upd (upd Hq p1 (.lst [V.ref A.b,V.ref A.sy,V.str s1.st,V.int c1])) p2 (.lst [V.ref B.b,V.ref B.sy,V.str s2.st,V.int c2])) (.ref p2) (zM s2 c2):=by
    refine lF ak ?_;simp only [bf,Dat,and_true,true_and];exact ⟨eN r2.b,eN r2.y⟩
   have S2:=Sq.trans (u1.trans u2);generalize (upd (upd Hq p1 (.lst [V.ref A.b,V.ref A.sy,V.str s1.st,V.int c1])) p2 (.lst [V.ref B.b,V.ref B.sy,V.str s2.st,V.int c2]))=H2 at d1 d2 S2 r1 r2 ⊢;refine ⟨_,_,d1,d2,vC _ _ (so s1 (List.mem_of_getElem? e1)),vC _ _ (so' s2 (List.mem_of_getElem? e2)),_,rfl, ?_⟩;rw [if_pos rfl]
   by_cases eq:PyData.eqv (zM s1 c1) (zM s2 c2)=true
   rotate_left
   ·rw [Bool.not_eq_true] at eq
    rw [eq];refine iR ?_;exact no H2 S2 (fun z=>by rw [(Gp s1 s2 c1 c2).mpr z.1] at eq;cases eq)
   rw [eq];refine fM ?_;have eh:=(Gp s1 s2 c1 c2).mp eq;refine ⟨_,rfl,_,_,_,_,rfl,rfl,bC.of r1.h,rfl,rfl,_,rfl, ?_⟩
   by_cases ew:s1.st = "waits"
   rotate_left
   ·refine bH (fun z=>absurd (V.str.inj (of_decide_eq_true z)) ew) (fun _=> ?_)
    refine fM ?_;exact ⟨_,_,rfl,S2,yes H2 S2 ⟨eh,fun z=>absurd z ew⟩⟩
   refine bH (fun _=> ?_) (fun z=>absurd (decide_eq_true (by rw [ew])) z);refine ⟨_,rfl,_,_,_,_,rfl,rfl,bC.of r1.h,rfl,_,rfl,_,_,_,_,rfl,rfl,bC.of r2.h,rfl,rfl,_,rfl, ?_⟩
   by_cases ep:s1.pos=s2.pos
   ·rw [ep,show (!decide (V.int (s2.pos:Int)=V.int (s2.pos:Int)))=false by simp]
    refine fM ?_;exact ⟨_,_,rfl,S2,yes H2 S2 ⟨eh,fun _=>ep⟩⟩
   ·refine bH (fun _=> ?_) (fun z=>absurd (by simp;omega) z)
    exact no H2 S2 (fun z=>ep (z.2 ew))
  ·rintro σ Hc ⟨x2,x3,rfl,sm,inv⟩
   refine k true Hc ⟨fun _=>⟨en,fun i s s' c c' h1 h2 h3 h4=>inv i s s' c c' ?_ h1 h2 h3 h4⟩,fun _=>rfl⟩ sm;have a1:=(List.getElem?_eq_some_iff.mp h1).1;have a2:=(List.getElem?_eq_some_iff.mp h2).1;rw [al,bl,l.len,l'.len];omega
theorem RT.drawn {τ:Tg} {H:Hp} {r D:Addr} {n:Nat} {m:Int} {te:TE} {Q:VK} {rest:St} (T:RT τ H r) (hD:H D=none) (hn:n<=10000)
 (Wh:∀(v:Option V) (Hd:Hp) (F:VK),dj Hd r->(∀(y:Int) (H':Hp),0<=y->y<m->dj H' r->KR r Hd H'->F (.int y) H')->te (v::rest) Hd F)
 (k:∀(xs:List Nat) (H':Hp),xs.length=n->(∀c∈xs,(c:Int)<m)->H' D=some (.lst (xs.map fun c:Nat=>V.int c))->RT (aQ τ D [0]) H' r->(∀x o,H x=some o->τ x≠[]->H' x=some o)->(∀x xs,H x=some (.tup xs)->H' x=some (.tup xs))->Kp r H H'->Q (.ref D) H'):oK (PN 0 n) (dO 0) rM te Q D (none::rest) H:=by
 have sD:=aF (o:=HO.lst []) hD;have RZ:D≠r:=T.R.ne hD;have TD:=T.claim (t:=[0]) sD hD ⟨_,ak⟩;have tD:aQ τ D [0] D=[0]:=bw;have tg:∀x u,H x=some u->aQ τ D [0] x=τ x:=fun x u e=>aP (aB e hD);generalize aQ τ D [0]=τd at TD tD tg k;refine mL (lo:=0) (n:=n) (fun i σ Hd=>∃(v:Option V) (xs:List Nat),σ=v::rest/\RT τd Hd r/\Hd D=some (.lst (xs.map fun c:Nat=>V.int c))/\xs.length=i/\(∀c∈xs,(c:Int)<m)/\(∀x o,H x=some o->τ x≠[]->Hd x=some o)/\(∀x xs,H x=some (.tup xs)->Hd x=some (.tup xs))/\Kp r H Hd) ?_ ?_ ?_
 ·exact ⟨none,[],rfl,TD,ak,rfl,by simp,fun x o e _=>sD _ _ e,sD.tups,Kp.of_same sD⟩
 ·rintro i σ Hd hi ⟨v,xs,rfl,Td,Gi,ld,od,kd,td,Hy⟩
  dsimp only [dO,rM];rw [if_pos rfl];refine Wh _ Hd _ Td.R (fun y H3 y0 y1 R3 k3=> ?_);have T3:=Td.draw k3 R3;have Wx:=Td.keep k3 Gi (by rw [tD];simp);obtain ⟨y,rfl⟩:=Int.eq_ofNat_of_zero_le y0;refine ⟨_,Wx,(by rw [List.length_map,sizeLine_eq];omega),_,xs++[y],rfl,T3.set Wx (by rw [tD];simp),by rw [ak,List.map_append];rfl,by simp [ld], ?_,fun x o e t=> ?_,fun x ys e=> ?_,fun x o e n'=> ?_⟩
  ·intro c hc
   rcases List.mem_append.mp hc with hc|hc
   ·exact od c hc
   ·rw [List.mem_singleton.mp hc];exact y1
  ·rw [aG (aB e hD)]
   exact Td.keep k3 (kd x o e t) (by rw [tg x o e];exact t)
  ·rw [aG (aB e hD)]
   exact k3.tups Td.R _ _ (td x ys e)
  ·rw [aG (aB e hD)]
   exact k3.1 _ _ (Hy x o e n') n'
 ·rintro σ Hd ⟨v,xs,rfl,Td,Gi,ld,od,kd,td,Hy⟩
  exact k xs Hd ld od Gi Td kd td Hy
def nI (xs:List Nat):List V:=xs.map fun c:Nat=>V.int c
theorem Ol (xs:List Nat) (z:Nat):(nI xs).take z=nI (xs.take z):=by unfold nI;rw [List.map_take]
theorem Om (xs:List Nat) (z:Nat):(nI xs).drop z=nI (xs.drop z):=by unfold nI;rw [List.map_drop]
def vB (K:PySem.W.Frag):Sp:=fun vs H Q _=>∃(r:Addr) (τ:Tg) (hn:Nat),vs=[.ref r,.int hn]/\RT τ H r/\1<=hn/\hn<=100 /\ ∀(t a b:Addr) (os os':List Nat) (τ':Tg) (H':Hp),H' t=some (.tup [.ref a,.ref b])->H' a=some (.lst (nI os))->H' b=some (.lst (nI os'))->(∀c∈os,c<hn)->(∀c∈os',c<hn)->os.length<=7->os'.length<=7->τ' a=[0]->τ' b=[0]->RT τ' H' r ->
 (∀x o,H x=some o->τ x≠[]->H' x=some o/\τ' x=τ x)->Kp r H H'->Q (.ref t) H'
theorem Bo {f:Addr} {fd:FuncData} (F:iY K "_law_orders" "_law_orders" gA f fd) (bL:FnAt P w K mg base 1 "_law_draw" ["reel","many"] (gR K)) (Bt:o8 mg):bV P w K mg base iD 2 f fd ["reel","hands"] (vB K):=by
 refine F.ok pX (fun vs H Q E h=> ?_) (fun cdv A outer s H vs Q E hr h=> ?_)
 ·obtain ⟨r,τ,hn,rfl,_⟩:=h
  rfl
 ·obtain ⟨r,τ,hn,rfl,T,h1,h100,k⟩:=h
  refine ⟨_,(aC (qL (i:=2) rfl pX.nd rfl (Or.inl rfl) (N:=["k","reel","hands"]) (own:=["k"]) (caps:=[0,1]) (bK.of (by kernel_rfl)) (iK (by rfl) Bt.mO (aj (bD bL (hr.mono (by decide)) (by rfl) (aj (pv 0) (aj aq au))) au)) (fun _ _ _ _=>(bG (i:=0) (show List.Nodup (["k","reel","hands"]:List Str) by decide +kernel) rfl (Or.inl rfl))) (fun _ _ _ _=>eU) (fun _ _ _ _=>(bD bL (hr.mono (by decide)) (by rfl) (aj (pv 1) (aj (pv 2) au)))))
   (aC (aY (i:=3) pX.nd rfl (Or.inl rfl) (bD bL (hr.mono (by decide)) (by rfl) (aj (pv 0) (aj (bJ dM (bJ vR aq (bN (bF (K:=K) rfl) (by rfl) Bt.gj dR (aj (pv 2) au))) aq) au))))
   (aC (bU (aR iG (bJ dM (pv 3) aq) (bN (bF (K:=K) rfl) (by rfl) Bt.gj dR (aj (pv 2) au)) (aV _)) (aH (bA (bR (aj (pv 2) (aj (bJ sO (bJ sO (jh (je (K:=K) rfl) (pv 2) jX (jW (pv 3))) (bZ (aj (aO (aL (K:=K) rfl) (pv 2) (bJ dM (pv 3) aq) (fun _ _=>rfl)) (aj (aO (aL (K:=K) rfl) (pv 2) (pv 3) (fun _ _=>rfl)) au)))) (jh (je (K:=K) rfl) (pv 2) (jW (bJ dM (pv 3) aq)) jX)) au))))) bB)
   (aH (bA (bR (aj (pv 2) (aj (pv 2) au)))))))), ?_⟩
  have zl:=sizeLine_eq;refine ⟨_,rfl,r,7,rfl,T.R,by decide,by decide,fun z H1 z0 z1 R1 k1=>⟨_,rfl,by omega,by omega,fun D hD=> ?_⟩⟩;have T1:=T.draw k1 R1;refine T1.drawn (n:=z.toNat) (m:=hn) hD (by omega) (fun v Hd F Rd kF=>⟨_,rfl,_,rfl,r,hn,rfl,Rd,by omega,by omega,fun y H' y0 y1 R' k'=>kF y H' y0 y1 R' k'⟩) (fun os H2 lo oo eD T2 kd td Za=> ?_);have eD:H2 D=some (.lst (nI os)):=eD;have oo:∀c∈os,c<hn:=fun c hc=>by have:=oo c hc;omega
  have nl:(nI os).length=os.length:=by unfold nI;rw [List.length_map]
  have CP:aQ τ D [0] D=[0]:=bw;have Oz:H D=none:=oY k1.1 (R1.ne hD) hD;have K2:∀x o,H x=some o->τ x≠[]->H2 x=some o/\aQ τ D [0] x=τ x:=fun x o e t=>⟨kd _ _ (T.keep k1 e t) t,aP (aB e Oz)⟩;have tne:aQ τ D [0] D≠[]:=by rw [CP];simp
  generalize aQ τ D [0]=τ2 at T2 CP tne K2;refine ⟨_,rfl,_,rfl,D,_,rfl,.inl (bC.of eD),_,_,rfl,rfl,(by show Qa _ _;exact .inl ⟨by omega,by omega⟩),_,_,rfl,rfl,r,_,rfl,T2.R,by omega,by omega,fun y H3 y0 y1 R3 k3=> ?_⟩;obtain ⟨y,rfl⟩:=Int.eq_ofNat_of_zero_le y0;have T3:=T2.draw k3 R3;have O7:=T2.keep k3 eD tne;have Sg:Kp r H H3:=(k1.1.trans Za).trans k3.1;have K3:∀x o,H x=some o->τ x≠[]->H3 x=some o/\τ2 x=τ x:=fun x o e t=>⟨T2.keep k3 (K2 x o e t).1 (by rw [(K2 x o e t).2];exact t),(K2 x o e t).2⟩;have ol:os.length<=6:=by omega
  clear K2 T2 T1 kd td k1 k3 eD Za R1;refine ⟨_,rfl,_,_,rfl,rfl,_,rfl,D,_,rfl,.inl (bC.of O7),_,_,rfl,rfl,_,rfl, ?_⟩;rw [nl]
  by_cases lt:y+1<os.length
  rotate_left
  ·refine bH (fun w=>absurd (of_decide_eq_true w) (by omega)) (fun _=> ?_)
   refine ⟨_,rfl,_,rfl,(by show 2<=sizeLine;decide),fun t ht=> ?_⟩;have st:=aF (o:=HO.tup [V.ref D,V.ref D]) ht;exact k t D D os os τ2 _ ak (st _ _ O7) (st _ _ O7) oo oo (by omega) (by omega) CP CP (T3.same st) (fun x o e w=>⟨st _ _ (K3 x o e w).1,(K3 x o e w).2⟩) (Sg.trans (Kp.of_same st))
  refine bH (fun _=> ?_) (fun w=>absurd (decide_eq_true (by omega)) w);obtain ⟨c1,e1⟩:∃c1,os[y]? = some c1:=⟨_,List.getElem?_eq_getElem (by omega)⟩;obtain ⟨c2,e2⟩:∃c2,os[y+1]? = some c2:=⟨_,List.getElem?_eq_getElem lt⟩;have g1:(nI os)[y]? = some (.int c1):=by unfold nI;rw [List.getElem?_map,e1];rfl
  have g2:wU (nI os) ((y:Int)+1)=some (.int c2):=by
   rw [show (y:Int)+1=((y+1:Nat):Int) by omega];exact cg (by unfold nI;rw [List.getElem?_map,e2];rfl)
  refine ⟨_,rfl,_,rfl,_,rfl,_,rfl,D,_,rfl,bC.of O7,fun p1 hp1=> ?_⟩;rw [Li,Ol];have u1:=aF (o:=HO.lst (nI (os.take y))) hp1;refine ⟨_,rfl,_,rfl,_,_,rfl,rfl,_,_,_,_,rfl,rfl,bC.of (u1 _ _ O7),g2,_,rfl,_,rfl,_,_,_,_,rfl,rfl,bC.of (u1 _ _ O7),cg g1,(by show 2<=sizeLine;decide),fun p2 hp2=> ?_⟩;have u2:=aF (o:=HO.lst [V.int c2,V.int c1]) hp2;refine ⟨p1,p2,_,_,rfl,rfl,u2 _ _ ak,ak,(by show (nI (os.take y)).length+2<=sizeLine;unfold nI;rw [List.length_map,List.length_take];omega),fun p3 hp3=> ?_⟩;have u3:=aF (o:=HO.lst (nI (os.take y)++[V.int c2,V.int c1])) hp3;refine ⟨_,rfl,_,rfl,_,_,rfl,rfl,_,rfl,D,_,rfl,bC.of ((u1.trans (u2.trans u3)) _ _ O7),fun p4 hp4=> ?_⟩;rw [show qU (nI os) (some ((y:Int)+2)) none=nI (os.drop (y+2)) from (qT (nI os) (y+2)).trans (Om _ _)];have u4:=aF (o:=HO.lst (nI (os.drop (y+2)))) hp4;refine ⟨p3,p4,_,_,rfl,rfl,u4 _ _ ak,ak,(by rw [List.length_append];unfold nI;rw [List.length_map,List.length_map,List.length_take,List.length_drop];show min y os.length+2+(os.length - (y+2))<=sizeLine;omega),fun p5 ZP=> ?_⟩;have u5:=aF (o:=HO.lst (nI (os.take y)++[V.int c2,V.int c1]++nI (os.drop (y+2)))) ZP;have cat:nI (os.take y++[c2,c1]++os.drop (y+2))=nI (os.take y)++[V.int c2,V.int c1]++nI (os.drop (y+2)):=by unfold nI;rw [List.map_append,List.map_append];rfl
  have Yv:=u1.trans (u2.trans (u3.trans u4));have T5:=(T3.same Yv).claim (t:=[0]) u5 ZP ⟨_,ak⟩;refine ⟨(by show 2<=sizeLine;decide),fun t ht=> ?_⟩;have st:=aF (o:=HO.tup [V.ref D,V.ref p5]) ht;have QG:=(Yv.trans u5).trans st;refine k t D p5 os (os.take y++[c2,c1]++os.drop (y+2)) (aQ τ2 p5 [0]) _ ak (QG _ _ O7) (st _ _ (by rw [ak,cat])) oo (fun c hc=> ?_) (by omega) ?_ (by rw [aP (aB (Yv _ _ O7) ZP)];exact CP) bw (T5.same st) (fun x o e w=>⟨QG _ _ (K3 x o e w).1,by rw [aP (aB (Yv _ _ (K3 x o e w).1) ZP)];exact (K3 x o e w).2⟩) (Sg.trans (Kp.of_same QG))
  ·rcases List.mem_append.mp hc with hc|hc
   ·rcases List.mem_append.mp hc with hc|hc
    ·exact oo c (List.mem_of_mem_take hc)
    ·simp only [List.mem_cons,List.not_mem_nil,or_false] at hc
     rcases hc with rfl|rfl
     ·exact oo _ (List.mem_of_getElem? e2)
     ·exact oo _ (List.mem_of_getElem? e1)
   ·exact oo c (List.mem_of_mem_drop hc)
  ·rw [List.length_append,List.length_append,List.length_take,List.length_drop]
   show min y os.length+2+(os.length - (y+2))<=7;omega
theorem Pg.Gw {τ:Tg} {H:Hp} {p L D:Addr} {rs:List Addr} {rws:List (List Rw)} {m:Nat} {te:TE} {Q:VK} {rest:St} (g:Pg τ H p L rs rws m) (hD:H D=none) (rl:rws.length<=100) (Wh:∀(r:Addr) (ts:List V) (H1:Hp) (F:VK),H1 r=some (.lst ts)->(∀q,H1 q=none->F (.ref q) (upd H1 q (.lst ts)))->te (some (.ref r)::rest) H1 F)
 (k:∀(qs:List Addr) (H':Hp),Same H H'->H' D=some (.lst (qs.map V.ref))->qs.length=rws.length->(∀(kk:Nat) (q:Addr) (x:List Rw),qs[kk]? = some q->rws[kk]? = some x->cJ H' q m x)->(∀q∈qs,q≠D/\H q=none)->qs.Nodup->Q (.ref D) H'):oK (Mq K L) (dO 0) rM te Q D (none::rest) H:=by
 refine iT (K:=K) (xs:=rs.map V.ref) (fun j σ Hc=>∃(v:Option V) (qs:List Addr),σ=v::rest/\qs.length=j/\Same H Hc/\qs.Nodup/\Hc D=some (.lst (qs.map V.ref)) /\ ∀(kk:Nat) (q:Addr) (x:List Rw),qs[kk]? = some q->rws[kk]? = some x->(q≠D/\H q=none)/\cJ Hc q m x) ?_ ?_ ?_ ?_
 ·exact ⟨none,[],rfl,rfl,aF hD,List.nodup_nil,ak,fun kk q x e=>by simp at e⟩
 ·rintro j σ Hc _ ⟨v,qs,rfl,_,sc,_⟩
  exact bC.of (sc _ _ g.eL)
 ·rintro j x σ Hc hj ⟨v,qs,rfl,lj,sc,nd,Al,hc⟩
  rw [List.getElem?_map] at hj
  obtain ⟨r0,K8,rfl⟩:∃r0,rs[j]? = some r0/\x = .ref r0:=by
   cases e:rs[j]? with
   | none=>rw [e] at hj;cases hj
   | some r0=>rw [e] at hj;exact ⟨r0,rfl,(Option.some.inj hj).symm⟩
  have jl:j<rws.length:=by rw [←g.len];exact (List.getElem?_eq_some_iff.mp K8).1
  have ex:rws[j]? = some rws[j]:=by simp [jl]
  obtain ⟨ts,hts,xK,rq,rl'⟩:=(g.row j r0 _ K8 ex).2;dsimp only [dO,rM];rw [if_pos rfl];refine Wh r0 ts Hc _ (sc _ _ hts) (fun q hq=> ?_);have sr:=aF (o:=HO.lst ts) hq;have Mh:q≠D:=(aB Al hq).symm
  have ndq:(qs++[q]).Nodup:=by
   refine List.nodup_append.mpr ⟨nd,List.pairwise_singleton _ _,fun x mx y my=> ?_⟩;rw [List.mem_singleton.mp my];obtain ⟨kk,ek⟩:=List.getElem?_of_mem mx;have kl:=(List.getElem?_eq_some_iff.mp ek).1;obtain ⟨_,us,eu,_⟩:=hc kk x _ ek (List.getElem?_eq_getElem (by omega));exact aB eu hq
  refine ⟨qs.map V.ref,sr _ _ Al,(by rw [List.length_map,sizeLine_eq];omega),_,qs++[q],rfl,by simp [lj],(sc.trans sr).newly hD,ndq,by rw [ak];simp,fun kk q' x' h1 h2=> ?_⟩
  have tups:∀y ys,Hc y=some (.tup ys)->(upd (upd Hc q (.lst ts)) D (.lst (qs.map V.ref++[V.ref q]))) y=some (.tup ys):=fun y ys e=>by
   rw [aG (cj e Al (by intro z;cases z))];exact sr _ _ e
  rcases iw h1 with h1|⟨e1,rfl⟩
  ·obtain ⟨n1,R1⟩:=hc kk q' x' h1 h2
   exact ⟨n1,R1.keep (fun u e=>by rw [aG n1.1];exact sr _ _ e) tups⟩
  ·rw [e1,lj,ex] at h2
   cases h2;exact ⟨⟨Mh,sc.free hq⟩,ts,by rw [aG Mh,ak],xK.keep (fun y ys e=>tups _ _ (sc _ _ e)) _ (nZ _),rq,rl'⟩
 ·rintro σ Hc ⟨v,qs,rfl,lj,sc,nd,Al,hc⟩
  rw [List.length_map,g.len] at lj;refine k qs Hc sc Al lj (fun kk q x h1 h2=>(hc kk q x h1 h2).2) (fun q mq=> ?_) nd;obtain ⟨kk,ek⟩:=List.getElem?_of_mem mq;have kl:=(List.getElem?_eq_some_iff.mp ek).1;exact (hc kk q _ ek (List.getElem?_eq_getElem (by omega))).1
theorem DP {ao aA aZ:Addr} {f:Addr} {fd:FuncData} (F:iY K "_law_emptied" "_law_emptied" fK f fd) (Ae:oH P w K mg base 7 ao "Works" ["self","program","cells"] [] (fun vs H Q _=>ju ao aA aZ K vs H Q fun _ _ _=>False)) (Bt:o8 mg):bV P w K mg base iD 9 f fd ["program","numbers"] (oO ao aA K):=by
 refine F.ok jU (fun vs H Q E h=> ?_) (fun cdv A outer s H vs Q E hr h=> ?_)
 ·obtain ⟨i,τ,p,L,rs,rws,m,v,ns,rfl,_⟩:=h
  rfl
 ·obtain ⟨i,τ,p,L,rs,rws,m,v,ns,rfl,g,rl,ml,⟨good,hv⟩,un,i0,k⟩:=h
  refine ⟨_,(aC (aY (i:=2) jU.nd rfl (Or.inl rfl) (bR (aj (aO (aU (K:=K) rfl) (pv 0) aq (fun _ _=>rfl)) (aj (gK rfl (N:=["rows"]) (own:=["rows"]) (caps:=[]) (bK.of (by kernel_rfl)) (dB (K:=K) rfl (aO (aU (K:=K) rfl) (pv 0) aq (fun _ _=>rfl))) (fun _ _ _ _=>(bG (i:=0) (show List.Nodup (["rows"]:List Str) by decide +kernel) rfl (Or.inl rfl))) (fun _ _ _ _=>eU) (fun _ _ _ _=>(b_ (bQ (K:=K) rfl) (by rfl) Bt.fZ eO (aj (pv 0) au)))) au))))
   (aC (aY (i:=3) jU.nd rfl (Or.inl rfl) (nG Ae (hr.mono (by decide)) (by rfl) (aj (pv 2) (aj (pv 1) au))))
   (aC (nF PassesOwn.never rfl (dB (K:=K) rfl (aO (aU (K:=K) rfl) (pv 2) aq (fun _ _=>rfl))) (bG (i:=4) jU.nd rfl (Or.inl rfl))
   (aH (dh (FQ (K:=K) rfl PySem.F.plainAttrs_list PySem.F.slot_list_clear PySem.F.type_list_clear Bv (pv 4)))))
   (aC (dh (FQ (K:=K) rfl PySem.F.plainAttrs_list PySem.F.slot_list_clear PySem.F.type_list_clear Bv (aO (aU (K:=K) rfl) (pv 2) aq (fun _ _=>rfl))))
   (aH (bA (pv 3))))))), ?_⟩
  have nl:ns.length=m:=by have:=good.1;omega
  refine ⟨_,rfl,_,_,_,_,rfl,rfl,cA.of g.ep,rfl,_,rfl,_,_,_,_,rfl,rfl,cA.of g.ep,rfl,L,rfl,⟨_,bC.of g.eL⟩,fun D hD=> ?_⟩;refine g.Gw hD rl (fun r ts H1 F hr kF=>⟨_,rfl,r,_,rfl,.inl (bC.of hr),fun q hq=>kF q hq⟩) (fun qs H1 s1 hD1 lq hq fq _=> ?_);refine ⟨(by show 2<=sizeLine;decide),fun q' hq'=> ?_⟩;have sq:=aF (o:=HO.tup [V.int m,V.ref D]) hq';have eq:(upd H1 q' (.tup [V.int m,V.ref D])) q'=some (.tup [V.int m,V.ref D]):=ak;have hD2:=sq _ _ hD1;have S2:=s1.trans sq;have hq2:∀(kk:Nat) (q:Addr) (x:List Rw),qs[kk]? = some q->rws[kk]? = some x->cJ (upd H1 q' (.tup [V.int m,V.ref D])) q m x:=fun kk qq x h1 h2=>(hq kk qq x h1 h2).same sq;generalize (upd H1 q' (.tup [V.int m,V.ref D]))=H2 at sq eq hD2 S2 hq2 ⊢;refine ⟨_,rfl,_,rfl,fun o dx ho hdx ndx=> ?_⟩;have ho':(upd H2 dx (.own o)) o=none:=by rw [aG ndx.symm];exact ho
  have sm:Same H2 (upd (upd H2 dx (.own o)) o (.ins ao dx [])):=(aF hdx).trans (aF ho');refine ⟨i,τ,o,dx,q',D,qs,m,v,ns,rws,rfl,ak,sm _ _ eq,sm _ _ hD2,lq,fun kk q'' x h1 h2=>(hq2 kk q'' x h1 h2).same sm,rl,ml,(un.same S2).same sm,i0,by omega, ?_,fun _ τ' W H' eo w tg kp=>⟨rfl, ?_⟩,fun bad=>absurd good bad⟩
  ·rcases hv with h|⟨l,e,tl,h⟩
   ·exact .inl h
   ·exact .inr ⟨l,e,sm _ _ (S2 _ _ h)⟩
  subst eo;have s3:Same H2 H':=fun x u e=>kp _ _ (sm _ _ e) (aB e ho);have Mw:∀x u,H2 x=some u->τ' x=τ x:=fun x u e=>tg x u (sm _ _ e) (aB e ho)
  have rl2:∀x∈qs,∃ts,H2 x=some (.lst ts):=fun x mx=>by
   obtain ⟨kk,ek⟩:=List.getElem?_of_mem mx;have kl:=(List.getElem?_eq_some_iff.mp ek).1;obtain ⟨ts,e,_⟩:=hq2 kk x _ ek (List.getElem?_eq_getElem (by omega));exact ⟨ts,e⟩
  have tq:∀x∈qs,τ' x=[]:=fun x mx=>by
   obtain ⟨ts,e⟩:=rl2 x mx;rw [Mw _ _ e];exact un x (fq x mx).2
  have tD:τ' D=[]:=by rw [Mw _ _ hD2];exact un D hD
  clear kp tg sm ho' ho hdx hq hq2 hD1 s1 sq;refine ⟨_,rfl,_,_,_,_,rfl,rfl,cA.of (s3 _ _ eq),rfl,D,rfl,⟨_,bC.of (s3 _ _ hD2)⟩, ?_⟩;refine oh (xs:=qs.map V.ref) (fun j σ Hc=>∃x4:Option V,σ=[some (.ref p),some v,some (.ref q'),some (.ref W.o),x4]/\Same H Hc/\j6 ao aA i τ' Hc W (qj m ns rws)/\Hc D=some (.lst (qs.map V.ref))/\Hc q'=some (.tup [V.int m,V.ref D]) /\ ∀x∈qs,∃ts,Hc x=some (.lst ts)) ⟨none,rfl,S2.trans s3,w,s3 _ _ hD2,s3 _ _ eq,fun x mx=>by obtain ⟨ts,e⟩:=rl2 x mx;exact ⟨ts,s3 _ _ e⟩⟩ ?_ ?_ ?_
  ·rintro j σ Hc hj ⟨x4,rfl,sc,wc,eD,_⟩
   exact bC.of eD
  ·rintro j x σ Hc hj ⟨x4,rfl,sc,wc,eD,eq',lc⟩
   rw [List.getElem?_map] at hj
   obtain ⟨y,ey,rfl⟩:∃y,qs[j]? = some y/\V.ref y=x:=by
    cases e:qs[j]? with
    | none=>rw [e] at hj;cases hj
    | some y=>rw [e] at hj;exact ⟨y,rfl,Option.some.inj hj⟩
   have my:=List.mem_of_getElem? ey;obtain ⟨ts,et⟩:=lc y my;refine ⟨_,rfl,.inl ⟨rfl,_,bC.of et⟩,y,_,rfl,rfl,et, ?_⟩;have ky:Kp y Hc (upd Hc y (.lst [])):=Kp.set;refine ⟨_,rfl,fun z u e=>ky _ _ (sc _ _ e) (aB e (fq y my).2),wc.kp ky et (by intro xs z;cases z) (tq y my) ⟨_,ak⟩,ky _ _ eD (fq y my).1.symm,ky _ _ eq' (cj eq' et (by intro z;cases z)),fun z mz=> ?_⟩
   by_cases e:z=y
   ·rw [e];exact ⟨_,ak⟩
   ·obtain ⟨ts',e'⟩:=lc z mz
    exact ⟨ts',ky _ _ e' e⟩
  ·rintro σ Hc ⟨x4,rfl,sc,wc,eD,eq',lc⟩
   refine ⟨_,rfl,_,_,_,_,rfl,rfl,cA.of eq',rfl,.inl ⟨rfl,_,bC.of eD⟩,D,_,rfl,rfl,eD, ?_⟩;have kD:Kp D Hc (upd Hc D (.lst [])):=Kp.set;refine ⟨_,rfl, ?_⟩;exact k W τ' _ (wc.kp kD eD (by intro xs z;cases z) tD ⟨_,ak⟩) (fun x u e=>Mw x u (S2 _ _ e)) (fun z u e=>kD _ _ (sc _ _ e) (aB e hD))
structure Cn (ts:List Int) (n:Nat) (cs:List Nat):Prop where
 lc:cs.length=n
 ct:∀k<n,ts.count (k:Int)=(cs[k]?).getD 0
 tl:ts.length=cs.sum
theorem sum_set:∀(gs:List Nat) (k g:Nat),gs[k]? = some g->(gs.set k (g+1)).sum=gs.sum+1
 | [],k,g,h=>by simp at h
 | a::l,0,g,h=>by simp at h;subst h;simp;omega
 | a::l,k+1,g,h=>by
   have:=sum_set l k g (by simpa using h);simp only [List.set_cons_succ,List.sum_cons,this];omega
theorem Cn.turned {ts:List Int} {n k c:Nat} {cs:List Nat} (C:Cn ts n cs) (e:cs[k]? = some c):Cn (ts++[(k:Int)]) n (cs.set k (c+1)):=by
 have kl:=(List.getElem?_eq_some_iff.mp e).1;refine ⟨by simp [C.lc],fun j hj=> ?_,by rw [List.length_append,sum_set cs k c e,C.tl];rfl⟩;rw [List.count_append,C.ct j hj,List.getElem?_set]
 by_cases z:k=j
 ·subst z
  rw [if_pos rfl,if_pos kl,e];simp
 ·rw [if_neg z,List.count_singleton]
  have:¬(k:Int)=(j:Int):=by omega
  simp [this]
theorem Cn.cnt {S:jR} {cs:List Nat} (C:Cn S.ts S.hs.length cs):tE S=cs.map fun g:Nat=>(g:Int):=by
 unfold tE;apply List.ext_getElem?;intro k;rw [List.getElem?_map,List.getElem?_map]
 by_cases kl:k<S.hs.length
 ·have e:cs[k]? = some (cs[k]'(by rw [C.lc];exact kl)):=List.getElem?_eq_getElem _
  rw [List.getElem?_range kl,e];simp only [Option.map_some];rw [C.ct k kl,e];rfl
 ·rw [List.getElem?_eq_none_iff.mpr (by simp;omega),List.getElem?_eq_none_iff.mpr (by rw [C.lc];omega)]
  rfl
theorem Tr (n:Nat):Cn [] n (List.replicate n 0):=⟨by simp,fun k hk=>by rw [List.getElem?_replicate,if_pos hk];rfl,by simp⟩
def zN (S:jR) (n:Nat):jR:=match S.hs[n]? with
 | some s=>if s.st = "waits" then qz S n else S
 | none=>S
theorem KZ {S:jR} {n:Nat} (h:¬n<S.hs.length):zN S n=S:=by
 unfold zN;rw [List.getElem?_eq_none_iff.mpr (by omega)]
theorem OD {S:jR} {n:Nat} {s:aX} (e:S.hs[n]? = some s) (h:¬s.st = "waits"):zN S n=S:=by
 unfold zN;rw [e];exact if_neg h
theorem BP {S:jR} {n:Nat} {s:aX} (e:S.hs[n]? = some s) (h:s.st = "waits"):zN S n=qz S n:=by
 unfold zN;rw [e];exact if_pos h
theorem wB {os:List Nat} {j n:Nat} (e:os[j]? = some n) (S:jR):(os.take (j+1)).foldl zN S=zN ((os.take j).foldl zN S) n:=by
 rw [List.take_add_one,e,List.foldl_append];rfl
def qF (CW CH:Addr) (K:PySem.W.Frag):Sp:=fun vs H Q _=>∃(i j:Nat) (τ:Tg) (p PL:Addr) (rs:List Addr) (rws:List (List Rw)) (m:Nat) (v:V) (ns:List Int) (od:Addr) (os:List Nat) (b:Bool),vs=[.ref p,v,.ref od,.bl b]/\Pg τ H p PL rs rws m/\rws.length<=100/\m<=100/\NumV τ H v ns m/\oF τ H/\i≠0/\j≠0/\i≠j/\(∀x u,H x=some u->(τ x).head?≠some i/\(τ x).head?≠some j)/\H od=some (.lst (nI os))/\os.length<=7 /\
 ∀(t:Addr) (W:xT) (S:jR) (L:Qx) (cs:List Nat) (τ':Tg) (H':Hp),H' t=some (.tup [.ref W.o,.ref L.st])->j6 CW CH i τ' H' W S->yH j τ' H' L S.ns S.hs cs->Cn S.ts S.hs.length cs->iB S->S.m=m->S.hs.map (fun s=>s.rws)=rws->S.ts.length<=7->S=os.foldl zN (qj m ns rws)->(∀x u,H x=some u->τ' x=τ x)->Same H H'->Q (.ref t) H'
theorem Hs {ao aA bM fQ:Addr} {f:Addr} {fd:FuncData} (F:iY K "_law_gone_by" "_law_gone_by" fJ f fd) (L_:FnAt P w K mg base 9 "_law_works" ["program","numbers"] (oO ao aA K)) (Fe:FnAt P w K mg base 9 "_law_emptied" ["program","numbers"] (oO ao aA K)) (Ma:FnAt P w K mg base 7 "_law_first" ["program","numbers"] (yV K)) (Ag:MethAt P w K mg base 7 ao "turn" ["self","hand"] (fun vs H Q _=>Dp ao aA bM fQ K vs H Q fun _ _ _=>False)) (P_:FnAt P w K mg base 6 "_law_gone" ["state","program","k"] (Dt K)) (aN:dD K ao) (Bt:o8 mg):bV P w K mg base iD 10 f fd ["program","numbers","order","emptied"] (qF ao aA K):=by
 refine F.ok jf (fun vs H Q E h=> ?_) (fun cdv A outer s H vs Q E hr h=> ?_)
 ·obtain ⟨i,j,τ,p,PL,rs,rws,m,v,ns,od,os,b,rfl,_⟩:=h
  rfl
 ·obtain ⟨i,j,τ,p,PL,rs,rws,m,v,ns,od,os,b,rfl,g,rl,ml,nv,un,i0,j0,nij,fi,hod,ol,k⟩:=h
  refine ⟨_,(aC (aY (i:=4) jf.nd rfl (Or.inl rfl) (bD L_ (hr.mono (by decide)) (by rfl) (aj (pv 0) (aj (pv 1) au))))
   (aC (bU (nD (pv 3)) (aH (aY (i:=4) jf.nd rfl (Or.inl rfl) (bD Fe (hr.mono (by decide)) (by rfl) (aj (pv 0) (aj (pv 1) au))))) bB)
   (aC (aY (i:=5) jf.nd rfl (Or.inl rfl) (bD Ma (hr.mono (by decide)) (by rfl) (aj (pv 0) (aj (pv 1) au))))
   (aC (nF PassesOwn.never rfl (dB (K:=K) rfl (pv 2)) (bG (i:=6) jf.nd rfl (Or.inl rfl))
   (aH (bU (PW.pt (jJ (aR iG (pv 6) (bN (bF (K:=K) rfl) (by rfl) Bt.gj dR (aj (aO (aL (K:=K) rfl) (pv 5) aq (fun _ _=>rfl)) au)) (aV _)) (iZ (aR cT (aO (aL (K:=K) rfl) (aO (aL (K:=K) rfl) (aO (aL (K:=K) rfl) (pv 5) aq (fun _ _=>rfl)) (pv 6) (fun _ _=>rfl)) aq (fun _ _=>rfl)) aW (aV _))))) (aC (dh (dN Ag aN.cls (hr.mono (by decide)) (pv 4) (aj (pv 6) au)))
   (aH (dh (bD P_ (hr.mono (by decide)) (by rfl) (aj (pv 5) (aj (pv 0) (aj (pv 6) au))))))) bB)))
   (aH (bA (bR (aj (pv 4) (aj (pv 5) au))))))))), ?_⟩
  have good:=nv.1;refine ⟨_,rfl,_,rfl,i,τ,p,PL,rs,rws,m,v,ns,rfl,g,rl,ml,nv,un,i0,fun W1 τ1 H1 w1 CK s1=> ?_⟩;dsimp only [dO];refine gU (fun σ Hd=>∃(W:xT) (τ2:Tg),σ=[some (.ref p),some v,some (.ref od),some (.bl b),some (.ref W.o),none,none]/\j6 ao aA i τ2 Hd W (qj m ns rws)/\(∀x u,H x=some u->τ2 x=τ x)/\Same H Hd) (fun D' hD' _=> ?_) ?_
  ·refine ⟨_,rfl,_,rfl, ?_⟩
   cases b with
   | true=>
     refine iR ?_;refine ⟨_,rfl,_,rfl,i,τ1,p,PL,rs,rws,m,v,ns,rfl,g.mv (i:=0) (Mv.tags s1 CK),rl,ml,nv.mv (i:=0) (Mv.tags s1 CK),w1.un,i0,fun W2 τ2 H2 w2 Mw s2=> ?_⟩;exact hD' _ _ ⟨W2,τ2,rfl,w2,fun x u e=>(Mw x u (s1 _ _ e)).trans (CK x u e),s1.trans s2⟩
   | false=>
     refine fM ?_;exact hD' _ _ ⟨W1,τ1,rfl,w1,CK,s1⟩
  rintro σ H2 ⟨W,τ2,rfl,w2,Mw,s2⟩;refine ⟨_,rfl,_,rfl,j,τ2,p,PL,rs,rws,m,v,ns,rfl,g.mv (i:=0) (Mv.tags s2 Mw),rl,ml,nv.mv (i:=0) (Mv.tags s2 Mw),w2.un,fun L τ3 H3 l3 un3 Yy s3=> ?_⟩;have S3:=s2.trans s3;have tg:∀x u,H x=some u->τ3 x=τ x:=fun x u e=>(Yy x u (s2 _ _ e)).trans (Mw x u e);have w3:=w2.mv (Mv.tags s3 Yy) un3;refine ⟨_,rfl,od,rfl,⟨_,bC.of (S3 _ _ hod)⟩, ?_⟩;refine oh (xs:=nI os) (fun jj σ Hc=>∃(x6:Option V) (S:jR) (cs:List Nat),σ=[some (.ref p),some v,some (.ref od),some (.bl b),some (.ref W.o),some (.ref L.st),x6]/\Same H Hc/\j6 ao aA i τ3 Hc W S/\yH j τ3 Hc L S.ns S.hs cs/\Cn S.ts S.hs.length cs/\iB S/\S.m=m/\S.hs.map (fun s=>s.rws)=rws/\S.ts.length<=jj/\S=(os.take jj).foldl zN (qj m ns rws)) ⟨none,_,_,rfl,S3,w3,l3, ?_,HW good.2,rfl, ?_,Nat.le_refl _,rfl⟩ ?_ ?_ ?_
  ·show Cn [] (rws.map _).length _
   rw [List.length_map];exact Tr _
  ·show (rws.map fun r=>lead (new r)).map (fun s=>s.rws)=rws
   rw [List.map_map];refine (List.map_congr_left fun x _=> ?_).trans (List.map_id rws);exact mK _ _
  ·rintro jj σ Hc hj ⟨x6,S,cs,rfl,sc,_⟩
   exact bC.of (sc _ _ hod)
  ·rintro jj x σ Hc hj ⟨x6,S,cs,rfl,sc,wc,lc,cc,gc,em,er,tl,eS⟩
   have jl:jj<os.length:=by
    have:=(List.getElem?_eq_some_iff.mp hj).1;unfold nI at this;rwa [List.length_map] at this
   obtain ⟨n,en,rfl⟩:∃n:Nat,os[jj]? = some n/\V.int n=x:=by
    unfold nI at hj;rw [List.getElem?_map] at hj;cases e:os[jj]? with
    | none=>rw [e] at hj;cases hj
    | some y=>rw [e] at hj;exact ⟨y,rfl,Option.some.inj hj⟩
   have stay:zN S n=S -> ∃(x6':Option V) (S':jR) (cs':List Nat),[some (V.ref p),some v,some (.ref od),some (.bl b),some (.ref W.o),some (.ref L.st),some (V.int n)]=[some (V.ref p),some v,some (.ref od),some (.bl b),some (.ref W.o),some (.ref L.st),x6']/\Same H Hc/\j6 ao aA i τ3 Hc W S'/\yH j τ3 Hc L S'.ns S'.hs cs'/\Cn S'.ts S'.hs.length cs'/\iB S'/\S'.m=m/\S'.hs.map (fun s=>s.rws)=rws/\S'.ts.length<=jj+1/\S'=(os.take (jj+1)).foldl zN (qj m ns rws):=fun eg=>⟨_,S,cs,rfl,sc,wc,lc,cc,gc,em,er,Nat.le_succ_of_le tl,by rw [wB en,←eS,eg]⟩;have hl:(L.hd.map fun a=>V.ref a.h).length=S.hs.length:=by rw [List.length_map,lc.len]
   refine ⟨_,rfl,_,rfl,_,_,_,_,rfl,rfl,bC.of lc.st,rfl,L.hl,_,rfl,.inl (bC.of lc.hl),_,_,rfl,rfl,_,rfl, ?_⟩;rw [hl]
   by_cases nlt:n<S.hs.length
   rotate_left
   ·refine bH (fun z=>absurd (of_decide_eq_true z) (by omega)) (fun _=> ?_)
    refine fM ?_;exact stay (KZ nlt)
   refine bH (fun _=> ?_) (fun z=>absurd (decide_eq_true (by omega)) z);obtain ⟨s',es⟩:∃s',S.hs[n]? = some s':=⟨_,List.getElem?_eq_getElem nlt⟩;obtain ⟨B,c,eB,ec,hB⟩:=lc.hand es;refine ⟨_,rfl,_,_,_,_,rfl,rfl,bC.of lc.st,rfl,_,rfl,_,_,_,_,rfl,rfl,bC.of lc.hl,cg (by rw [List.getElem?_map,eB];rfl),_,_,_,_,rfl,rfl,bC.of hB.q.h,rfl,rfl,_,rfl, ?_⟩
   by_cases wt:s'.st = "waits"
   rotate_left
   ·refine bH (fun z=>absurd (V.str.inj (of_decide_eq_true z)) wt) (fun _=> ?_)
    exact stay (OD es wt)
   refine bH (fun _=> ?_) (fun z=>absurd (decide_eq_true (by rw [wt])) z);clear stay;obtain ⟨row,S_,tr⟩:=wc.ok s' (List.mem_of_getElem? es) wt;have inn:CT (n:Int) S.hs.length:=⟨by omega,by omega⟩
   have one:∀(k':Nat) (t:aX),(n:Int)=k'->S.hs[k']? = some t->t=s'/\k'=n:=fun k' t e1 e2=>by
    have:k'=n:=by omega
    subst this;rw [es] at e2;exact ⟨(Option.some.inj e2).symm,rfl⟩
   refine ⟨_,rfl,W.o,W.dx,_,rfl,wc.o,rfl,_,rfl,i,τ3,W,S,_,rfl,wc,by omega,fun k' t' r' tt Hk e1 e2 wt' Mp tr' tf tk wk stk=> ?_,fun z=>absurd inn z,fun k' t' e1 e2 z=>absurd (by rw [(one k' t' e1 e2).1];exact wt) z⟩;obtain ⟨rfl,rfl⟩:=one k' t' e1 e2;rw [S_] at Mp;cases Mp;have lk:=lc.mv (Mv.DW (i:=j) stk nij i0);have sk:Same H Hk:=fun x u e=>stk.keep _ _ (sc _ _ e) (by rw [tg x u e];exact (fi x u e).1);have gk:Pg τ3 Hk p PL rs rws m:=g.mv (i:=0) (Mv.tags sk tg);have rwk:rws[k']? = some t'.rws:=by rw [←er,List.getElem?_map,es];rfl
   have syl:=wc.sl t' (List.mem_of_getElem? es);refine ⟨_,rfl,_,rfl,_,rfl,j,τ3,L,_,_,_,p,PL,rs,rws,m,k',t',row,rfl,lk,gk,j0,by rw [wc.nl,em],es,rwk,S_,tr,by omega,fun du Hg edu ⟨c',ec',lg⟩ stg=> ?_⟩;have sg:Same H Hg:=fun x u e=>stg.keep _ _ (sk _ _ e) (by rw [tg x u e];exact (fi x u e).2);have ung:oF τ3 Hg:=fun x e=>wk.un x (stg.dom x e);have wg:=wk.mv (Mv.DW (i:=i) stg (Ne.symm nij) j0) ung;have gd:=gc.turn k';have eT:qz S k'=(os.take (jj+1)).foldl zN (qj m ns rws):=by rw [wB en,←eS,BP es wt]
   rw [vo es S_] at wg gd eT;refine ⟨_,_,cs.set k' (c'+1),rfl,sg,wg,lg, ?_,gd,em, ?_, ?_,eT⟩
   ·show Cn (S.ts++[(k':Int)]) (S.hs.set k' (gF S.ns t' row)).length (cs.set k' (c'+1))
    rw [List.length_set];exact cc.turned ec'
   ·show (S.hs.set k' (gF S.ns t' row)).map (fun s=>s.rws)=rws
    rw [List.map_set,er];refine List.ext_getElem? fun q=> ?_;rw [List.getElem?_set]
    by_cases z:k'=q
    ·subst z
     rw [if_pos rfl,if_pos (List.getElem?_eq_some_iff.mp rwk).1,rwk,show (gF S.ns t' row).rws=t'.rws from mK _ _]
    ·rw [if_neg z]
   ·show (S.ts++[(k':Int)]).length<=jj+1
    rw [List.length_append];show S.ts.length+1<=jj+1;omega
  ·rintro σ Hc ⟨x6,S,cs,rfl,sc,wc,lc,cc,gc,em,er,tl,eS⟩
   refine ⟨_,rfl,_,rfl,(by show 2<=sizeLine;decide),fun t ht=> ?_⟩;have st:=aF (o:=HO.tup [V.ref W.o,V.ref L.st]) ht;refine k t W S L cs τ3 _ ak (wc.same st) (lc.same st) cc gc em er ?_ (by rw [eS];unfold nI;rw [List.length_map,List.take_length]) tg (sc.trans st);unfold nI at tl;rw [List.length_map] at tl;omega
theorem qg:∀(l m:List PyData),PyData.eqvAll l m=true↔l.length=m.length /\ ∀(i:Nat) a b,l[i]? = some a->m[i]? = some b->PyData.eqv a b=true
 | [],[]=>by simp [PyData.eqvAll]
 | [],_::_=>by simp [PyData.eqvAll]
 | _::_,[]=>by simp [PyData.eqvAll]
 | a::l,b::m=>by
   simp only [PyData.eqvAll,Bool.and_eq_true,qg l m,List.length_cons];constructor
   ·rintro ⟨h,hl,q⟩
    refine ⟨by omega,fun i x y h1 h2=> ?_⟩;cases i with
    | zero=>cases h1;cases h2;exact h
    | succ i=>exact q i x y h1 h2
   ·rintro ⟨hl,q⟩
    exact ⟨q 0 a b rfl rfl,by omega,fun i x y h1 h2=>q (i+1) x y h1 h2⟩
theorem oZ (x y:List Int):PyData.eqv (fU x) (fU y)=decide (x=y):=lE PyData.int j5 x y
theorem FP (s s':aX):PyData.eqv (lB s) (lB s')=true↔s.st=s'.st/\(s.st = "waits" -> s.pos=s'.pos)/\s.bs=s'.bs/\s.sy=s'.sy:=by
 have e1:=oZ s.bs s'.bs;have e2:=oZ s.sy s'.sy
 have e0:PyData.eqv (lB s) (lB s')=(PyData.eqv (.str s.st) (.str s'.st)&&(PyData.eqv (if s.st = "waits" then .int s.pos else .none) (if s'.st = "waits" then .int s'.pos else .none)&&(PyData.eqv (fU s.bs) (fU s'.bs)&&(PyData.eqv (fU s.sy) (fU s'.sy)&&true)))):=by
  simp only [lB,PyData.eqv,PyData.eqvAll]
 rw [e0,e1,e2];have e3:PyData.eqv (.str s.st) (.str s'.st)=true↔s.st=s'.st:=by simp [PyData.eqv]
 rw [Bool.and_eq_true,Bool.and_eq_true,Bool.and_eq_true,Bool.and_true,decide_eq_true_iff,decide_eq_true_iff,e3];constructor
 ·rintro ⟨a,b,c,d⟩
  refine ⟨a,fun w=> ?_,c,d⟩;rw [if_pos w,if_pos (a▸w),j5,decide_eq_true_iff] at b;omega
 ·rintro ⟨a,b,c,d⟩
  refine ⟨a, ?_,c,d⟩
  by_cases w:s.st = "waits"
  ·rw [if_pos w,if_pos (a▸w),j5,decide_eq_true_iff,b w]
  ·rw [if_neg w,if_neg (fun z=>w (a.trans z))]
   rfl
theorem Mr {S S':jR} {cs cs':List Nat} (C:Cn S.ts S.hs.length cs) (C':Cn S'.ts S'.hs.length cs'):Fi S S'=true↔PyData.eqv (iu S) (iu S')=true/\GF S.ns S'.ns S.hs S'.hs cs cs':=by
 have e0:Fi S S'=(PyData.eqv (iu S) (iu S')&&(PyData.eqv (fU S.ns) (fU S'.ns)&&(PyData.eqvAll (S.hs.map lB) (S'.hs.map lB)&&(PyData.eqv (fU (tE S)) (fU (tE S'))&&true)))):=by
  simp only [Fi,U5,Dd,PyData.eqv,PyData.eqvAll]
 rw [e0,oZ,oZ,Bool.and_eq_true,Bool.and_eq_true,Bool.and_eq_true,Bool.and_true,decide_eq_true_iff,decide_eq_true_iff,qg,List.length_map,List.length_map,C.cnt,C'.cnt]
 have len:PyData.eqv (iu S) (iu S')=true->S.hs.length=S'.hs.length:=fun h=>by
  have:PyData.eqv (iu S) (iu S')=(PyData.eqv (.int S.m) (.int S'.m)&&(PyData.eqvAll (S.hs.map fun s=>lA s.rws) (S'.hs.map fun s=>lA s.rws)&&true)):=by
   simp only [iu,PyData.eqv,PyData.eqvAll]
  rw [this,Bool.and_eq_true,Bool.and_true,qg,List.length_map,List.length_map] at h;exact h.2.1
 constructor
 ·rintro ⟨a,b,⟨l,q⟩,d⟩
  refine ⟨a,b,fun i s s' c c' h1 h2 h3 h4=> ?_⟩;obtain ⟨p1,p2,p3,p4⟩:=(FP s s').mp (q i _ _ (by rw [List.getElem?_map,h1];rfl) (by rw [List.getElem?_map,h2];rfl));refine ⟨⟨p3,p4,p1, ?_⟩,p2⟩;have e:(cs.map fun g:Nat=>(g:Int))[i]? = (cs'.map fun g:Nat=>(g:Int))[i]? :=by rw [d]
  rw [List.getElem?_map,List.getElem?_map,h3,h4] at e;have:(c:Int)=(c':Int):=Option.some.inj e;omega
 ·rintro ⟨a,b,q⟩
  have l:=len a;have lc:=C.lc;have lc':=C'.lc;refine ⟨a,b,⟨l,fun i x y h1 h2=> ?_⟩, ?_⟩
  ·rw [List.getElem?_map] at h1 h2
   cases e1:S.hs[i]? with
   | none=>rw [e1] at h1;cases h1
   | some s=>
     cases e2:S'.hs[i]? with
     | none=>rw [e2] at h2;cases h2
     | some s'=>
       rw [e1] at h1;rw [e2] at h2;cases h1;cases h2;have i1:=(List.getElem?_eq_some_iff.mp e1).1;obtain ⟨⟨p1,p2,p3,_⟩,p4⟩:=q i s s' _ _ e1 e2 (List.getElem?_eq_getElem (by omega)) (List.getElem?_eq_getElem (by omega));exact (FP s s').mpr ⟨p3,p4,p1,p2⟩
  ·refine congrArg (List.map fun g:Nat=>(g:Int)) (List.ext_getElem? fun i=> ?_)
   by_cases il:i<S.hs.length
   ·have e1:S.hs[i]? = some S.hs[i]:=List.getElem?_eq_getElem il
    have e2:S'.hs[i]? = some (S'.hs[i]'(by omega)):=List.getElem?_eq_getElem _;have e3:cs[i]? = some (cs[i]'(by omega)):=List.getElem?_eq_getElem _;have e4:cs'[i]? = some (cs'[i]'(by omega)):=List.getElem?_eq_getElem _;obtain ⟨⟨_,_,_,p⟩,_⟩:=q i _ _ _ _ e1 e2 e3 e4;rw [e3,e4,p]
   ·rw [List.getElem?_eq_none_iff.mpr (by omega),List.getElem?_eq_none_iff.mpr (by omega)]
mutual
theorem K9:∀d e:PyData,d.canLay0=true->e.canLay0=true->PyData.eqv d e=PyData.eqv e d
 | .list l,.list m,h,h'=>by simp only [PyData.eqv];exact zQ l m (by simpa [PyData.canLay0] using h) (by simpa [PyData.canLay0] using h')
 | .tuple l,.tuple m,h,h'=>by simp only [PyData.eqv];exact zQ l m (by simpa [PyData.canLay0] using h) (by simpa [PyData.canLay0] using h')
 | .dict _,_,h,_=>by simp [PyData.canLay0] at h
 | _,.dict _,_,h=>by simp [PyData.canLay0] at h
 | .none,e,_,h=>by cases e<;>simp [PyData.eqv]
 | .bool b,e,_,h=>by cases e<;>simp [PyData.eqv,eq_comm,Bool.beq_comm]
 | .int b,e,_,h=>by cases e<;>simp [PyData.eqv,eq_comm,Bool.beq_comm]
 | .str b,e,_,h=>by cases e<;>simp [PyData.eqv,eq_comm,Bool.beq_comm]
 | .list l,.none,_,_=>by simp [PyData.eqv]
 | .list l,.bool _,_,_=>by simp [PyData.eqv]
 | .list l,.int _,_,_=>by simp [PyData.eqv]
 | .list l,.str _,_,_=>by simp [PyData.eqv]
 | .list l,.tuple _,_,_=>by simp [PyData.eqv]
 | .tuple l,.none,_,_=>by simp [PyData.eqv]
 | .tuple l,.bool _,_,_=>by simp [PyData.eqv]
 | .tuple l,.int _,_,_=>by simp [PyData.eqv]
 | .tuple l,.str _,_,_=>by simp [PyData.eqv]
 | .tuple l,.list _,_,_=>by simp [PyData.eqv]
theorem zQ:∀l m:List PyData,PyData.canLayAll0 l=true->PyData.canLayAll0 m=true->PyData.eqvAll l m=PyData.eqvAll m l
 | [],[],_,_=>rfl
 | [],_::_,_,_=>by simp [PyData.eqvAll]
 | _::_,[],_,_=>by simp [PyData.eqvAll]
 | a::l,b::m,h,h'=>by
   simp only [PyData.canLayAll0,Bool.and_eq_true] at h h';simp only [PyData.eqvAll];rw [K9 a b h.1 h'.1,zQ l m h.2 h'.2]
end
theorem QC {S S':jR} (g:iB S) (g':iB S') (h:∀s∈S.hs,∀r∈s.rws,o9 S.m r) (h':∀s∈S'.hs,∀r∈s.rws,o9 S'.m r):Fi S S'=Fi S' S:=by
 have c1:=tG (cs:=tE S) g h;have c2:=tG (cs:=tE S') g' h';unfold SeqAt.shaped at c1 c2;rw [Bool.and_eq_true] at c1 c2;exact K9 _ _ c1.1 c2.1
theorem Je {S:jR} (g:iB S) (h:∀s∈S.hs,∀r∈s.rws,o9 S.m r):Fi S S=true:=K_ (tG (cs:=tE S) g h)
theorem U6 {H:Hp} {a C dx:Addr} {fs:List (Str×V)} {v:V} {T:String} (ea:H a=some (.ins C dx fs)) (ty:jk K H v (.type T)):v ≠ .ref a:=fun z=>by
 subst z;generalize ht:Value.type T=t at ty;cases ty with
 | lst e=>rw [ea] at e;cases e
 | xJ e=>rw [ea] at e;cases e
 | tup e=>rw [ea] at e;cases e
 | dK e=>rw [ea] at e;cases e
 | dT e=>rw [ea] at e;cases e
 | ins e=>cases ht
theorem Ei {CW CH l a dx:Addr} {fs:List (Str×V)} {vs:List V} {H:Hp} {Q:VK} (ea:H a=some (.ins CW dx fs)) (hl:H l=some (.lst vs)) (q:Q (.bl false) H):∀rest:List V,(∀v∈rest,∃T,T∈qR/\jk K H v (.type T)/\PySem.W.kitOne K (.type T) (.ref CW)=some false)->Qz K CW (vA CW CH K) l a vs rest H Q
 | [],_=>q
 | v::rest,h=>by
   obtain ⟨T,t7,ty,ko⟩:=h v (.head _);exact .inr (.inl ⟨T,U6 ea ty,t7,ty,.inr ⟨a,v,_,rfl,ty,ko,false,rfl,fun z=>(by cases z),fun _=>⟨bC.of hl,⟨_,_,ea⟩,Ei ea hl q rest (fun v m=>h v (.tail _ m))⟩⟩⟩)
def uI (CW CH:Addr) (K:PySem.W.Frag):Sp:=fun vs H Q _=>∃(i i':Nat) (τ τ':Tg) (W W':xT) (S S':jR) (al:Bool) (p PL:Addr) (m:Int) (ls:List V),vs=[.ref W.o,.ref W'.o,.bl al,.ref p]/\j6 CW CH i τ H W S/\j6 CW CH i' τ' H W' S'/\iB S/\iB S'/\S.m<=100/\S'.m<=100/\S.ts.length<=1000/\S'.ts.length<=1000/\S.hs≠[]/\W.o≠W'.o/\Fi S S'=al/\H p=some (.tup [.int m,.ref PL])/\H PL=some (.lst ls) /\ ∀H',Same H H'->Q (.bl true) H'
theorem Ov {CW CH l:Addr} {i i':Nat} {τ τ':Tg} {W W':xT} {S S':jR} {H:Hp} {vs:List V} {al:Bool} {Q:VK} (w:j6 CW CH i τ H W S) (w':j6 CW CH i' τ' H W' S') (g:iB S) (g':iB S') (n:W'.o≠W.o) (hl:H l=some (.lst vs)) (e:Fi S' S=al) (q:∀H',Same H H'->Q (.bl al) H'):Qy K CW (vA CW CH K) l W.o vs [.ref W'.o] H Q:=
 .inr (.inr ⟨W'.o,_,_,rfl,n,w'.o,.inl ⟨i',i,τ',τ,W',W,S',S,rfl,w',w,g',g,fun H' s=>⟨Fi S' S,rfl,fun z=>by have:=q H' s;rw [←e,z] at this;exact this,fun z=>⟨bC.of (s _ _ hl),⟨_,_,(w.same s).o⟩,by have:=q H' s;rw [←e,z] at this;exact this⟩⟩⟩⟩)
theorem DN {ao aA bM:Addr} {f:Addr} {fd:FuncData} (F:iY K "_law_right" "_law_right" gZ f fd) (aN:dD K ao) (Ad:NeO K ao) (qZ:PySem.W.subIn K (.ref ao) (.type "int")=some false) (iQ:∀T∈L2.qR,PySem.W.subIn K (.ref ao) (.type T)=some false) (nQ:PySem.W.kitOne K (.type "NoneType") (.ref ao)=some false) (qP:PySem.W.kitOne K (.type "bool") (.ref ao)=some false) (nU:PySem.W.kitOne K (.type "int") (.ref ao)=some false) (nP:PySem.W.kitOne K (.type "str") (.ref ao)=some false) (nR:PySem.W.kitOne K (.type "list") (.ref ao)=some false) (nO:PySem.W.kitOne K (.type "tuple") (.ref ao)=some false) (nY:PySem.W.kitOne K (.type "dict") (.ref ao)=some false) (dW:MethAt P w K mg base 3 ao "__eq__" ["self","other"] (vA ao aA K)) (rm:MethAt P w K mg base 9 ao "twin" ["self"] (Dn ao aA K)) (mW:MethAt P w K mg base 1 ao "__len__" ["self"] (Dm ao aA K)) (jd:MethAt P w K mg base 1 ao "cells" ["self"] (uK ao aA K)) (dU:MethAt P w K mg base 1 ao "counts" ["self"] (ni ao aA K)) (xV:MethAt P w K mg base 4 ao "boxes" ["self","hand"] (fun vs H Q _=>rO aX.bs ao aA bM K vs H Q fun _ _ _=>False)) (Ah:MethAt P w K mg base 4 ao "said" ["self","hand"] (fun vs H Q _=>rO aX.sy ao aA bM K vs H Q fun _ _ _=>False)) (Bt:o8 mg):bV P w K mg base iD 10 f fd ["one","other","alike","program"] (uI ao aA K):=by
 refine F.ok rZ (fun vs H Q E h=> ?_) (fun cdv A outer s H vs Q E hr h=> ?_)
 ·obtain ⟨i,i',τ,τ',W,W',S,S',al,p,PL,m,ls,rfl,_⟩:=h
  rfl
 ·obtain ⟨i,i',τ,τ',W,W',S,S',al,p,PL,m,ls,rfl,w,w',g,g',m1,m2,t1,t2,hne,nWW,ea,ep,eL,k⟩:=h
  have wj:=hr.units
  refine ⟨_,(aC (bU (PW.pt (vL (aR qN (dY (DG dW (hr.mono (by decide))) (pv 0) (pv 1) (aV _)) (pv 2) (aV _)) (vL (aR qN (dY (DG dW (hr.mono (by decide))) (pv 1) (pv 0) (aV _)) (pv 2) (aV _)) (sE (aR qN (dY (Ru (K:=K) rfl dW qZ (hr.mono (by decide))) (pv 0) (bZ (aj (pv 1) au)) (by with_unfolding_all rfl)) (pv 2) (aV _)))))) (aH (bA nH)) bB)
   (aC (bU (PW.pt (vL (aR (Rr Ad dW (hr.mono (by decide))) (cU rm aN.cls (hr.mono (by decide)) (pv 0)) (pv 0) (aV _)) (sE (aR qN (dY (DG dW (hr.mono (by decide))) (cU rm aN.cls (hr.mono (by decide)) (pv 1)) (pv 0) (aV _)) (pv 2) (aV _))))) (aH (bA nH)) bB)
   (aC (aY (i:=4) rZ.nd rfl (Or.inl rfl) (bZ (aj aq (aj gG (aj aW (aj (bZ au) (aj JL (aj nH (aj (pv 3) (aj (aO (aU (K:=K) rfl) (pv 3) aq (fun _ _=>rfl)) (aj (bR au) (aj aW (aj (bN (yx mW (hr.mono (by decide))) (by rfl) Bt.gj dR (aj (pv 0) au)) (aj (bN (yx mW (hr.mono (by decide))) (by rfl) Bt.gj dR (aj (pv 1) au)) au))))))))))))))
   (aC (aY (i:=4) rZ.nd rfl (Or.inl rfl) (bJ sO (pv 4) (bZ (aj (cU jd aN.cls (hr.mono (by decide)) (pv 0)) (aj (cU dU aN.cls (hr.mono (by decide)) (pv 0)) (aj (dN xV aN.cls (hr.mono (by decide)) (pv 0) (aj aq au)) (aj (dN Ah aN.cls (hr.mono (by decide)) (pv 0) (aj aq au)) (aj (bR (aj (cU jd aN.cls (hr.mono (by decide)) (pv 0)) (aj (cU dU aN.cls (hr.mono (by decide)) (pv 0)) au))) au))))))))
   (aH (bA (sJ (dY (yd (K:=K) rfl dW iQ (hr.mono (by decide))) (pv 0) (pv 4) (by with_unfolding_all rfl)) (sG (dY (yd (K:=K) rfl dW iQ (hr.mono (by decide))) (pv 1) (pv 4) (by with_unfolding_all rfl)))))))))), ?_⟩
  have zl:=sizeLine_eq;have eb:Fi S' S=al:=by rw [←ea];exact QC g' g w'.pF w.pF
  have ZX:∀b:Bool,(!decide (V.bl b=V.bl b))=false:=fun b=>by simp
  refine ⟨_,rfl,_,rfl,W.o,W'.o,_,_,_,_,rfl,rfl,w.o,w'.o,.inl ⟨i,i',τ,τ',W,W',S,S',rfl,w,w',g,g',fun H1 s1=>⟨_,rfl, ?_⟩⟩⟩;rw [ea];refine ⟨_,rfl,rfl,_,rfl, ?_⟩;rw [ZX];refine fM ?_;have w1:=w.same s1;have v1:=w'.same s1;refine ⟨_,rfl,_,rfl,W'.o,W.o,_,_,_,_,rfl,rfl,v1.o,w1.o,.inl ⟨i',i,τ',τ,W',W,S',S,rfl,v1,w1,g',g,fun H2 s2=>⟨_,rfl, ?_⟩⟩⟩;rw [eb];refine ⟨_,rfl,rfl,_,rfl, ?_⟩;rw [ZX];refine fM ?_;have S2:=s1.trans s2;clear w1 v1 s1 s2;refine ⟨_,rfl,_,rfl,(by show 1<=sizeLine;decide),fun l hl=> ?_⟩;have sl:=aF (o:=HO.lst [V.ref W'.o]) hl;have w3:=(w.same S2).same sl;have v3:=(w'.same S2).same sl;refine ⟨W.o,l,_,_,_,rfl,rfl,w3.o,bC.of ak,Ov w3 v3 g g' (Ne.symm nWW) ak eb (fun H3 s3=> ?_)⟩;refine ⟨_,rfl,rfl,_,rfl, ?_⟩;rw [ZX];refine fM ?_;have S3:=S2.trans (sl.trans s3);clear w3 v3 S2 sl s3 hl l;have w3:=w.same S3;have v3:=w'.same S3;refine ⟨_,rfl,W.o,W.dx,_,rfl,w3.o,rfl,i,1,τ,W,S,rfl,w3,g,m1,by decide,fun τ4 W4 H4 w4 _ s4=> ?_⟩;have w34:=w3.same s4;refine ⟨_,rfl,W4.o,W.o,_,_,_,_,rfl,rfl,w4.o,w34.o,.inl ⟨1,i,τ4,τ,W4,W,S,S,rfl,w4,w34,g,g,fun H5 s5=>⟨_,rfl, ?_⟩⟩⟩;rw [Je g w.pF];refine ⟨_,rfl, ?_⟩;refine fM ?_;have S5:=S3.trans (s4.trans s5);clear w3 v3 w34 w4 s4 s5 S3;have w5:=w.same S5;have v5:=w'.same S5;refine ⟨_,rfl,W'.o,W'.dx,_,rfl,v5.o,rfl,i',1,τ',W',S',rfl,v5,g',m2,by decide,fun τ6 W6 H6 w6 _ s6=> ?_⟩;have w56:=w5.same s6;refine ⟨_,rfl,W6.o,W.o,_,_,_,_,rfl,rfl,w6.o,w56.o,.inl ⟨1,i,τ6,τ,W6,W,S',S,rfl,w6,w56,g',g,fun H7 s7=>⟨_,rfl, ?_⟩⟩⟩;rw [eb];refine ⟨_,rfl,rfl,_,rfl, ?_⟩;rw [ZX];refine fM ?_;have S7:=S5.trans (s6.trans s7);clear w5 v5 w56 w6 s6 s7 S5;refine ⟨(by show 0<=sizeLine;decide),fun a0 ha0=>fun d0 hd0=> ?_⟩;have sa:=aF (o:=HO.lst []) ha0;have sd:=aF (o:=HO.dK []) hd0;have ea0:(upd (upd H7 a0 (.lst [])) d0 (.dK [])) a0=some (.lst []):=sd _ _ ak;have ed0:(upd (upd H7 a0 (.lst [])) d0 (.dK [])) d0=some (.dK []):=ak;have S8:=S7.trans (sa.trans sd);generalize (upd (upd H7 a0 (.lst [])) d0 (.dK []))=H8 at ea0 ed0 S8 ⊢;clear sa sd ha0 hd0 S7;refine ⟨_,rfl,_,rfl,_,_,_,_,rfl,rfl,cA.of (S8 _ _ ep),rfl,(by show 0<=sizeLine;decide),fun b0 hb0=> ?_⟩;have sb:=aF (o:=HO.tup []) hb0;have ea1:=sb _ _ ea0;have ed1:=sb _ _ ed0;have eb1:(upd H8 b0 (.tup [])) b0=some (.tup []):=ak;have S9:=S8.trans sb;generalize (upd H8 b0 (.tup []))=H9 at ea1 ed1 eb1 S9 ⊢;clear ea0 ed0 S8 sb hb0;have w9:=w.same S9;have v9:=w'.same S9;refine ⟨_,rfl,W.o,_,_,rfl,w9.o,i,τ,W,S,rfl,w9,_,rfl,by omega,by omega,_,rfl,W'.o,_,_,rfl,v9.o,i',τ',W',S',rfl,v9,_,rfl,by omega,by omega,(by show 12<=sizeLine;decide),fun l hl=> ?_⟩;dsimp only [dO];have sl:=aF (o:=HO.lst [V.int 5,V.non,V.str "waits",V.ref a0,V.ref d0,V.bl true,V.ref p,V.ref PL,V.ref b0,V.str "",V.int S.ts.length,V.int S'.ts.length]) hl;have el:(upd H9 l (.lst [V.int 5,V.non,V.str "waits",V.ref a0,V.ref d0,V.bl true,V.ref p,V.ref PL,V.ref b0,V.str "",V.int S.ts.length,V.int S'.ts.length])) l=some (.lst [V.int 5,V.non,V.str "waits",V.ref a0,V.ref d0,V.bl true,V.ref p,V.ref PL,V.ref b0,V.str "",V.int S.ts.length,V.int S'.ts.length]):=ak;have wa:=w9.same sl;have ea2:=sl _ _ ea1;have ed2:=sl _ _ ed1;have eb2:=sl _ _ eb1;have Sa:=S9.trans sl;clear w9 v9 ea1 ed1 eb1 S9 hl;refine ⟨_,rfl,_,rfl,W.o,W.dx,_,rfl,wa.o,rfl,i,τ,W,S,rfl,wa,fun c1 Hb fb eb' sb=> ?_⟩;have wb:=wa.same sb;refine ⟨_,rfl,W.o,W.dx,_,rfl,wb.o,rfl,i,τ,W,S,rfl,wb,fun c2 Hc fc ec sc=> ?_⟩;have wc:=wb.same sc;have hl0:0<S.hs.length:=List.length_pos_iff.mpr hne;have inn:CT (0:Int) S.hs.length:=⟨by omega,by omega⟩;refine ⟨_,rfl,W.o,W.dx,_,rfl,wc.o,rfl,i,τ,W,S,0,rfl,wc,fun _ s1 c3 Hd _ _ fd' ed' sd=> ?_,fun z=>absurd inn z⟩;have wd:=wc.same sd;refine ⟨_,rfl,W.o,W.dx,_,rfl,wd.o,rfl,i,τ,W,S,0,rfl,wd,fun _ s2 c4 He _ _ fe ee se=> ?_,fun z=>absurd inn z⟩;have we:=wd.same se;refine ⟨_,rfl,W.o,W.dx,_,rfl,we.o,rfl,i,τ,W,S,rfl,we,fun c5 Hf ff ef sf=> ?_⟩;have wf:=we.same sf;refine ⟨_,rfl,W.o,W.dx,_,rfl,wf.o,rfl,i,τ,W,S,rfl,wf,fun c6 Hg fg eg sg=> ?_⟩;refine ⟨(by show 2<=sizeLine;decide),fun t ht=> ?_⟩;have st:=aF (o:=HO.tup [V.ref c5,V.ref c6]) ht;have et:(upd Hg t (.tup [V.ref c5,V.ref c6])) t=some (.tup [V.ref c5,V.ref c6]):=ak;have s5:=sf.trans (sg.trans st);have s4:=se.trans s5;have s3:=sd.trans s4;have s2':=sc.trans s3;have s1':=sb.trans s2';have Tj:=s2' _ _ eb';have ec3:=s3 _ _ ec;have ed3:=s4 _ _ ed';have ee3:=s5 _ _ ee;have el3:=s1' _ _ el;have ea4:=s1' _ _ ea2;have ed4:=s1' _ _ ed2;have Uz:=s1' _ _ eb2;have Sh:=Sa.trans s1';clear wa wb wc wd we wf sb sc sd se sf sg st s5 s4 s3 s2' s1' eb' ec ed' ee el ea2 ed2 eb2 Sa ht fb fc fd' fe ff fg sl ef eg inn hl0;generalize (upd Hg t (.tup [V.ref c5,V.ref c6]))=Hh at et Tj ec3 ed3 ee3 el3 ea4 ed4 Uz Sh ⊢;refine ⟨(by show 5<=sizeLine;decide),fun l2 hl2=> ?_⟩;have s2:=aF (o:=HO.lst [V.ref c1,V.ref c2,V.ref c3,V.ref c4,V.ref t]) hl2;refine ⟨l,l2,_,_,rfl,rfl,s2 _ _ el3,ak,(by show 12+5<=sizeLine;rw [zl];decide),fun l3 hl3=> ?_⟩;dsimp only [dO];have s3:=aF (o:=HO.lst ([V.int 5,V.non,V.str "waits",V.ref a0,V.ref d0,V.bl true,V.ref p,V.ref PL,V.ref b0,V.str "",V.int S.ts.length,V.int S'.ts.length]++[V.ref c1,V.ref c2,V.ref c3,V.ref c4,V.ref t])) hl3;have zm:=s2.trans s3;have W8:(upd (upd Hh l2 (.lst [V.ref c1,V.ref c2,V.ref c3,V.ref c4,V.ref t])) l3 (.lst ([V.int 5,V.non,V.str "waits",V.ref a0,V.ref d0,V.bl true,V.ref p,V.ref PL,V.ref b0,V.str "",V.int S.ts.length,V.int S'.ts.length]++[V.ref c1,V.ref c2,V.ref c3,V.ref c4,V.ref t]))) l3=some (.lst ([V.int 5,V.non,V.str "waits",V.ref a0,V.ref d0,V.bl true,V.ref p,V.ref PL,V.ref b0,V.str "",V.int S.ts.length,V.int S'.ts.length]++[V.ref c1,V.ref c2,V.ref c3,V.ref c4,V.ref t])):=ak;have f1:=zm _ _ et;have f2:=zm _ _ Tj;have f3:=zm _ _ ec3;have f4:=zm _ _ ed3;have f5:=zm _ _ ee3;have f6:=zm _ _ ea4;have f7:=zm _ _ ed4;have f8:=zm _ _ Uz;have Si:=Sh.trans zm;clear et Tj ec3 ed3 ee3 ea4 ed4 Uz Sh zm s2 s3 el3 hl2 hl3;generalize (upd (upd Hh l2 (.lst [V.ref c1,V.ref c2,V.ref c3,V.ref c4,V.ref t])) l3 (.lst ([V.int 5,V.non,V.str "waits",V.ref a0,V.ref d0,V.bl true,V.ref p,V.ref PL,V.ref b0,V.str "",V.int S.ts.length,V.int S'.ts.length]++[V.ref c1,V.ref c2,V.ref c3,V.ref c4,V.ref t])))=Hi at f1 f2 f3 f4 f5 f6 f7 f8 W8 Si ⊢;have tI:∀n:Int,∃T,T∈qR/\jk K Hi (.int n) (.type T)/\PySem.W.kitOne K (.type T) (.ref ao)=some false:=fun n=>⟨"int",by decide,.int n,nU⟩;have tS:∀x:Str,∃T,T∈qR/\jk K Hi (.str x) (.type T)/\PySem.W.kitOne K (.type T) (.ref ao)=some false:=fun n=>⟨"str",by decide,.str n,nP⟩;have tL:∀(x:Addr) (ys:List V),Hi x=some (.lst ys) -> ∃T,T∈qR/\jk K Hi (.ref x) (.type T)/\PySem.W.kitOne K (.type T) (.ref ao)=some false:=fun x ys e=>⟨"list",by decide,.lst e,nR⟩;have tT:∀(x:Addr) (ys:List V),Hi x=some (.tup ys) -> ∃T,T∈qR/\jk K Hi (.ref x) (.type T)/\PySem.W.kitOne K (.type T) (.ref ao)=some false:=fun x ys e=>⟨"tuple",by decide,.tup e,nO⟩
  have all:∀v∈([V.int 5,V.non,V.str "waits",V.ref a0,V.ref d0,V.bl true,V.ref p,V.ref PL,V.ref b0,V.str "",V.int S.ts.length,V.int S'.ts.length]++[V.ref c1,V.ref c2,V.ref c3,V.ref c4,V.ref t]),∃T,T∈qR/\jk K Hi v (.type T)/\PySem.W.kitOne K (.type T) (.ref ao)=some false:=by
   intro v mv;simp only [List.cons_append,List.nil_append,List.mem_cons,List.not_mem_nil,or_false] at mv;rcases mv with rfl|rfl|rfl|rfl|rfl|rfl|rfl|rfl|rfl|rfl|rfl|rfl|rfl|rfl|rfl|rfl|rfl
   ·exact tI _
   ·exact ⟨"NoneType",by decide,.non,nQ⟩
   ·exact tS _
   ·exact tL _ _ f6
   ·exact ⟨"dict",by decide,.dK f7,nY⟩
   ·exact ⟨"bool",by decide,.bl true,qP⟩
   ·exact tT _ _ (Si _ _ ep)
   ·exact tL _ _ (Si _ _ eL)
   ·exact tT _ _ f8
   ·exact tS _
   ·exact tI _
   ·exact tI _
   ·exact tL _ _ f2
   ·exact tL _ _ f3
   ·exact tL _ _ f4
   ·exact tL _ _ f5
   ·exact tT _ _ f1
  have wi:=w.same Si;have vi:=w'.same Si;refine ⟨_,rfl,_,rfl,W.o,l3,_,_,_,rfl,rfl,wi.o,bC.of W8,Ei wi.o W8 ⟨false,rfl, ?_⟩ _ all⟩;refine ⟨_,rfl,iR ?_⟩;refine ⟨_,rfl,_,rfl,W'.o,l3,_,_,_,rfl,rfl,vi.o,bC.of W8,Ei vi.o W8 ⟨false,rfl, ?_⟩ _ all⟩;exact k Hi Si
def Fl (τ:Tg) (H H':Hp):Tg:=fun x=>match H x with
 | some _=>τ x
 | none=>match H' x with
   | some _=>[0]
   | none=>τ x
theorem oN {τ:Tg} {H H':Hp} {x:Addr} {o:HO} (e:H x=some o):Fl τ H H' x=τ x:=by unfold Fl;rw [e]
theorem qC {τ:Tg} {H H':Hp} {x:Addr} {o:HO} (n:H x=none) (e:H' x=some o):Fl τ H H' x=[0]:=by unfold Fl;rw [n];simp only [e]
theorem Jm {τ:Tg} {H H':Hp} (k:Same H H') (u:oF τ H):oF (Fl τ H H') H':=fun x e=>by
 have n:=k.free e;unfold Fl;rw [n];simp only [e];exact u x n
theorem G6 {m m':Nat} (h:m<=m'):∀x:Rw,o9 m x->o9 m' x
 | .load _ _,⟨a,b⟩=>⟨a,by omega⟩
 | .store _ _,⟨a,b⟩=>⟨by omega,b⟩
 | .swap _ _ _,⟨a,b,c⟩=>⟨a,by omega,c⟩
 | .o_ _ _,h=>h
 | .say _,h=>h
 | .go _,h=>h
 | .mX _ _ _ _,h=>h
theorem wG {H:Hp}:∀{vs:List V} {ds:List PyData} {v:V} {d:PyData} (i:Nat),bf H vs ds->Dat H v d->bf H (vs.set i v) (ds.set i d)
 | [],[],_,_,_,h,_=>by simpa using h
 | _::_,_::_,_,_,0,h,g=>by simp only [bf,List.set_cons_zero] at h ⊢;exact ⟨g,h.2⟩
 | _::_,_::_,_,_,i+1,h,g=>by simp only [bf,List.set_cons_succ] at h ⊢;exact ⟨h.1,wG i h.2 g⟩
 | [],_::_,_,_,_,h,_=>by simp only [bf] at h
 | _::_,[],_,_,_,h,_=>by simp only [bf] at h
structure CV (H H':Hp) (D:Addr) (qs:List Addr) (rws:List (List Rw)) (m:Nat):Prop where
 sm:Same H H'
 fD:H D=none
 eD:H' D=some (.lst (qs.map V.ref))
 nd:qs.Nodup
 ln:qs.length=rws.length
 fr:∀q∈qs,q≠D/\H q=none
 rw':∀(kk:Nat) (q:Addr) (x:List Rw),qs[kk]? = some q->rws[kk]? = some x->cJ H' q m x
theorem CV.more {H H':Hp} {D:Addr} {qs:List Addr} {rws:List (List Rw)} {m m':Nat} (h:CV H H' D qs rws m) (l:m<=m'):CV H H' D qs rws m':=
 ⟨h.sm,h.fD,h.eD,h.nd,h.ln,h.fr,fun kk q x h1 h2=>by
   obtain ⟨ts,e,d,o,ll⟩:=h.rw' kk q x h1 h2;exact ⟨ts,e,d,fun y hy=>G6 l y (o y hy),ll⟩⟩
theorem CV.put {H H':Hp} {D:Addr} {qs:List Addr} {rws:List (List Rw)} {m k:Nat} {q:Addr} {ts:List V} {x:List Rw} (h:CV H H' D qs rws m) (e:qs[k]? = some q) (d:bf H' ts (x.map gD)) (o:∀y∈x,o9 m y) (l:x.length<=1000):CV H (upd H' q (.lst ts)) D qs (rws.set k x) m:=by
 obtain ⟨Mh,fq⟩:=h.fr q (List.mem_of_getElem? e);have kl:=(List.getElem?_eq_some_iff.mp e).1;obtain ⟨us,eu,_⟩:=h.rw' k q _ e (List.getElem?_eq_getElem (by have:=h.ln;omega))
 have tups:∀y ys,H' y=some (.tup ys)->(upd H' q (.lst ts)) y=some (.tup ys):=fun y ys z=>by
  rw [aG (cj z eu (by intro z;cases z))];exact z
 refine ⟨fun y u z=>by rw [aG (aB z fq)];exact h.sm _ _ z,h.fD,by rw [aG Mh.symm];exact h.eD,h.nd,by rw [List.length_set];exact h.ln,h.fr,fun kk q' x' h1 h2=> ?_⟩;rw [List.getElem?_set] at h2
 by_cases z:k=kk
 ·subst z
  rw [e] at h1;cases h1;rw [if_pos rfl,if_pos (by have:=h.ln;omega)] at h2;cases h2;exact ⟨ts,ak,d.keep tups _ (nZ _),o,l⟩
 ·rw [if_neg z] at h2
  have ne:q'≠q:=fun w=>by
   subst w;have k':=(List.getElem?_eq_some_iff.mp h1).1;rw [List.getElem?_eq_getElem kl] at e;rw [List.getElem?_eq_getElem k'] at h1;have eq:=(Option.some.inj e).trans (Option.some.inj h1).symm;have pw:=List.pairwise_iff_getElem.mp h.nd;rcases Nat.lt_or_gt_of_ne z with y|y
   ·exact pw k kk kl k' y eq
   ·exact pw kk k k' kl y eq.symm
  exact (h.rw' kk q' x' h1 h2).keep (fun u w=>by rw [aG ne];exact w) tups
theorem CV.add {H H':Hp} {D q:Addr} {qs:List Addr} {rws:List (List Rw)} {m:Nat} (h:CV H H' D qs rws m) (hq:H' q=none):CV H (upd (upd H' q (.lst [])) D (.lst (qs.map V.ref++[V.ref q]))) D (qs++[q]) (rws++[[]]) m:=by
 have sr:=aF (o:=HO.lst []) hq;have Mh:q≠D:=(aB h.eD hq).symm
 have tups:∀y ys,H' y=some (.tup ys)->(upd (upd H' q (.lst [])) D (.lst (qs.map V.ref++[V.ref q]))) y=some (.tup ys):=fun y ys e=>by
  rw [aG (cj e h.eD (by intro z;cases z))];exact sr _ _ e
 refine ⟨fun y u z=>by rw [aG (aB z h.fD)];exact sr _ _ (h.sm _ _ z),h.fD,by rw [ak,List.map_append];rfl, ?_,by rw [List.length_append,List.length_append,h.ln];rfl,fun x mx=> ?_,fun kk q' x' h1 h2=> ?_⟩
 ·refine List.nodup_append.mpr ⟨h.nd,List.pairwise_singleton _ _,fun x mx y my=> ?_⟩
  rw [List.mem_singleton.mp my];obtain ⟨kk,ek⟩:=List.getElem?_of_mem mx;have kl:=(List.getElem?_eq_some_iff.mp ek).1;obtain ⟨us,eu,_⟩:=h.rw' kk x _ ek (List.getElem?_eq_getElem (by have:=h.ln;omega));exact aB eu hq
 ·rcases List.mem_append.mp mx with mx|mx
  ·exact h.fr x mx
  ·rw [List.mem_singleton.mp mx]
   exact ⟨Mh,h.sm.free hq⟩
 ·rcases iw h1 with h1|⟨e1,rfl⟩
  ·have kl:=(List.getElem?_eq_some_iff.mp h1).1
   rw [List.getElem?_append_left (by have:=h.ln;omega)] at h2;exact (h.rw' kk q' x' h1 h2).keep (fun u e=>by rw [aG (h.fr q' (List.mem_of_getElem? h1)).1];exact sr _ _ e) tups
  ·rw [e1,h.ln,List.getElem?_append_right (Nat.le_refl _),Nat.sub_self] at h2
   cases h2;exact ⟨[],by rw [aG Mh,ak],trivial,by simp,by simp⟩
structure GL (τ:Tg) (H:Hp) (L:Addr) (rs:List Addr) (rws:List (List Rw)) (m:Nat):Prop where
 eL:H L=some (.lst (rs.map V.ref))
 tL:τ L=[0]
 len:rs.length=rws.length
 row:∀(k:Nat) (r:Addr) (x:List Rw),rs[k]? = some r->rws[k]? = some x->τ r=[0]/\cJ H r m x
theorem GL.mv {i:Nat} {τ τ':Tg} {H H':Hp} {L:Addr} {rs:List Addr} {rws:List (List Rw)} {m:Nat} (g:GL τ H L rs rws m) (q:Mv i τ H τ' H'):GL τ' H' L rs rws m:=by
 have e:=q.keep _ _ g.eL (.inl g.tL);exact ⟨e.1,e.2.trans g.tL,g.len,fun k r x h1 h2=>uM (g.row k r x h1 h2) q⟩
theorem CV.gl {τ:Tg} {H H':Hp} {D:Addr} {qs:List Addr} {rws:List (List Rw)} {m:Nat} (h:CV H H' D qs rws m):GL (Fl τ H H') H' D qs rws m:=
 ⟨h.eD,qC h.fD h.eD,h.ln,fun k q x h1 h2=>by
   have R:=h.rw' k q x h1 h2;obtain ⟨ts,e,_⟩:=id R;exact ⟨qC (h.fr q (List.mem_of_getElem? h1)).2 e,R⟩⟩
theorem RT.Bj {τ:Tg} {H:Hp} {r c:Addr} {t:List Nat} (h:RT τ H r) (tc:τ c≠[]):RT (aQ τ c t) H r:=by
 refine ⟨h.R,fun x o e n=> ?_,fun x e=> ?_⟩
 ·by_cases z:x=c
  ·subst z;exact h.off x o e tc
  ·rw [aP z] at n;exact h.off x o e n
 ·by_cases z:x=c
  ·subst z;exact absurd (h.un x e) tc
  ·rw [aP z];exact h.un x e
theorem Mv.Bj {i j:Nat} {τ:Tg} {H:Hp} {c:Addr} {s t:List Nat} (tc:τ c=j::s) (n:j≠i) (n0:j≠0):Mv i τ H (aQ τ c t) H:=⟨fun x o e q=>⟨e,aP (fun z=>by
 rw [z,tc] at q;rcases q with q|q
 ·exact n0 (List.cons.inj q).1
 ·exact n (Option.some.inj q))⟩,fun x xs e=>e⟩
def rP (K:PySem.W.Frag):Sp:=fun vs H Q _=>∃(r p L:Addr) (v:V) (τ:Tg) (rs:List Addr) (rws:List (List Rw)) (m:Nat) (ns:List Int),vs=[.ref r,.ref p,v]/\RT τ H r/\Pg τ H p L rs rws m/\NumV τ H v ns m/\(∀x u,H x=some u->τ x≠[9])/\0<rws.length/\rws.length<=8/\0<m/\m<=20/\(∀x∈rws,x.length<=60) /\
 ∀(t p' L':Addr) (v':V) (rs':List Addr) (k_:List (List Rw)) (m':Nat) (ns':List Int) (τ':Tg) (H':Hp),H' t=some (.tup [.ref p',v'])->Pg τ' H' p' L' rs' k_ m'->NumV τ' H' v' ns' m'->k_.length<=9->m'<=21->RT τ' H' r->(∀x u,H x=some u->τ' x=τ x)->Kp r H H'->Q (.ref t) H'
theorem DQ {f:Addr} {fd:FuncData} (F:iY K "_law_changed" "_law_changed" fL f fd) (bL:FnAt P w K mg base 1 "_law_draw" ["reel","many"] (gR K)) (EY:FnAt P w K mg base 4 "_law_row" ["reel","sizes","at"] (Ft K)) (Bt:o8 mg):bV P w K mg base iD 5 f fd ["reel","program","numbers"] (rP K):=by
 refine F.ok cV (fun vs H Q E h=> ?_) (fun cdv A outer s H vs Q E hr h=> ?_)
 ·obtain ⟨r,p,L,v,τ,rs,rws,m,ns,rfl,_⟩:=h
  rfl
 ·obtain ⟨r,p,L,v,τ,rs,rws,m,ns,rfl,T,g,nv,hnc,w0,w8,m0,Oo,Qk,k⟩:=h
  refine ⟨_,(aC (aY (i:=3) cV.nd rfl (Or.inl rfl) (bD bL (hr.mono (by decide)) (by rfl) (aj (pv 0) (aj aq au))))
   (aC (dz (pv 1) (jB (K:=K) (n:=2) rfl rfl (cL (bG (i:=4) cV.nd rfl (Or.inl rfl)) (cL (bG (i:=5) cV.nd rfl (Or.inl rfl)) jA))))
   (aC (aY (i:=6) cV.nd rfl (Or.inl rfl) (bD bL (hr.mono (by decide)) (by rfl) (aj (pv 0) (aj (bN (bF (K:=K) rfl) (by rfl) Bt.gj dR (aj (pv 5) au)) au))))
   (aC (aY (i:=7) cV.nd rfl (Or.inl rfl) (bD bL (hr.mono (by decide)) (by rfl) (aj (pv 0) (aj (bN (yw rfl) (by rfl) Bt.Qt Lr (aj aq (aj (bN (bF (K:=K) rfl) (by rfl) Bt.gj dR (aj (aO (aL (K:=K) rfl) (pv 5) (pv 6) (fun _ _=>rfl)) au)) au))) au))))
   (aC (aY (i:=8) cV.nd rfl (Or.inl rfl) (bD EY (hr.mono (by decide)) (by rfl) (aj (pv 0) (aj (bZ (aj (bN (bF (K:=K) rfl) (by rfl) Bt.gj dR (aj (aO (aL (K:=K) rfl) (pv 5) (pv 6) (fun _ _=>rfl)) au)) (aj (pv 4) (aj aq au)))) (aj (pv 7) au)))))
   (aC (qL (i:=9) rfl cV.nd rfl (Or.inl rfl) (N:=["rows"]) (own:=["rows"]) (caps:=[]) (bK.of (by kernel_rfl)) (dB (K:=K) rfl (pv 5)) (fun _ _ _ _=>(bG (i:=0) (show List.Nodup (["rows"]:List Str) by decide +kernel) rfl (Or.inl rfl))) (fun _ _ _ _=>eU) (fun _ _ _ _=>(b_ (bQ (K:=K) rfl) (by rfl) Bt.fZ eO (aj (pv 0) au))))
   (aC (bU (PW.pt (jJ (aR cT (pv 3) aq (aV _)) (iZ (aR JN (bN (bF (K:=K) rfl) (by rfl) Bt.gj dR (aj (aO (aL (K:=K) rfl) (pv 9) (pv 6) (fun _ _=>rfl)) au)) aq (aV _))))) (aH (dz (pv 8) (fX (aO (aL (K:=K) rfl) (pv 9) (pv 6) (fun _ _=>rfl)) (pv 7) set_list))) bB)
   (aC (bU (PW.pt (jJ (aR cT (pv 3) aq (aV _)) (iZ (aR iG (bN (bF (K:=K) rfl) (by rfl) Bt.gj dR (aj (aO (aL (K:=K) rfl) (pv 9) (pv 6) (fun _ _=>rfl)) au)) aq (aV _))))) (aH (dh (gP (K:=K) rfl (aO (aL (K:=K) rfl) (pv 9) (pv 6) (fun _ _=>rfl)) (aj (pv 8) au)))) bB)
   (aC (bU (PW.pt (jJ (aR cT (pv 3) aq (aV _)) (iZ (aR iG (pv 4) aq (aV _))))) (aH (aY (i:=4) cV.nd rfl (Or.inl rfl) (bJ dM (pv 4) aq))) bB)
   (aC (bU (PW.pt (jJ (aR cT (pv 3) aq (aV _)) (iZ (aR iG (bN (bF (K:=K) rfl) (by rfl) Bt.gj dR (aj (pv 9) au)) aq (aV _))))) (aH (dh (gP (K:=K) rfl (pv 9) (aj (bZ au) au)))) bB)
   (aC (aY (i:=10) cV.nd rfl (Or.inl rfl) (pv 2))
   (aC (bU (aR uN (pv 2) gG (aV _)) (aC (aY (i:=10) cV.nd rfl (Or.inl rfl) (bJ sO (pv 2) (bJ vQ (bZ (aj aq au)) (bJ mH (pv 4) (bN (bF (K:=K) rfl) (by rfl) Bt.gj dR (aj (pv 2) au))))))
   (aH (bU (aR cT (pv 3) aq (aV _)) (aH (dz (bD bL (hr.mono (by decide)) (by rfl) (aj (pv 0) (aj aq au))) (fX (pv 10) (bD bL (hr.mono (by decide)) (by rfl) (aj (pv 0) (aj (pv 4) au))) set_list))) bB))) (aH (bU (aR cT (pv 3) aq (aV _)) (aH (aY (i:=10) cV.nd rfl (Or.inl rfl) (bJ vQ (bZ (aj aq au)) (pv 4)))) bB)))
   (aH (bA (bR (aj (bR (aj (pv 4) (aj (pv 9) au))) (aj (pv 10) au))))))))))))))))), ?_⟩
  have zl:=sizeLine_eq;have rsl:(rs.map V.ref).length=rws.length:=by rw [List.length_map,g.len]
  refine ⟨_,rfl,r,12,rfl,T.R,by decide,by decide,fun ch H1 c0 c1 R1 k1=> ?_⟩;have T1:=T.draw k1 R1;have g1:=g.mv (T.kr (i:=0) k1);have V0:=nv.mv (T.kr (i:=0) k1);refine ⟨_,rfl,p,_,rfl,cA.of g1.ep,rfl,_,_,rfl,_,_,rfl,rfl, ?_⟩;refine ⟨_,rfl,_,rfl,L,_,rfl,.inl (bC.of g1.eL), ?_⟩;rw [rsl];refine ⟨r,_,rfl,R1,by omega,by omega,fun kk H2 kk0 kk1 R2 k2=> ?_⟩;obtain ⟨kk,rfl⟩:=Int.eq_ofNat_of_zero_le kk0;have kkl:kk<rws.length:=by omega
  have T2:=T1.draw k2 R2;have g2:=g1.mv (T1.kr (i:=0) k2);have VR:=V0.mv (T1.kr (i:=0) k2);obtain ⟨r0,K8⟩:∃r0,rs[kk]? = some r0:=⟨_,List.getElem?_eq_getElem (by rw [g.len];exact kkl)⟩;obtain ⟨x0,ex0⟩:∃x0,rws[kk]? = some x0:=⟨_,List.getElem?_eq_getElem kkl⟩;have x60:=Qk x0 (List.mem_of_getElem? ex0);have eV:(rs.map V.ref)[kk]? = some (.ref r0):=by rw [List.getElem?_map,K8];rfl
  obtain ⟨t0,CJ,et2,dt2,ro2,rl2⟩:=g2.row kk r0 x0 K8 ex0;have Mt:CJ.length=x0.length:=by have:=dt2.length;rw [List.length_map] at this;exact this
  refine ⟨_,rfl,_,rfl,_,rfl,_,_,_,_,rfl,rfl,bC.of g2.eL,cg eV,r0,_,rfl,.inl (bC.of et2),_,_,rfl, ?_⟩;have mx0:0<(if (CJ.length:Int)>1 then (CJ.length:Int) else 1):=by split<;>omega
  have mx1:(if (CJ.length:Int)>1 then (CJ.length:Int) else 1)<=60:=by split<;>omega
  have mx2:(if (CJ.length:Int)>1 then (CJ.length:Int) else 1)=1\/(if (CJ.length:Int)>1 then (CJ.length:Int) else 1)=x0.length:=by split<;>omega
  generalize (if (CJ.length:Int)>1 then (CJ.length:Int) else 1)=mx at mx0 mx1 mx2 ⊢;refine ⟨r,mx,rfl,R2,by omega,by omega,fun pl H3 pl0 pl1 R3 k3=> ?_⟩;obtain ⟨pl,rfl⟩:=Int.eq_ofNat_of_zero_le pl0;have T3:=T2.draw k3 R3;have g3:=g2.mv (T2.kr (i:=0) k3);have nv3:=VR.mv (T2.kr (i:=0) k3);have et3:=T2.keep k3 et2 (by rw [t0];simp);dsimp only [dO];refine ⟨_,rfl,_,rfl,_,rfl,_,_,_,_,rfl,rfl,bC.of g3.eL,cg eV,r0,_,rfl,.inl (bC.of et3),_,rfl,(by show 3<=sizeLine;decide),fun z hz=> ?_⟩;have sz:=aF (o:=HO.lst [V.int CJ.length,V.int m,V.int 8]) hz;have Mg:z≠r:=R3.ne hz;have Tz:=T3.same sz;have gz:=g3.same sz;have nvz:=nv3.mv (Mv.of_same (i:=0) sz);have ez:(upd H3 z (.lst [V.int CJ.length,V.int m,V.int 8])) z=some (.lst [V.int CJ.length,V.int m,V.int 8]):=ak;have kpz:Kp r H (upd H3 z (.lst [V.int CJ.length,V.int m,V.int 8])):=((k1.1.trans k2.1).trans k3.1).trans (Kp.of_same sz);generalize (upd H3 z (.lst [V.int CJ.length,V.int m,V.int 8]))=Hz at Tz gz nvz ez kpz ⊢;clear sz hz T3 g3 nv3 et3 k3 R3 T2 g2 VR et2 dt2 k2 R2 T1 g1 V0 k1 R1;refine ⟨_,rfl,r,z,_,8,m,pl,rfl,Tz.R,ez,Mg,by omega,by omega,m0,Oo,by decide,by decide,fun rv x H4 dx xok R4 k4=> ?_⟩;have T4:=Tz.draw k4 R4;have g4:=gz.mv (Tz.kr (i:=0) k4);have VP:=nvz.mv (Tz.kr (i:=0) k4);have yp:=kpz.trans k4.1;clear kpz nvz gz ez k4 Tz;refine ⟨_,rfl,L,rfl,⟨_,bC.of g4.eL⟩,fun D hD=> ?_⟩;refine g4.Gw hD (by omega) (fun r ts H1 F hr kF=>⟨_,rfl,r,_,rfl,.inl (bC.of hr),fun q hq=>kF q hq⟩) (fun qs H5 s5 eD5 lq hq fq nd=> ?_);have N5:CV H4 H5 D qs rws m:=⟨s5,hD,eD5,nd,lq,fq,hq⟩;clear s5 eD5 hq fq nd;dsimp only [dO];have dxs:Dat H4 rv (gD x):=dx;refine gU (fun σ Hd=>∃k_,σ=[some (.ref r),some (.ref p),some v,some (.int ch),some (.int m),some (.ref L),some (.int kk),some (.int pl),some rv,some (.ref D),none]/\CV H4 Hd D qs k_ m/\k_.length=rws.length /\ ∀y,k_[kk]? = some y->y.length<=60) (fun D' hD' _=> ?_) ?_
  ·have stay:D'.nx [some (.ref r),some (.ref p),some v,some (.int ch),some (.int m),some (.ref L),some (.int kk),some (.int pl),some rv,some (.ref D),none] H5:=hD' _ _ ⟨rws,rfl,N5,rfl,fun y ey=>Qk y (List.mem_of_getElem? ey)⟩
   refine ⟨_,rfl,rfl,_,rfl, ?_⟩;refine bH (fun _=> ?_) (fun _=>fM stay);obtain ⟨q,eq⟩:∃q,qs[kk]? = some q:=⟨_,List.getElem?_eq_getElem (by omega)⟩;have eQ:(qs.map V.ref)[kk]? = some (.ref q):=by rw [List.getElem?_map,eq];rfl
   obtain ⟨us,eu,du,ou,lu⟩:=N5.rw' kk q x0 eq ex0;have ul:us.length=x0.length:=by have:=du.length;rw [List.length_map] at this;exact this
   refine ⟨_,rfl,_,rfl,_,_,_,_,rfl,rfl,bC.of N5.eD,cg eQ,q,_,rfl,.inl (bC.of eu),_,_,rfl,rfl,_,rfl, ?_⟩;refine bH (fun z=> ?_) (fun _=>stay);have z:(us.length:Int)>0:=of_decide_eq_true z;have pll:pl<us.length:=by omega
   refine ⟨_,rfl,_,rfl,_,rfl,_,_,_,_,rfl,rfl,bC.of N5.eD,cg eQ,_,rfl,q,us,pl,pl,rfl,rfl,eu,(by rw [Gg (by omega) (by omega)];rfl), ?_⟩;have dd:=wG (v:=rv) (d:=gD x) pl du (dxs.same N5.sm);rw [←List.map_set] at dd;refine hD' _ _ ⟨rws.set kk (x0.set pl x),rfl,N5.put eq dd (fun y hy=> ?_) (by rw [List.length_set];omega),by rw [List.length_set],fun y ey=> ?_⟩
   ·rcases List.mem_or_eq_of_mem_set hy with hy|rfl
    ·exact ou y hy
    ·exact xok
   ·rw [List.getElem?_set,if_pos rfl,if_pos kkl] at ey
    cases ey;rw [List.length_set];exact x60
  clear N5 lq;rintro σ H6 ⟨Q_,rfl,N6,lr1,r60⟩;refine gU (fun σ Hd=>∃k_,σ=[some (.ref r),some (.ref p),some v,some (.int ch),some (.int m),some (.ref L),some (.int kk),some (.int pl),some rv,some (.ref D),none]/\CV H4 Hd D qs k_ m/\k_.length=rws.length) (fun D' hD' _=> ?_) ?_
  ·have stay:D'.nx [some (.ref r),some (.ref p),some v,some (.int ch),some (.int m),some (.ref L),some (.int kk),some (.int pl),some rv,some (.ref D),none] H6:=hD' _ _ ⟨Q_,rfl,N6,lr1⟩
   refine ⟨_,rfl,rfl,_,rfl, ?_⟩;refine bH (fun _=> ?_) (fun _=>fM stay);obtain ⟨q,eq⟩:∃q,qs[kk]? = some q:=⟨_,List.getElem?_eq_getElem (by have:=N6.ln;omega)⟩;obtain ⟨y0,ey0⟩:∃y0,Q_[kk]? = some y0:=⟨_,List.getElem?_eq_getElem (by omega)⟩;have y60:=r60 y0 ey0;have eQ:(qs.map V.ref)[kk]? = some (.ref q):=by rw [List.getElem?_map,eq];rfl
   obtain ⟨us,eu,du,ou,lu⟩:=N6.rw' kk q y0 eq ey0;have ul:us.length=y0.length:=by have:=du.length;rw [List.length_map] at this;exact this
   refine ⟨_,rfl,_,rfl,_,_,_,_,rfl,rfl,bC.of N6.eD,cg eQ,q,_,rfl,.inl (bC.of eu),_,_,rfl,rfl,_,rfl, ?_⟩;refine bH (fun z=> ?_) (fun _=>stay);refine ⟨_,rfl,_,rfl,_,_,_,_,rfl,rfl,bC.of N6.eD,cg eQ,.inl ⟨rfl,_,bC.of eu⟩,_,rfl,q,us,rv,rfl,rfl,eu,by omega, ?_⟩;have dd:=sY (v:=rv) (d:=gD x) du (dxs.same N6.sm);rw [show y0.map gD++[gD x]=(y0++[x]).map gD by rw [List.map_append];rfl] at dd;refine hD' _ _ ⟨Q_.set kk (y0++[x]),rfl,N6.put eq dd (fun y hy=> ?_) (by rw [List.length_append];show y0.length+1<=1000;omega),by rw [List.length_set];exact lr1⟩;rcases List.mem_append.mp hy with hy|hy
   ·exact ou y hy
   ·rw [List.mem_singleton.mp hy]
    exact xok
  clear N6 r60 lr1;rintro σ H7 ⟨Q9,rfl,N7,lr2⟩;refine gU (fun σ Hd=>∃m':Nat,σ=[some (.ref r),some (.ref p),some v,some (.int ch),some (.int m'),some (.ref L),some (.int kk),some (.int pl),some rv,some (.ref D),none]/\CV H4 Hd D qs Q9 m'/\m<=m'/\m'<=20) (fun D' hD' _=> ?_) ?_
  ·have stay:D'.nx [some (.ref r),some (.ref p),some v,some (.int ch),some (.int m),some (.ref L),some (.int kk),some (.int pl),some rv,some (.ref D),none] H7:=hD' _ _ ⟨m,rfl,N7,Nat.le_refl _,Oo⟩
   refine ⟨_,rfl,rfl,_,rfl, ?_⟩;refine bH (fun _=> ?_) (fun _=>fM stay);refine ⟨_,rfl,_,_,rfl,rfl,_,rfl, ?_⟩;refine bH (fun z=> ?_) (fun _=>stay);have z:(m:Int)<20:=of_decide_eq_true z;refine ⟨_,rfl,_,_,rfl,rfl, ?_⟩;exact hD' _ _ ⟨m+1,rfl,N7.more (Nat.le_succ _),Nat.le_succ _,by omega⟩
  clear N7;rintro σ H8 ⟨m',rfl,N8,mm,alX⟩;refine gU (fun σ Hd=>∃(Vy:List Addr) (k_:List (List Rw)),σ=[some (.ref r),some (.ref p),some v,some (.int ch),some (.int m'),some (.ref L),some (.int kk),some (.int pl),some rv,some (.ref D),none]/\CV H4 Hd D Vy k_ m'/\k_.length<=9) (fun D' hD' _=> ?_) ?_
  ·have stay:D'.nx [some (.ref r),some (.ref p),some v,some (.int ch),some (.int m'),some (.ref L),some (.int kk),some (.int pl),some rv,some (.ref D),none] H8:=hD' _ _ ⟨qs,Q9,rfl,N8,by omega⟩
   refine ⟨_,rfl,rfl,_,rfl, ?_⟩;refine bH (fun _=> ?_) (fun _=>fM stay);refine ⟨_,rfl,D,_,rfl,.inl (bC.of N8.eD),_,_,rfl,rfl,_,rfl, ?_⟩;refine bH (fun z=> ?_) (fun _=>stay);refine ⟨_,rfl,.inl ⟨rfl,_,bC.of N8.eD⟩,(by show 0<=sizeLine;decide),fun q hq=> ?_⟩;refine ⟨D,_,_,rfl,rfl,(aF hq) _ _ N8.eD,(by rw [List.length_map,N8.ln];omega), ?_⟩;exact hD' _ _ ⟨_,_,rfl,N8.add hq,by rw [List.length_append];show Q9.length+1<=9;omega⟩
  clear N8 lr2;rintro σ H9 ⟨Vy,k_,rfl,N9,l9⟩;refine ⟨_,rfl, ?_⟩;dsimp only [dO]
  have old:∀x u,H x=some u -> ∃o,H4 x=some o:=fun x u e=>by
   by_cases z:x=r
   ·subst z;exact T4.R.at
   ·exact ⟨_,yp _ _ e z⟩
  have Yx:∀x u,H x=some u->Fl τ H4 H9 x=τ x:=fun x u e=>by
   obtain ⟨o,e'⟩:=old x u e;exact oN e'
  have T9:RT (Fl τ H4 H9) H9 r:=T4.made N9.sm (fun x u e=>oN e) (Jm N9.sm T4.un);have g9:GL (Fl τ H4 H9) H9 D Vy k_ m':=N9.gl;have nv9:NumV (Fl τ H4 H9) H9 v ns m:=VP.mv (Mv.tags (i:=0) N9.sm (fun x u e=>oN e));have Wa:Kp r H H9:=yp.trans (Kp.of_same N9.sm);generalize Fl τ H4 H9=τ9 at Yx T9 g9 nv9;clear N9 old VP g4 T4 dxs dx yp;refine gU (fun σ Hd=>∃(v':V) (ns':List Int) (τ':Tg),σ=[some (.ref r),some (.ref p),some v,some (.int ch),some (.int m'),some (.ref L),some (.int kk),some (.int pl),some rv,some (.ref D),some v']/\RT τ' Hd r/\GL τ' Hd D Vy k_ m'/\NumV τ' Hd v' ns' m'/\(∀x u,H x=some u->τ' x=τ x)/\Kp r H Hd) (fun D' hD' _=> ?_) ?_
  ·refine ⟨_,rfl,rfl,_,rfl, ?_⟩
   obtain ⟨ok9,⟨rfl,ens⟩|⟨l,rfl,tl,el⟩⟩:=nv9
   ·refine fM ?_
    refine ⟨_,rfl,rfl,_,rfl, ?_⟩;refine bH (fun _=> ?_) (fun _=> ?_)
    ·refine ⟨(by show 1<=sizeLine;decide),fun a ha=> ?_⟩
     have sa:=aF (o:=HO.lst [V.int 0]) ha;refine ⟨_,rfl,a,m',_,rfl,rfl,ak,by omega,by omega,by rw [Int.toNat_natCast,zl];show 1*m'<=_;omega,fun b hb=> ?_⟩;rw [Int.toNat_natCast,rep0];have sb:=aF (o:=HO.lst ((List.replicate m' (0:Int)).map V.int)) hb;have Ta:=T9.same sa;have Tb:=Ta.claim (t:=[0]) sb hb ⟨_,ak⟩;have mvb:Mv 0 τ9 (upd H9 a (.lst [V.int 0])) (aQ τ9 b [0]) (upd (upd H9 a (.lst [V.int 0])) b (.lst ((List.replicate m' (0:Int)).map V.int))):=Mv.claim sb hb;refine hD' _ _ ⟨.ref b,List.replicate m' 0,aQ τ9 b [0],rfl,Tb,(g9.mv (Mv.of_same (i:=0) sa)).mv mvb,⟨DY m',.inr ⟨b,rfl,bw,ak⟩⟩,fun x u e=> ?_,(Wa.trans (Kp.of_same sa)).trans (Kp.of_same sb)⟩
     have:∃o,(upd H9 a (.lst [V.int 0])) x=some o:=by
      by_cases z:x=r
      ·subst z;exact Ta.R.at
      ·exact ⟨_,sa _ _ (Wa _ _ e z)⟩
     obtain ⟨o,e'⟩:=this;rw [aP (aB e' hb)];exact Yx x u e
    ·exact hD' _ _ ⟨.non,List.replicate m' 0,τ9,rfl,T9,g9,⟨DY m',.inl ⟨rfl,rfl⟩⟩,Yx,Wa⟩
   ·refine iR ?_
    have nl:ns.length=m:=by have:=ok9.1;omega
    refine ⟨_,rfl,(by show 1<=sizeLine;decide),fun a ha=> ?_⟩;have sa:=aF (o:=HO.lst [V.int 0]) ha;refine ⟨_,rfl,_,rfl,l,_,rfl,.inl (bC.of (sa _ _ el)),_,_,rfl,rfl, ?_⟩;dsimp only;rw [List.length_map,nl,show (m':Int) - (m:Int)=((m' - m:Nat):Int) by omega];refine ⟨a,_,_,rfl,rfl,ak,by omega,by omega,by rw [Int.toNat_natCast,zl];show 1*(m' - m)<=_;omega,fun b hb=> ?_⟩;rw [Int.toNat_natCast,rep0];have sb:=aF (o:=HO.lst ((List.replicate (m' - m) (0:Int)).map V.int)) hb;refine ⟨l,b,_,_,rfl,rfl,sb _ _ (sa _ _ el),ak,by rw [List.length_map,List.length_map,List.length_replicate,nl,zl];omega,fun c hc=> ?_⟩;rw [←List.map_append];have sc:=aF (o:=HO.lst ((ns++List.replicate (m' - m) (0:Int)).map V.int)) hc;have YL:=sa.trans sb;have Tb:=T9.same YL;have Tc:=Tb.claim (t:=[9]) sc hc ⟨_,ak⟩;have gc:=(g9.mv (Mv.of_same (i:=0) YL)).mv (Mv.claim (i:=0) (t:=[9]) sc hc);have Jp:aQ τ9 c [9] c=[9]:=bw;have kpc:Kp r H (upd (upd (upd H9 a (.lst [V.int 0])) b (.lst ((List.replicate (m' - m) (0:Int)).map V.int))) c (.lst ((ns++List.replicate (m' - m) (0:Int)).map V.int))):=(Wa.trans (Kp.of_same YL)).trans (Kp.of_same sc);have ec:(upd (upd (upd H9 a (.lst [V.int 0])) b (.lst ((List.replicate (m' - m) (0:Int)).map V.int))) c (.lst ((ns++List.replicate (m' - m) (0:Int)).map V.int))) c=some (.lst ((ns++List.replicate (m' - m) (0:Int)).map V.int)):=ak
    have xY:∀x u,H x=some u->aQ τ9 c [9] x=τ x:=fun x u e=>by
     have:∃o,(upd (upd H9 a (.lst [V.int 0])) b (.lst ((List.replicate (m' - m) (0:Int)).map V.int))) x=some o:=by
      by_cases z:x=r
      ·subst z;exact Tb.R.at
      ·exact ⟨_,YL _ _ (Wa _ _ e z)⟩
     obtain ⟨o,e'⟩:=this;rw [aP (aB e' hc)];exact Yx x u e
    have nn:∀y∈ns++List.replicate (m' - m) (0:Int),0<=y/\y<=999:=fun y hy=>by
     rcases List.mem_append.mp hy with hy|hy
     ·have:=ok9.2 y hy;omega
     ·rw [(List.mem_replicate.mp hy).2];decide
    have nc:(ns++List.replicate (m' - m) (0:Int)).length=m':=by rw [List.length_append,List.length_replicate];omega
    generalize (upd (upd (upd H9 a (.lst [V.int 0])) b (.lst ((List.replicate (m' - m) (0:Int)).map V.int))) c (.lst ((ns++List.replicate (m' - m) (0:Int)).map V.int)))=Hc at Tc gc kpc ec ⊢;generalize aQ τ9 c [9]=τc at Tc gc Jp xY;generalize ns++List.replicate (m' - m) (0:Int)=Y4 at ec nn nc;dsimp only [dO];refine ⟨_,rfl,rfl,_,rfl, ?_⟩;refine bH (fun _=> ?_) (fun _=> ?_)
    ·refine ⟨_,rfl,r,1000,rfl,Tc.R,by decide,by decide,fun vv Hd v0 v1 Rd kd=> ?_⟩
     have Td:=Tc.draw kd Rd;have gd:=gc.mv (Tc.kr (i:=0) kd);have ed:=Tc.keep kd ec (by rw [Jp];simp);refine ⟨_,rfl,_,rfl,_,rfl,r,m',rfl,Rd,by omega,by omega,fun ii He i0 i1 Re ke=> ?_⟩;have Te:=Td.draw ke Re;have ge:=gd.mv (Td.kr (i:=0) ke);have ee:=Td.keep ke ed (by rw [Jp];simp);refine ⟨c,_,ii,ii.toNat,rfl,rfl,ee,Gg i0 (by rw [List.length_map,nc];omega), ?_⟩;rw [←List.map_set];have st:Cv 9 τc He (upd He c (.lst ((Y4.set ii.toNat vv).map V.int))):=Cv.set (by rw [Jp];rfl) ee (by intro xs z;cases z)
     have kpe:Kp r H (upd He c (.lst ((Y4.set ii.toNat vv).map V.int))):=fun x u e z=>by
      by_cases y:x=c
      ·subst y;exact absurd (xY x u e) (by intro q;rw [Jp] at q;exact hnc x u e q.symm)
      ·rw [aG y];exact ke.1 _ _ (kd.1 _ _ (kpc _ _ e z) z) z
     have Tf:=(Te.stp st).Bj (c:=c) (t:=[0]) (by rw [Jp];simp);have gf:=(ge.mv (Mv.DW (i:=0) st (by decide) (by decide))).mv (Mv.Bj (i:=0) (t:=[0]) Jp (by decide) (by decide));refine hD' _ _ ⟨.ref c,Y4.set ii.toNat vv,aQ τc c [0],rfl,Tf,gf,⟨⟨by rw [List.length_set];omega,fun y hy=> ?_⟩,.inr ⟨c,rfl,bw,ak⟩⟩,fun x u e=> ?_,kpe⟩
     ·rcases List.mem_or_eq_of_mem_set hy with hy|rfl
      ·have:=nn y hy;omega
      ·omega
     ·rw [aP (fun z=>hnc x u e (by rw [←xY x u e,z,Jp]))]
      exact xY x u e
    ·refine hD' _ _ ⟨.ref c,Y4,aQ τc c [0],rfl,Tc.Bj (by rw [Jp];simp),gc.mv (Mv.Bj (i:=0) (t:=[0]) Jp (by decide) (by decide)),⟨⟨by omega,fun y hy=> ?_⟩,.inr ⟨c,rfl,bw,ec⟩⟩,fun x u e=> ?_,kpc⟩
     ·have:=nn y hy;omega
     ·rw [aP (fun z=>hnc x u e (by rw [←xY x u e,z,Jp]))]
      exact xY x u e
  rintro σ Hd ⟨v',ns',τ',rfl,Td,gd,nvd,tgd,Hy⟩;refine ⟨_,rfl,_,rfl,(by show 2<=sizeLine;decide),fun p' hp'=> ?_⟩;have s1:=aF (o:=HO.tup [V.int m',V.ref D]) hp';refine ⟨_,rfl,(by show 2<=sizeLine;decide),fun t ht=> ?_⟩;have s2:=aF (o:=HO.tup [V.ref p',v']) ht;have ge:=gd.mv (Mv.of_same (i:=0) (s1.trans s2));exact k t p' D v' Vy k_ m' ns' τ' _ ak ⟨s2 _ _ ak,ge.eL,ge.tL,ge.len,ge.row⟩ (nvd.mv (Mv.of_same (i:=0) (s1.trans s2))) l9 (by omega) (Td.same (s1.trans s2)) tgd (Hy.trans (Kp.of_same (s1.trans s2)))
def Bh (lost:Bool) (b:Nat) (f:Int):List Rw:=if lost then [.load b 0,.mX true (.one (.box b)) (.one (.num f)) 4,.load b 0,.go 3,.load b 0,.go 5] else [.load b 0,.mX true (.one (.box b)) (.one (.num f)) 3,.load b 0,.load b 0,.load b 0]
def Fy (o t:Int):List Rw:=[.store 0 (.one (.num o)),.store 0 (.one (.num t))]
theorem jM {n:Nat} {s:aX} {r:Rw} (e:s.rws[s.pos]? = some r) (t:touch r=true):led n s={s with st:= "waits" }:=by
 cases n<;>(unfold led;rw [e];simp only [t,if_true])
theorem Bx {n:Nat} {s:aX} {r:Rw} (e:s.rws[s.pos]? = some r) (t:touch r=false):led (n+1) s=led n (jN s r):=by
 rw [led,e];simp only [t];rfl
def Wt (rws:List Rw) (s:aX):Prop:=s.rws=rws/\s.st = "waits" /\ ∃r,s.rws[s.pos]? = some r
theorem G8 (lost:Bool) (b:Nat) (f:Int):lead (new (Bh lost b f))=⟨Bh lost b f,0,List.replicate 8 0,[],"waits"⟩:=by
 unfold lead;rw [jM (r:= .load b 0) (by cases lost<;>rfl) rfl];rfl
theorem G7 (o t:Int):lead (new (Fy o t))=⟨Fy o t,0,List.replicate 8 0,[],"waits"⟩:=by
 unfold lead;rw [jM (r:= .store 0 (.one (.num o))) rfl rfl];rfl
theorem Bg (lost:Bool) (b:Nat) (f:Int) (ns bs:List Int):Wt (Bh lost b f) (gF ns ⟨Bh lost b f,0,bs,[],"waits"⟩ (.load b 0)):=by
 unfold gF lead;cases lost
 ·rw [Bx (r:= .mX true (.one (.box b)) (.one (.num f)) 3) rfl rfl]
  unfold jN;dsimp only;split
  ·rw [jM (r:= .load b 0) rfl rfl];exact ⟨rfl,rfl,_,rfl⟩
  ·rw [jM (r:= .load b 0) rfl rfl];exact ⟨rfl,rfl,_,rfl⟩
 ·rw [Bx (r:= .mX true (.one (.box b)) (.one (.num f)) 4) rfl rfl]
  unfold jN;dsimp only;split
  ·rw [jM (r:= .load b 0) rfl rfl];exact ⟨rfl,rfl,_,rfl⟩
  ·rw [jM (r:= .load b 0) rfl rfl];exact ⟨rfl,rfl,_,rfl⟩
theorem Bf (o t:Int) (ns bs:List Int):Wt (Fy o t) (gF ns ⟨Fy o t,0,bs,[],"waits"⟩ (.store 0 (.one (.num o)))):=by
 unfold gF lead;rw [jM (r:= .store 0 (.one (.num t))) rfl rfl];exact ⟨rfl,rfl,_,rfl⟩
theorem K1 {S:jR} {n:Nat} {s:aX} {r:Rw} (e:S.hs[n]? = some s) (h:s.st = "waits") (er:s.rws[s.pos]? = some r):zN S n={S with ns:=fY S.ns s.bs r,hs:=S.hs.set n (gF S.ns s r),ts:=S.ts++[(n:Int)]}:=(BP e h).trans (vo e er)
theorem ZW {m:Nat} {ns ts:List Int} {h0 h1:aX} {r:Rw} (w:h0.st = "waits") (e:h0.rws[h0.pos]? = some r):zN ⟨m,ns,[h0,h1],ts⟩ 0=⟨m,fY ns h0.bs r,[gF ns h0 r,h1],ts++[0]⟩:=K1 (S:=⟨m,ns,[h0,h1],ts⟩) (n:=0) rfl w e
theorem ZV {m:Nat} {ns ts:List Int} {h0 h1:aX} {r:Rw} (w:h1.st = "waits") (e:h1.rws[h1.pos]? = some r):zN ⟨m,ns,[h0,h1],ts⟩ 1=⟨m,fY ns h1.bs r,[h0,gF ns h1 r],ts++[1]⟩:=K1 (S:=⟨m,ns,[h0,h1],ts⟩) (n:=1) rfl w e
theorem QH (lost:Bool) (b:Nat) (f o t:Int) (ns:List Int):([0,1,1,0].foldl zN (qj 1 ns [Bh lost b f,Fy o t])).ts=[0,1,1,0]/\([1,0,1,0].foldl zN (qj 1 ns [Bh lost b f,Fy o t])).ts=[1,0,1,0]:=by
 have e0:qj 1 ns [Bh lost b f,Fy o t]=⟨1,ns,[⟨Bh lost b f,0,List.replicate 8 0,[],"waits"⟩,⟨Fy o t,0,List.replicate 8 0,[],"waits"⟩],[]⟩:=by
  unfold qj;rw [List.map_cons,List.map_cons,G8,G7];rfl
 have ra:(Bh lost b f)[0]? = some (.load b 0):=by cases lost<;>rfl
 have rb:(Fy o t)[0]? = some (.store 0 (.one (.num o))):=rfl;rw [e0];simp only [List.foldl_cons,List.foldl_nil];constructor
 ·obtain ⟨_,a2,a,a3⟩:=Bg lost b f ns (List.replicate 8 0)
  obtain ⟨_,b2,c,b3⟩:=Bf o t (fY ns (List.replicate 8 0) (.load b 0)) (List.replicate 8 0);rw [ZW (h0:=⟨Bh lost b f,0,List.replicate 8 0,[],"waits"⟩) rfl ra,ZV (h1:=⟨Fy o t,0,List.replicate 8 0,[],"waits"⟩) rfl rb,ZV b2 b3,ZW a2 a3];rfl
 ·obtain ⟨_,b2,c,b3⟩:=Bf o t ns (List.replicate 8 0)
  obtain ⟨_,a2,a,a3⟩:=Bg lost b f (fY ns (List.replicate 8 0) (.store 0 (.one (.num o)))) (List.replicate 8 0);rw [ZV (h1:=⟨Fy o t,0,List.replicate 8 0,[],"waits"⟩) rfl rb,ZW (h0:=⟨Bh lost b f,0,List.replicate 8 0,[],"waits"⟩) rfl ra,ZV b2 b3,ZW a2 a3];rfl
def Jv (K:PySem.W.Frag):Sp:=fun vs H Q _=>∃(r:Addr) (τ:Tg),vs=[.ref r]/\RT τ H r /\ ∀(t p L nb o1 o2:Addr) (rs:List Addr) (lost:Bool) (b:Nat) (f o t':Int) (τ':Tg) (H':Hp),H' t=some (.tup [.ref p,.ref nb,.ref o1,.ref o2])->Pg τ' H' p L rs [Bh lost b f,Fy o t'] 1->NumV τ' H' (.ref nb) [f] 1->H' o1=some (.lst (nI [0,1,1,0]))->H' o2=some (.lst (nI [1,0,1,0]))->RT τ' H' r->(∀x u,H x=some u->τ' x=τ x)->Kp r H H'->Q (.ref t) H'
theorem JV {f:Addr} {fd:FuncData} (F:iY K "_law_two_rows" "_law_two_rows" d9 f fd) (bL:FnAt P w K mg base 1 "_law_draw" ["reel","many"] (gR K)) (Bt:o8 mg):bV P w K mg base iD 2 f fd ["reel"] (Jv K):=by
 refine F.ok dF (fun vs H Q E h=> ?_) (fun cdv A outer s H vs Q E hr h=> ?_)
 ·obtain ⟨r,τ,rfl,_⟩:=h
  rfl
 ·obtain ⟨r,τ,rfl,T,k⟩:=h
  refine ⟨_,(aC (aY (i:=1) dF.nd rfl (Or.inl rfl) (dY cT (bD bL (hr.mono (by decide)) (by rfl) (aj (pv 0) (aj aq au))) aq (aV _)))
   (aC (aY (i:=2) dF.nd rfl (Or.inl rfl) (aO zH aW (bD bL (hr.mono (by decide)) (by rfl) (aj (pv 0) (aj aq au))) (fun _ _=>rfl)))
   (aC (aY (i:=3) dF.nd rfl (Or.inl rfl) (bD bL (hr.mono (by decide)) (by rfl) (aj (pv 0) (aj aq au))))
   (aC (aY (i:=4) dF.nd rfl (Or.inl rfl) (bJ dM (bJ dM (pv 3) aq) (bD bL (hr.mono (by decide)) (by rfl) (aj (pv 0) (aj (bJ mH aq (pv 3)) au)))))
   (aC (aY (i:=5) dF.nd rfl (Or.inl rfl) (bR (aj aW (aj (pv 2) (aj aq au)))))
   (aC (aY (i:=6) dF.nd rfl (Or.inl rfl) (bZ (aj (pv 5) (aj (bR (aj aW (aj aW (aj (bR (aj aW (aj (pv 2) au))) (aj (bR (aj aW (aj (pv 3) au))) (aj aq au)))))) (aj (pv 5) (aj (pv 5) (aj (pv 5) au)))))))
   (aC (bU (nD (pv 1)) (aH (aY (i:=6) dF.nd rfl (Or.inl rfl) (bZ (aj (pv 5) (aj (bR (aj aW (aj aW (aj (bR (aj aW (aj (pv 2) au))) (aj (bR (aj aW (aj (pv 3) au))) (aj aq au)))))) (aj (pv 5) (aj (bR (aj aW (aj aq au))) (aj (pv 5) (aj (bR (aj aW (aj aq au))) au))))))))) bB)
   (aC (aY (i:=7) dF.nd rfl (Or.inl rfl) (bZ (aj (bR (aj aW (aj aq (aj (bR (aj aW (aj (pv 4) au))) au)))) (aj (bR (aj aW (aj aq (aj (bR (aj aW (aj (bD bL (hr.mono (by decide)) (by rfl) (aj (pv 0) (aj aq au))) au))) au)))) au))))
   (aH (bA (bR (aj (bR (aj aq (aj (bZ (aj (pv 6) (aj (pv 7) au))) au))) (aj (bZ (aj (pv 3) au)) (aj (bZ (aj aq (aj aq (aj aq (aj aq au))))) (aj (bZ (aj aq (aj aq (aj aq (aj aq au))))) au))))))))))))))), ?_⟩
  have zl:=sizeLine_eq;refine ⟨_,rfl,r,2,rfl,T.R,by decide,by decide,fun c1 H1 c10 c11 R1 k1=>⟨rfl, ?_⟩⟩;dsimp only [dO];generalize decide (V.int c1=V.int 0)=lo;have T1:=T.draw k1 R1;refine ⟨_,rfl,r,8,rfl,R1,by decide,by decide,fun c2 H2 Yc c21 R2 k2=> ?_⟩;have T2:=T1.draw k2 R2;have b8:c2.toNat<8:=by omega
  refine ⟨_,_,_,rfl,rfl,Ab,zY Yc (by omega), ?_⟩;refine ⟨_,rfl,r,999,rfl,R2,by decide,by decide,fun f H3 f0 f1 R3 k3=> ?_⟩;have T3:=T2.draw k3 R3;refine ⟨_,rfl,_,_,rfl,rfl,_,rfl,_,rfl,_,_,rfl,rfl,r,999 - f,rfl,R3,by omega,by omega,fun g H4 g0 g1 R4 k4=>⟨_,_,rfl,rfl, ?_⟩⟩;have T4:=T3.draw k4 R4;have yp:Kp r H H4:=((k1.1.trans k2.1).trans k3.1).trans k4.1
  have old:∀x u,H x=some u -> ∃o,H4 x=some o:=fun x u e=>by
   by_cases z:x=r
   ·subst z;exact R4.at
   ·exact ⟨_,yp _ _ e z⟩
  clear k1 k2 k3 k4 T1 T2 T3 R1 R2 R3;dsimp only [dO];refine ⟨_,rfl,(by show 3<=sizeLine;decide),fun pl hpl=> ?_⟩;have spl:=aF (o:=HO.tup [V.str "load",V.str ⟨#[97+c2.toNat]⟩,V.int 0]) hpl;have epl:(upd H4 pl (.tup [V.str "load",V.str ⟨#[97+c2.toNat]⟩,V.int 0])) pl=some (.tup [V.str "load",V.str ⟨#[97+c2.toNat]⟩,V.int 0]):=ak;generalize (upd H4 pl (.tup [V.str "load",V.str ⟨#[97+c2.toNat]⟩,V.int 0]))=G1 at spl epl ⊢;refine ⟨_,rfl,_,rfl,(by show 2<=sizeLine;decide),fun pb hpb=> ?_⟩;have spb:=aF (o:=HO.tup [V.str "box",V.str ⟨#[97+c2.toNat]⟩]) hpb;have epb:(upd G1 pb (.tup [V.str "box",V.str ⟨#[97+c2.toNat]⟩])) pb=some (.tup [V.str "box",V.str ⟨#[97+c2.toNat]⟩]):=ak;generalize (upd G1 pb (.tup [V.str "box",V.str ⟨#[97+c2.toNat]⟩]))=G2 at spb epb ⊢;refine ⟨_,rfl,(by show 2<=sizeLine;decide),fun pn hpn=> ?_⟩;have YH:=aF (o:=HO.tup [V.str "number",V.int f]) hpn;have epn:(upd G2 pn (.tup [V.str "number",V.int f])) pn=some (.tup [V.str "number",V.int f]):=ak;generalize (upd G2 pn (.tup [V.str "number",V.int f]))=G3 at YH epn ⊢;refine ⟨(by show 5<=sizeLine;decide),fun pu hpu=> ?_⟩;have Vm:=aF (o:=HO.tup [V.str "unless",V.str "=",V.ref pb,V.ref pn,V.int 3]) hpu;have epu:(upd G3 pu (.tup [V.str "unless",V.str "=",V.ref pb,V.ref pn,V.int 3])) pu=some (.tup [V.str "unless",V.str "=",V.ref pb,V.ref pn,V.int 3]):=ak;generalize (upd G3 pu (.tup [V.str "unless",V.str "=",V.ref pb,V.ref pn,V.int 3]))=G4 at Vm epu ⊢;refine ⟨_,rfl,_,rfl,_,rfl,(by show 5<=sizeLine;decide),fun q hq=> ?_⟩;have sq:=aF (o:=HO.lst [V.ref pl,V.ref pu,V.ref pl,V.ref pl,V.ref pl]) hq;have eq:(upd G4 q (.lst [V.ref pl,V.ref pu,V.ref pl,V.ref pl,V.ref pl])) q=some (.lst [V.ref pl,V.ref pu,V.ref pl,V.ref pl,V.ref pl]):=ak;have s14:Same G1 G4:=spb.trans (YH.trans Vm);have YG:Same H4 G4:=spl.trans s14;have Tq:=(T4.same YG).claim (t:=[0]) sq hq ⟨_,eq⟩;have tqq:aQ τ q [0] q=[0]:=bw
  have Yw:∀x u,H x=some u->aQ τ q [0] x=τ x:=fun x u e=>by
   obtain ⟨o,e'⟩:=old x u e;exact aP (aB (YG _ _ e') hq)
  generalize (upd G4 q (.lst [V.ref pl,V.ref pu,V.ref pl,V.ref pl,V.ref pl]))=G5 at sq eq Tq ⊢;generalize aQ τ q [0]=τ5 at Tq tqq Yw;have Sd:Kp r H G5:=yp.trans (Kp.of_same (YG.trans sq));have el5:=sq _ _ (s14 _ _ epl);have eb5:Dat G5 (.ref pb) (wZ (.box c2.toNat)):=oA (x:= .box c2.toNat) (sq _ _ (Vm _ _ (YH _ _ epb)));have en5:Dat G5 (.ref pn) (wZ (.num f)):=oA (x:= .num f) (sq _ _ (Vm _ _ epn))
  have R5:cJ G5 q 1 (Bh false c2.toNat f):=by
   refine ⟨_,eq, ?_, ?_,(by show 5<=1000;decide)⟩
   ·show bf G5 _ [gD (.load c2.toNat 0),gD (.mX true (.one (.box c2.toNat)) (.one (.num f)) 3),gD (.load c2.toNat 0),gD (.load c2.toNat 0),gD (.load c2.toNat 0)]
    have dl:=wH (b:=c2.toNat) (c:=0) el5;have du:=zR (q:=true) (e:= .one (.box c2.toNat)) (f:= .one (.num f)) (n:=3) (sq _ _ epu) eb5 en5;simp only [bf,and_true];exact ⟨dl,du,dl,dl,dl⟩
   ·intro x hx
    simp only [Bh,Bool.false_eq_true,if_false,List.mem_cons,List.not_mem_nil,or_false] at hx;rcases hx with rfl|rfl|rfl|rfl|rfl
    ·exact ⟨b8,by decide⟩
    ·exact ⟨b8,f0,by show f<1000;omega⟩
    ·exact ⟨b8,by decide⟩
    ·exact ⟨b8,by decide⟩
    ·exact ⟨b8,by decide⟩
  clear YG s14 sq spb YH Vm spl epl epb epn epu old;dsimp only [dO];refine gU (fun σ Hd=>∃(lost:Bool) (q':Addr) (τ':Tg),σ=[some (.ref r),some (.bl lost),some (.str (qt c2.toNat)),some (.int f),some (.int (f+1+g)),some (.ref pl),some (.ref q'),none]/\RT τ' Hd r/\τ' q'=[0]/\cJ Hd q' 1 (Bh lost c2.toNat f)/\(∀x u,H x=some u->τ' x=τ x)/\Kp r H Hd) (fun D' hD' _=> ?_) ?_
  ·refine ⟨_,rfl,_,rfl, ?_⟩
   cases lo with
   | false=>
     refine fM ?_;exact hD' _ _ ⟨false,q,τ5,rfl,Tq,tqq,R5,Yw,Sd⟩
   | true=>
     refine iR ?_;refine ⟨_,rfl,_,rfl,(by show 2<=sizeLine;decide),fun qb hqb=> ?_⟩;have sqb:=aF (o:=HO.tup [V.str "box",V.str ⟨#[97+c2.toNat]⟩]) hqb;have eqb:(upd G5 qb (.tup [V.str "box",V.str ⟨#[97+c2.toNat]⟩])) qb=some (.tup [V.str "box",V.str ⟨#[97+c2.toNat]⟩]):=ak;generalize (upd G5 qb (.tup [V.str "box",V.str ⟨#[97+c2.toNat]⟩]))=J2 at sqb eqb ⊢;refine ⟨_,rfl,(by show 2<=sizeLine;decide),fun qn hqn=> ?_⟩;have sqn:=aF (o:=HO.tup [V.str "number",V.int f]) hqn;have eqn:(upd J2 qn (.tup [V.str "number",V.int f])) qn=some (.tup [V.str "number",V.int f]):=ak;generalize (upd J2 qn (.tup [V.str "number",V.int f]))=J3 at sqn eqn ⊢;refine ⟨(by show 5<=sizeLine;decide),fun qu hqu=> ?_⟩;have squ:=aF (o:=HO.tup [V.str "unless",V.str "=",V.ref qb,V.ref qn,V.int 4]) hqu;have equ:(upd J3 qu (.tup [V.str "unless",V.str "=",V.ref qb,V.ref qn,V.int 4])) qu=some (.tup [V.str "unless",V.str "=",V.ref qb,V.ref qn,V.int 4]):=ak;generalize (upd J3 qu (.tup [V.str "unless",V.str "=",V.ref qb,V.ref qn,V.int 4]))=J4 at squ equ ⊢;refine ⟨_,rfl,(by show 2<=sizeLine;decide),fun g3 hg3=> ?_⟩;have sg3:=aF (o:=HO.tup [V.str "go",V.int 3]) hg3;have eg3:(upd J4 g3 (.tup [V.str "go",V.int 3])) g3=some (.tup [V.str "go",V.int 3]):=ak;generalize (upd J4 g3 (.tup [V.str "go",V.int 3]))=J5 at sg3 eg3 ⊢;refine ⟨_,rfl,(by show 2<=sizeLine;decide),fun g5 hg5=> ?_⟩;have YJ:=aF (o:=HO.tup [V.str "go",V.int 5]) hg5;have eg5:(upd J5 g5 (.tup [V.str "go",V.int 5])) g5=some (.tup [V.str "go",V.int 5]):=ak;generalize (upd J5 g5 (.tup [V.str "go",V.int 5]))=J6 at YJ eg5 ⊢;refine ⟨(by show 6<=sizeLine;decide),fun q2 hq2=> ?_⟩;have MK:=aF (o:=HO.lst [V.ref pl,V.ref qu,V.ref pl,V.ref g3,V.ref pl,V.ref g5]) hq2;have eq2:(upd J6 q2 (.lst [V.ref pl,V.ref qu,V.ref pl,V.ref g3,V.ref pl,V.ref g5])) q2=some (.lst [V.ref pl,V.ref qu,V.ref pl,V.ref g3,V.ref pl,V.ref g5]):=ak;have s36:Same J3 J6:=squ.trans (sg3.trans YJ);have YS:Same G5 J6:=sqb.trans (sqn.trans s36);have T7:=(Tq.same YS).claim (t:=[0]) MK hq2 ⟨_,eq2⟩;generalize (upd J6 q2 (.lst [V.ref pl,V.ref qu,V.ref pl,V.ref g3,V.ref pl,V.ref g5]))=J7 at MK eq2 T7 ⊢
     have R7:cJ J7 q2 1 (Bh true c2.toNat f):=by
      refine ⟨_,eq2, ?_, ?_,(by show 6<=1000;decide)⟩
      ·show bf J7 _ [gD (.load c2.toNat 0),gD (.mX true (.one (.box c2.toNat)) (.one (.num f)) 4),gD (.load c2.toNat 0),gD (.go 3),gD (.load c2.toNat 0),gD (.go 5)]
       have dl:=wH (b:=c2.toNat) (c:=0) (MK _ _ (YS _ _ el5));have du:=zR (q:=true) (e:= .one (.box c2.toNat)) (f:= .one (.num f)) (n:=4) (MK _ _ (YJ _ _ (sg3 _ _ equ))) (oA (x:= .box c2.toNat) (MK _ _ (s36 _ _ (sqn _ _ eqb)))) (oA (x:= .num f) (MK _ _ (s36 _ _ eqn)));have d3:=El (n:=3) (MK _ _ (YJ _ _ eg3));have d5:=El (n:=5) (MK _ _ eg5);simp only [bf,and_true];exact ⟨dl,du,dl,d3,dl,d5⟩
      ·intro x hx
       simp only [Bh,if_true,List.mem_cons,List.not_mem_nil,or_false] at hx;rcases hx with rfl|rfl|rfl|rfl|rfl|rfl
       ·exact ⟨b8,by decide⟩
       ·exact ⟨b8,f0,by show f<1000;omega⟩
       ·exact ⟨b8,by decide⟩
       ·trivial
       ·exact ⟨b8,by decide⟩
       ·trivial
     refine hD' _ _ ⟨true,q2,_,rfl,T7,bw,R7,fun x u e=> ?_,Sd.trans (Kp.of_same (YS.trans MK))⟩
     have:∃o,G5 x=some o:=by
      by_cases z:x=r
      ·subst z;exact Tq.R.at
      ·exact ⟨_,Sd _ _ e z⟩
     obtain ⟨o,e'⟩:=this;rw [aP (aB (YS _ _ e') hq2)];exact Yw x u e
  clear Tq tqq Yw Sd R5 eq el5 eb5 en5 T4 yp;rintro σ H6 ⟨lost,q',τ6,rfl,T6,t6,R6,QK,Ql⟩;have fo:f+1+g<1000:=by omega
  have fo0:0<=f+1+g:=by omega
  generalize f+1+g=oth at fo fo0;refine ⟨_,rfl,(by show 2<=sizeLine;decide),fun an han=> ?_⟩;have san:=aF (o:=HO.tup [V.str "number",V.int oth]) han;have UG:(upd H6 an (.tup [V.str "number",V.int oth])) an=some (.tup [V.str "number",V.int oth]):=ak;generalize (upd H6 an (.tup [V.str "number",V.int oth]))=L1 at san UG ⊢;refine ⟨(by show 3<=sizeLine;decide),fun as has=> ?_⟩;have Ug:=aF (o:=HO.tup [V.str "store",V.int 0,V.ref an]) has;have eas:(upd L1 as (.tup [V.str "store",V.int 0,V.ref an])) as=some (.tup [V.str "store",V.int 0,V.ref an]):=ak;generalize (upd L1 as (.tup [V.str "store",V.int 0,V.ref an]))=L2 at Ug eas ⊢;have T7:=T6.same (san.trans Ug);have UG:=Ug _ _ UG;refine ⟨_,rfl,r,1000,rfl,T7.R,by decide,by decide,fun th L3 th0 th1 R8 k8=> ?_⟩;have T8:=T7.draw k8 R8;have R6':=(uM ⟨t6,R6⟩ ((Mv.of_same (i:=0) (san.trans Ug)).trans (T7.kr k8))).2;have UG:=k8.tups T7.R _ _ UG;have eas:=k8.tups T7.R _ _ eas;have Wb:=(Ql.trans (Kp.of_same (san.trans Ug))).trans k8.1;clear san Ug R6 T6 T7 Ql k8;refine ⟨(by show 2<=sizeLine;decide),fun bn hbn=> ?_⟩;have Vr:=aF (o:=HO.tup [V.str "number",V.int th]) hbn;have ebn:(upd L3 bn (.tup [V.str "number",V.int th])) bn=some (.tup [V.str "number",V.int th]):=ak;generalize (upd L3 bn (.tup [V.str "number",V.int th]))=L4 at Vr ebn ⊢;refine ⟨(by show 3<=sizeLine;decide),fun bs hbs=> ?_⟩;have Ue:=aF (o:=HO.tup [V.str "store",V.int 0,V.ref bn]) hbs;have ebs:(upd L4 bs (.tup [V.str "store",V.int 0,V.ref bn])) bs=some (.tup [V.str "store",V.int 0,V.ref bn]):=ak;generalize (upd L4 bs (.tup [V.str "store",V.int 0,V.ref bn]))=L5 at Ue ebs ⊢;refine ⟨(by show 2<=sizeLine;decide),fun st hst=> ?_⟩;have YF:=aF (o:=HO.lst [V.ref as,V.ref bs]) hst;have est:(upd L5 st (.lst [V.ref as,V.ref bs])) st=some (.lst [V.ref as,V.ref bs]):=ak;generalize (upd L5 st (.lst [V.ref as,V.ref bs]))=M1 at YF est ⊢;dsimp only [dO];refine ⟨_,rfl,_,rfl,(by show 2<=sizeLine;decide),fun hl Ox=> ?_⟩;have shl:=aF (o:=HO.lst [V.ref q',V.ref st]) Ox;have ehl:(upd M1 hl (.lst [V.ref q',V.ref st])) hl=some (.lst [V.ref q',V.ref st]):=ak;generalize (upd M1 hl (.lst [V.ref q',V.ref st]))=M2 at shl ehl ⊢;refine ⟨(by show 2<=sizeLine;decide),fun pp hpp=> ?_⟩;have spp:=aF (o:=HO.tup [V.int 1,V.ref hl]) hpp;have epp:(upd M2 pp (.tup [V.int 1,V.ref hl])) pp=some (.tup [V.int 1,V.ref hl]):=ak;generalize (upd M2 pp (.tup [V.int 1,V.ref hl]))=M3 at spp epp ⊢;refine ⟨_,rfl,(by show 1<=sizeLine;decide),fun nb hnb=> ?_⟩;have Q6:=aF (o:=HO.lst [V.int f]) hnb;have enb:(upd M3 nb (.lst [V.int f])) nb=some (.lst [V.int f]):=ak;generalize (upd M3 nb (.lst [V.int f]))=M4 at Q6 enb ⊢;refine ⟨(by show 4<=sizeLine;decide),fun o1 ho1=> ?_⟩;have so1:=aF (o:=HO.lst [V.int 0,V.int 1,V.int 1,V.int 0]) ho1;have eo1:(upd M4 o1 (.lst [V.int 0,V.int 1,V.int 1,V.int 0])) o1=some (.lst [V.int 0,V.int 1,V.int 1,V.int 0]):=ak;generalize (upd M4 o1 (.lst [V.int 0,V.int 1,V.int 1,V.int 0]))=M5 at so1 eo1 ⊢;refine ⟨(by show 4<=sizeLine;decide),fun o2 ho2=> ?_⟩;have so2:=aF (o:=HO.lst [V.int 1,V.int 0,V.int 1,V.int 0]) ho2;have eo2:(upd M5 o2 (.lst [V.int 1,V.int 0,V.int 1,V.int 0])) o2=some (.lst [V.int 1,V.int 0,V.int 1,V.int 0]):=ak;generalize (upd M5 o2 (.lst [V.int 1,V.int 0,V.int 1,V.int 0]))=M6 at so2 eo2 ⊢;refine ⟨(by show 4<=sizeLine;decide),fun tt htt=> ?_⟩;have stt:=aF (o:=HO.tup [V.ref pp,V.ref nb,V.ref o1,V.ref o2]) htt;have ett:(upd M6 tt (.tup [V.ref pp,V.ref nb,V.ref o1,V.ref o2])) tt=some (.tup [V.ref pp,V.ref nb,V.ref o1,V.ref o2]):=ak;generalize (upd M6 tt (.tup [V.ref pp,V.ref nb,V.ref o1,V.ref o2]))=M7 at stt ett ⊢;have u1:Same M6 M7:=stt;have u2:Same M5 M7:=so2.trans u1;have u3:Same M4 M7:=so1.trans u2;have u4:Same M3 M7:=Q6.trans u3;have u5:Same M2 M7:=spp.trans u4;have u6:Same M1 M7:=shl.trans u5;have u7:Same L5 M7:=YF.trans u6;have u8:Same L3 M7:=Vr.trans (Ue.trans u7);have T9:RT (Fl τ6 L3 M7) M7 r:=T8.made u8 (fun x u e=>oN e) (Jm u8 T8.un);have fh:L3 hl=none:=Vr.free (Ue.free (YF.free Ox));have fs:L3 st=none:=Vr.free (Ue.free hst);have fn:L3 nb=none:=Vr.free (Ue.free (YF.free (shl.free (spp.free hnb))))
  have tq:Fl τ6 L3 M7 q'=[0]:=by
   obtain ⟨ts,e,_⟩:=id R6';rw [oN e];exact t6
  have RB:cJ M7 st 1 (Fy oth th):=by
   refine ⟨_,u6 _ _ est, ?_, ?_,(by show 2<=1000;decide)⟩
   ·show bf M7 _ [gD (.store 0 (.one (.num oth))),gD (.store 0 (.one (.num th)))]
    have d1:=sZ (c:=0) (e:= .one (.num oth)) (u8 _ _ eas) (oA (x:= .num oth) (u8 _ _ UG));have d2:=sZ (c:=0) (e:= .one (.num th)) (u7 _ _ ebs) (oA (x:= .num th) (u7 _ _ (Ue _ _ ebn)));simp only [bf,and_true];exact ⟨d1,d2⟩
   ·intro x hx
    simp only [Fy,List.mem_cons,List.not_mem_nil,or_false] at hx;rcases hx with rfl|rfl
    ·exact ⟨by decide,fo0,fo⟩
    ·exact ⟨by decide,th0,th1⟩
  refine k tt pp hl nb o1 o2 [q',st] lost c2.toNat f oth th _ M7 ett ⟨u4 _ _ epp,u5 _ _ ehl,qC fh (u5 _ _ ehl),rfl,fun kk rr x h1 h2=> ?_⟩ ⟨⟨rfl,fun x hx=> ?_⟩,.inr ⟨nb,rfl,qC fn (u3 _ _ enb),u3 _ _ enb⟩⟩ (u2 _ _ eo1) (u1 _ _ eo2) T9 (fun x u e=> ?_) (Wb.trans (Kp.of_same u8))
  ·match kk with
   | 0=>
     cases h1;cases h2;exact ⟨tq,R6'.same u8⟩
   | 1=>
     cases h1;cases h2;exact ⟨qC fs (u6 _ _ est),RB⟩
   | n+2=>cases h1
  ·rw [List.mem_singleton.mp hx]
   omega
  ·have:∃o,L3 x=some o:=by
    by_cases z:x=r
    ·subst z;exact R8.at
    ·exact ⟨_,Wb _ _ e z⟩
   obtain ⟨o,e'⟩:=this;rw [oN e'];exact QK x u e
def jT (n:Nat) (τ:Tg):Tg:=fun x=>match τ x with
 | []=>[]
 | h::t=>if h<=n then h::t else []
theorem Ln {n:Nat} {τ:Tg} {x:Addr} {h:Nat} {t:List Nat} (e:τ x=h::t) (l:h<=n):jT n τ x=τ x:=by
 unfold jT;rw [e];exact if_pos l
theorem iz {n i:Nat} {τ:Tg} {x:Addr} (l:n<i):(jT n τ x).head?≠some i:=by
 unfold jT;cases e:τ x with
 | nil=>simp
 | cons h t=>
   dsimp only;split
   ·intro z
    have:=Option.some.inj z;omega
   ·simp
theorem Gx {n:Nat} {τ:Tg} {x:Addr} (h:τ x=[]):jT n τ x=[]:=by
 unfold jT;rw [h]
theorem Mv.jT {n i:Nat} {τ:Tg} {H:Hp} (l:i<=n):Mv i τ H (jT n τ) H:=⟨fun x o e q=>⟨e,by
 rcases q with q|q
 ·exact Ln q (Nat.zero_le _)
 ·cases e':τ x with
  | nil=>rw [e'] at q;cases q
  | cons h t=>
    rw [e'] at q;have:=Option.some.inj q;rw [←e'];exact Ln e' (by omega)⟩,fun x xs e=>e⟩
theorem Dj {n:Nat} {τ:Tg} {H:Hp} (u:oF τ H):oF (jT n τ) H:=fun x e=>Gx (u x e)
theorem RT.jT {n:Nat} {τ:Tg} {H:Hp} {r:Addr} (T:RT τ H r):RT (jT n τ) H r:=⟨T.R,fun x o e q=>T.off x o e (fun z=>q (Gx z)),Dj T.un⟩
def pD (m:Nat) (rws:List (List Rw)):PyData:= .tuple [.int m,.list (rws.map lA)]
theorem jV {S:jR} {m:Nat} {rws:List (List Rw)} (em:S.m=m) (er:S.hs.map (fun s=>s.rws)=rws):iu S=pD m rws:=by
 subst em er;unfold iu pD;rw [List.map_map];rfl
theorem Pg.dat {τ:Tg} {H:Hp} {p L:Addr} {rs:List Addr} {rws:List (List Rw)} {m:Nat} (g:Pg τ H p L rs rws m):Dat H (.ref p) (pD m rws):=by
 have go:∀(rs:List Addr) (hs:List (List Rw)),rs.length=hs.length->(∀(k:Nat) (r:Addr) (s:List Rw),rs[k]? = some r->hs[k]? = some s->cJ H r m s)->bf H (rs.map V.ref) (hs.map lA):=by
  intro rs
  induction rs with
  | nil=>
    intro hs l _;cases hs with
    | nil=>simp only [List.map_nil,bf]
    | cons a b=>cases l
  | cons r rs ih=>
    intro hs l h;cases hs with
    | nil=>cases l
    | cons s hs=>
      simp only [List.map_cons,bf];obtain ⟨ts,e1,e2,_⟩:=h 0 r s rfl rfl;exact ⟨lF e1 e2,ih hs (by simpa using l) fun k r' s' h1 h2=>h (k+1) r' s' h1 h2⟩
 simp only [pD,Dat];refine ⟨p,_,rfl,g.ep, ?_⟩;simp only [bf,Dat,and_true,true_and];exact ⟨L,_,rfl,g.eL,go rs rws g.len fun k r s h1 h2=>(g.row k r s h1 h2).2⟩
theorem nu {S:jR} (g:iB S) (h:∀s∈S.hs,∀r∈s.rws,o9 S.m r):SeqAt.shaped (iu S)=true:=by
 have c:=tG (cs:=[]) g h;simp only [SeqAt.shaped,Dd,PyData.depth,PyData.depthAll,PyData.canLay0,PyData.canLayAll0,Bool.and_eq_true,decide_eq_true_eq] at c ⊢;exact ⟨c.1.1,by omega⟩
theorem Jf {S S':jR} {cs cs':List Nat} (C:Cn S.ts S.hs.length cs) (C':Cn S'.ts S'.hs.length cs') {b:Bool} (h:b=true↔PyData.eqv (iu S) (iu S')=true/\GF S.ns S'.ns S.hs S'.hs cs cs'):Fi S S'=b:=by
 rw [Bool.eq_iff_iff,Mr C C',h]
theorem Ph {S S':jR} {rws:List (List Rw)} (l:rws.length=2) (er:S.hs.map (fun s=>s.rws)=rws) (Mp:S'.hs.map (fun s=>s.rws)=rws) (t:S.ts=[0,1,1,0]) (t':S'.ts=[1,0,1,0]):tE S=tE S':=by
 have e1:S.hs.length=2:=by rw [←l,←er,List.length_map]
 have e2:S'.hs.length=2:=by rw [←l,←Mp,List.length_map]
 unfold tE;rw [e1,e2,t,t'];decide
def m9 (K:PySem.W.Frag):Sp:=fun vs H Q _=>∃(r:Addr),vs=[.ref r]/\dj H r /\ ∀H',dj H' r->Kp r H H'->Q (.bl true) H'
theorem zE {ao aA:Addr} {f:Addr} {fd:FuncData} (F:iY K "_law_rows_alike" "_law_rows_alike" cY f fd) (Cw:FnAt P w K mg base 2 "_law_two_rows" ["reel"] (Jv K)) (jQ:FnAt P w K mg base 10 "_law_gone_by" ["program","numbers","order","emptied"] (qF ao aA K)) (Aj:FnAt P w K mg base 1 "_law_same" ["one","other"] (yP K)) (wY:FnAt P w K mg base 10 "_law_right" ["one","other","alike","program"] (uI ao aA K)) (dU:MethAt P w K mg base 1 ao "counts" ["self"] (ni ao aA K)) (aN:dD K ao) (Bt:o8 mg):bV P w K mg base iD 11 f fd ["reel"] (m9 K):=by
 refine F.ok cM (fun vs H Q E h=> ?_) (fun cdv A outer s H vs Q E hr h=> ?_)
 ·obtain ⟨r,rfl,_⟩:=h
  rfl
 ·obtain ⟨r,rfl,R,k⟩:=h
  have wj:=hr.units
  refine ⟨_,(aC (dz (bD Cw (hr.mono (by decide)) (by rfl) (aj (pv 0) au)) (jB (K:=K) (n:=4) rfl rfl (cL (bG (i:=1) cM.nd rfl (Or.inl rfl)) (cL (bG (i:=2) cM.nd rfl (Or.inl rfl)) (cL (bG (i:=3) cM.nd rfl (Or.inl rfl)) (cL (bG (i:=4) cM.nd rfl (Or.inl rfl)) jA))))))
   (aC (dz (bD jQ (hr.mono (by decide)) (by rfl) (aj (pv 1) (aj (pv 2) (aj (pv 3) (aj nH au))))) (jB (K:=K) (n:=2) rfl rfl (cL (bG (i:=5) cM.nd rfl (Or.inl rfl)) (cL (bG (i:=6) cM.nd rfl (Or.inl rfl)) jA))))
   (aC (dz (bD jQ (hr.mono (by decide)) (by rfl) (aj (pv 1) (aj (pv 2) (aj (pv 4) (aj nH au))))) (jB (K:=K) (n:=2) rfl rfl (cL (bG (i:=7) cM.nd rfl (Or.inl rfl)) (cL (bG (i:=8) cM.nd rfl (Or.inl rfl)) jA))))
   (aH (bA (sJ (bD wY (hr.mono (by decide)) (by rfl) (aj (pv 5) (aj (pv 7) (aj (bD Aj (hr.mono (by decide)) (by rfl) (aj (pv 6) (aj (pv 8) au))) (aj (pv 1) au))))) (sG (dY (zB (K:=K) rfl wj) (cU dU aN.cls (hr.mono (by decide)) (pv 5)) (cU dU aN.cls (hr.mono (by decide)) (pv 7)) (aV _))))))))), ?_⟩
  have T:RT (fun _=>[]) H r:=⟨R,fun x o e t=>absurd rfl t,fun _ _=>rfl⟩;refine ⟨_,rfl,r,_,rfl,T,fun t p L nb o1 o2 rs lost b f o t' τ1 H1 et g1 V0 ho1 ho2 T1 _ kp1=> ?_⟩;refine ⟨t,_,rfl,cA.of et,rfl,_,_,rfl,_,_,rfl,_,_,rfl,_,_,rfl,rfl, ?_⟩;have Tc:=T1.jT (n:=0);have gc:=g1.mv (Mv.jT (n:=0) (Nat.le_refl 0));have nvc:=V0.mv (Mv.jT (n:=0) (Nat.le_refl 0));have fr:∀x u,H1 x=some u->(jT 0 τ1 x).head?≠some 1/\(jT 0 τ1 x).head?≠some 2:=fun x u _=>⟨iz (by decide),iz (by decide)⟩;generalize jT 0 τ1=τc at Tc gc nvc fr;clear T1 g1 V0 et;refine ⟨_,rfl,_,rfl,_,rfl,1,2,τc,p,L,rs,_,1,.ref nb,[f],o1,[0,1,1,0],false,rfl,gc,by show 2<=100;decide,by decide,nvc,Tc.un,by decide,by decide,by decide,fr,ho1,by decide,fun t1 W S L1 cs τ2 H2 W3 w1 l1 cn1 Uv W7 Ml tl1 eS1 CK s1=> ?_⟩;refine ⟨t1,_,rfl,cA.of W3,rfl,_,_,rfl,_,_,rfl,rfl, ?_⟩;have w2:=w1.mv (Mv.jT (n:=2) (by decide)) (Dj w1.un);have l2:=l1.mv (Mv.jT (n:=2) (by decide));have g2:=(gc.mv (Mv.tags (i:=0) s1 CK)).mv (Mv.jT (n:=2) (Nat.zero_le _));have VR:=(nvc.mv (Mv.tags (i:=0) s1 CK)).mv (Mv.jT (n:=2) (Nat.zero_le _));have fr2:∀x u,H2 x=some u->(jT 2 τ2 x).head?≠some 3/\(jT 2 τ2 x).head?≠some 4:=fun x u _=>⟨iz (by decide),iz (by decide)⟩;generalize jT 2 τ2=τ3 at w2 l2 g2 VR fr2;clear w1 l1 W3;refine ⟨_,rfl,_,rfl,_,rfl,3,4,τ3,p,L,rs,_,1,.ref nb,[f],o2,[1,0,1,0],true,rfl,g2,by show 2<=100;decide,by decide,VR,w2.un,by decide,by decide,by decide,fr2,s1 _ _ ho2,by decide,fun t2 W' S' L' cs' τ4 H4 et4 w4 l4 cn4 SQ W5 Uy tl4 eS4 Jo s4=> ?_⟩;refine ⟨t2,_,rfl,cA.of et4,rfl,_,_,rfl,_,_,rfl,rfl, ?_⟩;have w5:=w2.mv (Mv.tags s4 Jo) w4.un;have l5:=l2.mv (Mv.tags s4 Jo);have g5:=g2.mv (Mv.tags (i:=0) s4 Jo);refine ⟨_,rfl,_,rfl,_,rfl,_,rfl,2,4,τ4,τ4,L1,L',_,_,_,_,cs,cs',rfl,l5,l4,fun s hs=>Aw (Uv.t s hs),fun s hs=>Aw (SQ.t s hs),fun bb H5 hb s5=> ?_⟩
  have eP:PyData.eqv (iu S) (iu S')=true:=by
   rw [jV W7 Ml,←jV W5 Uy];exact K_ (nu SQ w4.pF)
  have eA:Fi S S'=bb:=Jf cn1 cn4 (by rw [hb];exact ⟨fun h=>⟨eP,h⟩,fun h=>h.2⟩);have hne:S.hs≠[]:=fun z=>by rw [z] at Ml;cases Ml
  have nW:W.o≠W'.o:=bY w5.to w4.to (by decide);have w6:=w5.same s5;have v6:=w4.same s5;refine ⟨_,rfl,1,3,τ4,τ4,W,W',S,S',bb,p,L,_,_,rfl,w6,v6,Uv,SQ,by omega,by omega,by omega,by omega,hne,nW,eA,s5 _ _ g5.ep,s5 _ _ g5.eL,fun H6 s6=> ?_⟩;refine ⟨_,rfl,iR ?_⟩;have w7:=w6.same s6;have v7:=v6.same s6;refine ⟨_,rfl,W.o,W.dx,_,rfl,w7.o,rfl,1,τ4,W,S,rfl,w7,fun c1 H7 _ e7 s7=> ?_⟩;have v8:=v7.same s7;refine ⟨_,rfl,W'.o,W'.dx,_,rfl,v8.o,rfl,3,τ4,W',S',rfl,v8,fun c2 H8 _ e8 s8=> ?_⟩;refine ⟨_,_,eN (s8 _ _ e7),eN e8,shaped_ints _,shaped_ints _, ?_⟩;obtain ⟨t1',t2'⟩:=QH lost b f o t' [f];rw [if_neg Bool.false_ne_true,lE PyData.int j5,decide_eq_true (Ph rfl Ml Uy (by rw [eS1];exact t1') (by rw [eS4];exact t2'))];have ss:=s1.trans (s4.trans (s5.trans (s6.trans (s7.trans s8))));exact k H8 (Tc.R.keep ss) (kp1.trans (Kp.of_same ss))
theorem Ju {K:PySem.W.Frag} {H H':Hp} {a:Addr} {xs:List V} (h:bC K H a xs) (k:∀o,H a=some o->H' a=some o):bC K H' a xs:=by
 rcases h with (h|⟨o,h⟩)|h
 ·exact .inl (.inl (k _ h))
 ·exact .inl (.inr ⟨o,k _ h⟩)
 ·exact .inr h
def Fv (K:PySem.W.Frag):Sp:=fun vs H Q _=>∃(a:Addr) (ns:List Int),vs=[.ref a]/\bC K H a (ns.map V.int)/\ns.length<=63 /\ ∀H',Q (.bl true) H'
theorem RJ {ao aA:Addr} {f:Addr} {fd:FuncData} (F:iY K "law" "law" qJ f fd) (P0:FnAt P w K mg base 1 "_law_reel" ["script"] (yQ K)) (xW:FnAt P w K mg base 11 "_law_rows_alike" ["reel"] (m9 K)) (bL:FnAt P w K mg base 1 "_law_draw" ["reel","many"] (gR K)) (E_:FnAt P w K mg base 5 "_law_program" ["reel"] (Dq K)) (Fb:FnAt P w K mg base 2 "_law_numbers" ["reel","many"] (Dr K)) (Fg:FnAt P w K mg base 5 "_law_changed" ["reel","program","numbers"] (rP K)) (Io:FnAt P w K mg base 2 "_law_orders" ["reel","hands"] (vB K)) (jQ:FnAt P w K mg base 10 "_law_gone_by" ["program","numbers","order","emptied"] (qF ao aA K)) (Aj:FnAt P w K mg base 1 "_law_same" ["one","other"] (yP K)) (wY:FnAt P w K mg base 10 "_law_right" ["one","other","alike","program"] (uI ao aA K)) (Bt:o8 mg):bV P w K mg base iD 12 f fd ["script"] (Fv K):=by
 refine F.ok gO (fun vs H Q E h=> ?_) (fun cdv A outer s H vs Q E hr h=> ?_)
 ·obtain ⟨a,ns,rfl,_⟩:=h
  rfl
 ·obtain ⟨sc,ns0,rfl,hs0,hlen,k⟩:=h
  have wj:=hr.units
  refine ⟨_,(aC (aY (i:=1) gO.nd rfl (Or.inl rfl) (bD P0 (hr.mono (by decide)) (by rfl) (aj (pv 0) au)))
   (aC (bU (pY (nD (bD xW (hr.mono (by decide)) (by rfl) (aj (pv 1) au)))) (aH (bA nH)) bB)
   (aC (nF PassesOwn.never rfl (iK (by rfl) Bt.mO (aj (bJ dM aq (bN (Ib rfl) (by rfl) Bt.Yg Tw (aj (bN (bF (K:=K) rfl) (by rfl) Bt.gj dR (aj (pv 0) au)) (aj aq au)))) au)) (bG (i:=2) gO.nd rfl (Or.inl rfl))
   (aC (aY (i:=3) gO.nd rfl (Or.inl rfl) (bD E_ (hr.mono (by decide)) (by rfl) (aj (pv 1) au)))
   (aC (aY (i:=4) gO.nd rfl (Or.inl rfl) (bD Fb (hr.mono (by decide)) (by rfl) (aj (pv 1) (aj (aO (aU (K:=K) rfl) (pv 3) aq (fun _ _=>rfl)) au))))
   (aC (dz (bD Fg (hr.mono (by decide)) (by rfl) (aj (pv 1) (aj (pv 3) (aj (pv 4) au)))) (jB (K:=K) (n:=2) rfl rfl (cL (bG (i:=5) gO.nd rfl (Or.inl rfl)) (cL (bG (i:=6) gO.nd rfl (Or.inl rfl)) jA))))
   (aC (dz (bD Io (hr.mono (by decide)) (by rfl) (aj (pv 1) (aj (bN (bF (K:=K) rfl) (by rfl) Bt.gj dR (aj (aO (aU (K:=K) rfl) (pv 3) aq (fun _ _=>rfl)) au)) au))) (jB (K:=K) (n:=2) rfl rfl (cL (bG (i:=7) gO.nd rfl (Or.inl rfl)) (cL (bG (i:=8) gO.nd rfl (Or.inl rfl)) jA))))
   (aC (aY (i:=9) gO.nd rfl (Or.inl rfl) (dY cT (bD bL (hr.mono (by decide)) (by rfl) (aj (pv 1) (aj aq au))) aq (aV _)))
   (aC (dz (bD jQ (hr.mono (by decide)) (by rfl) (aj (pv 3) (aj (pv 4) (aj (pv 7) (aj (pv 9) au))))) (jB (K:=K) (n:=2) rfl rfl (cL (bG (i:=10) gO.nd rfl (Or.inl rfl)) (cL (bG (i:=11) gO.nd rfl (Or.inl rfl)) jA))))
   (aC (dz (bD jQ (hr.mono (by decide)) (by rfl) (aj (pv 5) (aj (pv 6) (aj (pv 8) (aj (JG (pv 9)) au))))) (jB (K:=K) (n:=2) rfl rfl (cL (bG (i:=12) gO.nd rfl (Or.inl rfl)) (cL (bG (i:=13) gO.nd rfl (Or.inl rfl)) jA))))
   (aC (aY (i:=14) gO.nd rfl (Or.inl rfl) (sJ (dY (zB (K:=K) rfl wj) (pv 3) (pv 5) (aV _)) (sG (bD Aj (hr.mono (by decide)) (by rfl) (aj (pv 11) (aj (pv 13) au))))))
   (aH (bU (pY (nD (bD wY (hr.mono (by decide)) (by rfl) (aj (pv 10) (aj (pv 12) (aj (pv 14) (aj (pv 3) au))))))) (aH (bA nH)) bB)))))))))))
   (aH (bA nH))))), ?_⟩
  have zl:=sizeLine_eq;refine ⟨_,rfl,sc,ns0,rfl,hs0,hlen,fun r H1 hr0 R1 s1=> ?_⟩;refine ⟨_,rfl,r,rfl,R1,fun H2 R2 Za=>⟨_,rfl,fM ?_⟩⟩;unfold Fp;dsimp only;have afs:∀o,H sc=some o->sc≠r:=fun o e=>aB e hr0;have aeJ:Kp r H H2:=(Kp.of_same s1).trans Za;refine ⟨_,rfl,sc,_,rfl,.inl (Ju hs0 fun o e=>aeJ _ _ e (afs o e)),_,_,rfl,_,_,rfl,rfl,_,rfl,by rw [List.length_map];split<;>omega,by rw [List.length_map];split<;>omega, ?_⟩;refine yt (lo:=0) (fun j σ Hc=>∃(x2 x3 x4 x5 x6 x7 x8 x9 x10 x11 x12 x13 x14:Option V),σ=[some (.ref sc),some (.ref r),x2,x3,x4,x5,x6,x7,x8,x9,x10,x11,x12,x13,x14]/\dj Hc r) ⟨_,_,_,_,_,_,_,_,_,_,_,_,_,rfl,R2⟩ ?_ ?_
  ·rintro j σ Ha hj ⟨x2,x3,x4,x5,x6,x7,x8,x9,x10,x11,x12,x13,x14,rfl,Ra⟩
   have Ta:RT (fun _=>[]) Ha r:=⟨Ra,fun x o e t=>absurd rfl t,fun _ _=>rfl⟩;refine ⟨_,rfl,r,_,rfl,Ta,fun p L rs rws m τ3 H3 g3 w0 w8 m0 Oo Qk T3 Yy Sg=> ?_⟩;refine ⟨_,rfl,_,rfl,_,_,_,_,rfl,rfl,cA.of g3.ep,rfl,r,τ3,m,rfl,T3,Oo,fun nv ns τ4 H4 VP T4 Jo yp=> ?_⟩;have V7:∀i,Mv i τ3 H3 τ4 H4:=fun i=>⟨fun x o e t=>⟨yp _ _ e (T3.off x o e (by rcases t with t|t;rw [t];simp;intro z;rw [z] at t;cases t)).1,Jo x o e⟩,fun x xs e=>T3.R.tups yp _ _ e⟩;have g4:=(g3.mv (V7 0)).mv (Mv.jT (n:=0) (Nat.le_refl 0));have Y0:=VP.mv (Mv.jT (n:=0) (Nat.le_refl 0));have T5:=T4.jT (n:=0);have f5:∀x u,H4 x=some u->jT 0 τ4 x≠[9]:=fun x u _ z=>iz (n:=0) (i:=9) (τ:=τ4) (x:=x) (by decide) (by rw [z];rfl);generalize jT 0 τ4=τ5 at g4 Y0 T5 f5;clear T3 T4 VP g3 Yy Jo;refine ⟨_,rfl,_,rfl,_,rfl,r,p,L,nv,τ5,rs,rws,m,ns,rfl,T5,g4,Y0,f5,w0,w8,m0,Oo,Qk,fun t p' L' v' rs' k_ m' ns' τ6 H6 et6 g6' VN l6 m6 T6 QK Ql=> ?_⟩;have R0:∀i,Mv i τ5 H4 τ6 H6:=fun i=>⟨fun x o e t=>⟨Ql _ _ e (T5.off x o e (by rcases t with t|t;rw [t];simp;intro z;rw [z] at t;cases t)).1,QK x o e⟩,fun x xs e=>T5.R.tups Ql _ _ e⟩;have g6:=g4.mv (R0 0);have nv6:=Y0.mv (R0 0);refine ⟨t,_,rfl,cA.of et6,rfl,_,_,rfl,_,_,rfl,rfl, ?_⟩;have rsl:(rs.map V.ref).length=rws.length:=by rw [List.length_map,g6.len]
   refine ⟨_,rfl,_,rfl,_,_,_,_,rfl,rfl,cA.of g6.ep,rfl,L,_,rfl,.inl (bC.of g6.eL), ?_⟩;rw [rsl];refine ⟨r,τ6,rws.length,rfl,T6,by omega,by omega,fun t7 a b os os' τ7 H7 et7 ea7 eb7 oo oo' ol ol' ta tb T7 kt7 kp7=> ?_⟩;have Km:∀i,Mv i τ6 H6 τ7 H7:=fun i=>⟨fun x o e t=>kt7 x o e (by rcases t with t|t;rw [t];simp;intro z;rw [z] at t;cases t),fun x xs e=>T6.R.tups kp7 _ _ e⟩;have g7:=g6.mv (Km 0);have nv7:=nv6.mv (Km 0);have g7':=g6'.mv (Km 0);have VL:=VN.mv (Km 0);refine ⟨t7,_,rfl,cA.of et7,rfl,_,_,rfl,_,_,rfl,rfl, ?_⟩;refine ⟨_,rfl,r,2,rfl,T7.R,by decide,by decide,fun em H8 _ _ R8 k8=>⟨rfl, ?_⟩⟩;have T8:=T7.draw k8 R8;have g8:=(g7.mv (T7.kr (i:=0) k8)).mv (Mv.jT (n:=0) (Nat.le_refl 0));have nv8:=(nv7.mv (T7.kr (i:=0) k8)).mv (Mv.jT (n:=0) (Nat.le_refl 0));have g8':=(g7'.mv (T7.kr (i:=0) k8)).mv (Mv.jT (n:=0) (Nat.le_refl 0));have RN:=(VL.mv (T7.kr (i:=0) k8)).mv (Mv.jT (n:=0) (Nat.le_refl 0));have W_:=T7.keep k8 ea7 (by rw [ta];simp);have eb8:=T7.keep k8 eb7 (by rw [tb];simp);have T9:=T8.jT (n:=0);have fr:∀x u,H8 x=some u->(jT 0 τ7 x).head?≠some 1/\(jT 0 τ7 x).head?≠some 2:=fun x u _=>⟨iz (by decide),iz (by decide)⟩;generalize jT 0 τ7=τ8 at T9 g8 nv8 g8' RN fr;clear T8 g7 nv7 g7' VL g6 nv6 g6' VN T7 T6 T5 g4 Y0 kt7 Km R0 et6 et7 ea7 eb7 ta tb QK V7 f5;dsimp only [dO];generalize decide (V.int em=V.int 0)=emb;refine ⟨_,rfl,_,rfl,_,rfl,_,rfl,1,2,τ8,p,L,rs,rws,m,nv,ns,a,os,emb,rfl,g8,by omega,by omega,nv8,T9.un,by decide,by decide,by decide,fr,W_,ol,fun t1 W S L1 cs τa Hb W3 w1 l1 cn1 Uv W7 Ml tl1 _ CK s1=> ?_⟩;refine ⟨t1,_,rfl,cA.of W3,rfl,_,_,rfl,_,_,rfl,rfl, ?_⟩;have wb:=w1.mv (Mv.jT (n:=2) (by decide)) (Dj w1.un);have lb:=l1.mv (Mv.jT (n:=2) (by decide));have gb:=(g8.mv (Mv.tags (i:=0) s1 CK)).mv (Mv.jT (n:=2) (Nat.zero_le _));have gb':=(g8'.mv (Mv.tags (i:=0) s1 CK)).mv (Mv.jT (n:=2) (Nat.zero_le _));have VJ:=(RN.mv (Mv.tags (i:=0) s1 CK)).mv (Mv.jT (n:=2) (Nat.zero_le _));have frb:∀x u,Hb x=some u->(jT 2 τa x).head?≠some 3/\(jT 2 τa x).head?≠some 4:=fun x u _=>⟨iz (by decide),iz (by decide)⟩;generalize jT 2 τa=τb at wb lb gb gb' VJ frb;clear w1 l1 W3 g8 g8' nv8 RN CK;refine ⟨_,rfl,_,rfl,_,rfl,_,rfl,_,rfl,3,4,τb,p',L',rs',k_,m',v',ns',b,os', !emb,rfl,gb',by omega,by omega,VJ,wb.un,by decide,by decide,by decide,frb,s1 _ _ eb8,ol',fun t2 W' S' L2 cs' τc Hc et4 w4 l4 cn4 SQ W5 Uy tl4 _ Jo s4=> ?_⟩;refine ⟨t2,_,rfl,cA.of et4,rfl,_,_,rfl,_,_,rfl,rfl, ?_⟩;have wc:=wb.mv (Mv.tags s4 Jo) w4.un;have lc:=lb.mv (Mv.tags s4 Jo);have gc:=gb.mv (Mv.tags (i:=0) s4 Jo);have gc':=gb'.mv (Mv.tags (i:=0) s4 Jo);have sh1:SeqAt.shaped (pD m rws)=true:=by rw [←jV W7 Ml];exact nu Uv wc.pF
   have sh2:SeqAt.shaped (pD m' k_)=true:=by rw [←jV W5 Uy];exact nu SQ w4.pF
   have hne:S.hs≠[]:=fun z=>by rw [z] at Ml;rw [←Ml] at w0;exact absurd w0 (by decide)
   have nW:W.o≠W'.o:=bY wc.to w4.to (by decide);dsimp only;refine gU (fun σ Hd=>∃bb:Bool,σ=[some (.ref sc),some (.ref r),some (.int (0+(j:Int))),some (.ref p),some nv,some (.ref p'),some v',some (.ref a),some (.ref b),some (.bl emb),some (.ref W.o),some (.ref L1.st),some (.ref W'.o),some (.ref L2.st),some (.bl bb)]/\Same Hc Hd/\Fi S S'=bb) (fun D' hD' _=> ?_) ?_
   ·refine ⟨_,rfl,_,rfl,_,_,gc.dat,gc'.dat,sh1,sh2, ?_⟩
    rw [if_neg Bool.false_ne_true];refine ⟨_,rfl, ?_⟩
    by_cases ee:PyData.eqv (pD m rws) (pD m' k_)=true
    ·rw [ee]
     refine iR ?_;refine ⟨_,rfl,_,rfl,2,4,τc,τc,L1,L2,_,_,_,_,cs,cs',rfl,lc,l4,fun s hs=>Aw (Uv.t s hs),fun s hs=>Aw (SQ.t s hs),fun bb H5 hb s5=> ?_⟩;refine hD' _ _ ⟨bb,rfl,s5,Jf cn1 cn4 ?_⟩;rw [hb,jV W7 Ml,jV W5 Uy];exact ⟨fun h=>⟨ee,h⟩,fun h=>h.2⟩
    ·rw [Bool.not_eq_true] at ee
     rw [ee];refine fM ?_;refine hD' _ _ ⟨false,rfl,Same.refl _,Jf cn1 cn4 ?_⟩;rw [jV W7 Ml,jV W5 Uy,ee];exact ⟨fun z=>(by cases z),fun z=>(by cases z.1)⟩
   rintro σ Hd ⟨bb,rfl,sd,eA⟩;have wd:=wc.same sd;have vd:=w4.same sd;refine ⟨_,rfl,_,rfl,_,rfl,_,rfl,1,3,τc,τc,W,W',S,S',bb,p,L,_,_,rfl,wd,vd,Uv,SQ,by omega,by omega,by omega,by omega,hne,nW,eA,sd _ _ gc.ep,sd _ _ gc.eL,fun He se=> ?_⟩;refine ⟨_,rfl,fM ?_⟩;exact ⟨_,_,_,_,_,_,_,_,_,_,_,_,_,rfl,T9.R.keep (s1.trans (s4.trans (sd.trans se)))⟩
  ·rintro σ Hc _
   exact k _
end
theorem len0 {us:List Value} (h:us.length=0):us=[]:=List.eq_nil_of_length_eq_zero h
theorem bT {us:List Value} {n:Nat} (h:us.length=n+1):∃a vs,us=a::vs/\vs.length=n:=by
 cases us with
 | nil=>cases h
 | cons a t=>exact ⟨a,t,rfl,Nat.succ.inj h⟩
theorem Ce (kV doc pm:Value) (an:Option Addr) (cdv ct:Value) (us:List Value) (hl:us.length=(["value"]:List Str).length):bindArgs (PySem.W.fnOf "is_whole" "is_whole" (aM fu) (aK fu) (aD fu) .none kV doc pm an cdv ct) ⟨us,[]⟩=pure ((["value"]:List Str).zip us):=by obtain ⟨_,_,rfl,h1⟩:=bT hl;cases len0 h1;rfl
theorem Cg (kV doc pm:Value) (an:Option Addr) (cdv ct:Value) (us:List Value) (hl:us.length=(["value","count"]:List Str).length):bindArgs (PySem.W.fnOf "is_below" "is_below" (aM fB) (aK fB) (aD fB) .none kV doc pm an cdv ct) ⟨us,[]⟩=pure ((["value","count"]:List Str).zip us):=by obtain ⟨_,_,rfl,h1⟩:=bT hl;obtain ⟨_,_,rfl,h2⟩:=bT h1;cases len0 h2;rfl
theorem z8 (kV doc pm:Value) (an:Option Addr) (cdv ct:Value) (us:List Value) (hl:us.length=(["self","rows"]:List Str).length):bindArgs (PySem.W.fnOf "__init__" "Hand.__init__" (aM eE) (aK eE) (aD eE) .none kV doc pm an cdv ct) ⟨us,[]⟩=pure ((["self","rows"]:List Str).zip us):=by obtain ⟨_,_,rfl,h1⟩:=bT hl;obtain ⟨_,_,rfl,h2⟩:=bT h1;cases len0 h2;rfl
theorem Ep (kV doc pm:Value) (an:Option Addr) (cdv ct:Value) (us:List Value) (hl:us.length=(["row"]:List Str).length):bindArgs (PySem.W.fnOf "cell_of" "cell_of" (aM gw) (aK gw) (aD gw) .none kV doc pm an cdv ct) ⟨us,[]⟩=pure ((["row"]:List Str).zip us):=by obtain ⟨_,_,rfl,h1⟩:=bT hl;cases len0 h1;rfl
theorem iV (kV doc pm:Value) (an:Option Addr) (cdv ct:Value) (us:List Value) (hl:us.length=(["self","part"]:List Str).length):bindArgs (PySem.W.fnOf "value_of" "Hand.value_of" (aM cu) (aK cu) (aD cu) .none kV doc pm an cdv ct) ⟨us,[]⟩=pure ((["self","part"]:List Str).zip us):=by obtain ⟨_,_,rfl,h1⟩:=bT hl;obtain ⟨_,_,rfl,h2⟩:=bT h1;cases len0 h2;rfl
theorem xQ (kV doc pm:Value) (an:Option Addr) (cdv ct:Value) (us:List Value) (hl:us.length=(["self","row"]:List Str).length):bindArgs (PySem.W.fnOf "holds" "Hand.holds" (aM dJ) (aK dJ) (aD dJ) .none kV doc pm an cdv ct) ⟨us,[]⟩=pure ((["self","row"]:List Str).zip us):=by obtain ⟨_,_,rfl,h1⟩:=bT hl;obtain ⟨_,_,rfl,h2⟩:=bT h1;cases len0 h2;rfl
theorem z7 (kV doc pm:Value) (an:Option Addr) (cdv ct:Value) (us:List Value) (hl:us.length=(["self","box","number"]:List Str).length):bindArgs (PySem.W.fnOf "take" "Hand.take" (aM d_) (aK d_) (aD d_) .none kV doc pm an cdv ct) ⟨us,[]⟩=pure ((["self","box","number"]:List Str).zip us):=by obtain ⟨_,_,rfl,h1⟩:=bT hl;obtain ⟨_,_,rfl,h2⟩:=bT h1;obtain ⟨_,_,rfl,h3⟩:=bT h2;cases len0 h3;rfl
theorem Et (kV doc pm:Value) (an:Option Addr) (cdv ct:Value) (us:List Value) (hl:us.length=(["self","row"]:List Str).length):bindArgs (PySem.W.fnOf "do" "Hand.do" (aM gB) (aK gB) (aD gB) .none kV doc pm an cdv ct) ⟨us,[]⟩=pure ((["self","row"]:List Str).zip us):=by obtain ⟨_,_,rfl,h1⟩:=bT hl;obtain ⟨_,_,rfl,h2⟩:=bT h1;cases len0 h2;rfl
theorem uE (kV doc pm:Value) (an:Option Addr) (cdv ct:Value) (us:List Value) (hl:us.length=(["self"]:List Str).length):bindArgs (PySem.W.fnOf "lead_on" "Hand.lead_on" (aM cQ) (aK cQ) (aD cQ) .none kV doc pm an cdv ct) ⟨us,[]⟩=pure ((["self"]:List Str).zip us):=by obtain ⟨_,_,rfl,h1⟩:=bT hl;cases len0 h1;rfl
theorem tO (kV doc pm:Value) (an:Option Addr) (cdv ct:Value) (us:List Value) (hl:us.length=(["cells","count"]:List Str).length):bindArgs (PySem.W.fnOf "check_numbers" "check_numbers" (aM cF) (aK cF) (aD cF) .none kV doc pm an cdv ct) ⟨us,[]⟩=pure ((["cells","count"]:List Str).zip us):=by obtain ⟨_,_,rfl,h1⟩:=bT hl;obtain ⟨_,_,rfl,h2⟩:=bT h1;cases len0 h2;rfl
theorem qX (kV doc pm:Value) (an:Option Addr) (cdv ct:Value) (us:List Value) (hl:us.length=(["self","one"]:List Str).length):bindArgs (PySem.W.fnOf "touch_by" "Works.touch_by" (aM cC) (aK cC) (aD cC) .none kV doc pm an cdv ct) ⟨us,[]⟩=pure ((["self","one"]:List Str).zip us):=by obtain ⟨_,_,rfl,h1⟩:=bT hl;obtain ⟨_,_,rfl,h2⟩:=bT h1;cases len0 h2;rfl
theorem tR (kV doc pm:Value) (an:Option Addr) (cdv ct:Value) (us:List Value) (hl:us.length=(["self","hand"]:List Str).length):bindArgs (PySem.W.fnOf "hand_of" "Works.hand_of" (aM cH) (aK cH) (aD cH) .none kV doc pm an cdv ct) ⟨us,[]⟩=pure ((["self","hand"]:List Str).zip us):=by obtain ⟨_,_,rfl,h1⟩:=bT hl;obtain ⟨_,_,rfl,h2⟩:=bT h1;cases len0 h2;rfl
theorem xO (kV doc pm:Value) (an:Option Addr) (cdv ct:Value) (us:List Value) (hl:us.length=(["self","hand"]:List Str).length):bindArgs (PySem.W.fnOf "turn" "Works.turn" (aM dH) (aK dH) (aD dH) .none kV doc pm an cdv ct) ⟨us,[]⟩=pure ((["self","hand"]:List Str).zip us):=by obtain ⟨_,_,rfl,h1⟩:=bT hl;obtain ⟨_,_,rfl,h2⟩:=bT h1;cases len0 h2;rfl
theorem wR {K:PySem.W.Frag} {T:Addr} {tc:Value} {td:Option Addr} {tn:Nat} {Mt:Array (Option Value)} (d:K.lookup T=some ⟨tc,td,.seq #[.none] tn,Mt⟩) {kV doc pm:Value} {an:Option Addr} {cdv ct:Value}:Binds K (PySem.W.fnOf "__init__" "Works.__init__" (aM bW) (aK bW) (aD bW) (.ref T) kV doc pm an cdv ct) ["self","program","cells"] []:=by
 intro s us KX hl;have hl:us.length=3:=by simpa using hl
 obtain ⟨_,_,rfl,h1⟩:=bT hl;obtain ⟨_,_,rfl,h2⟩:=bT h1;obtain ⟨_,_,rfl,h3⟩:=bT h2;cases len0 h3;exact PySem.W.binds_K KX rfl d rfl rfl rfl
theorem wQ {K:PySem.W.Frag} {T:Addr} {tc:Value} {td:Option Addr} {tn:Nat} {Mt:Array (Option Value)} (d:K.lookup T=some ⟨tc,td,.seq #[.none] tn,Mt⟩) {kV doc pm:Value} {an:Option Addr} {cdv ct:Value}:Binds K (PySem.W.fnOf "__init__" "Works.__init__" (aM bW) (aK bW) (aD bW) (.ref T) kV doc pm an cdv ct) ["self","program","cells"] [.none]:=by
 intro s us KX hl;have hl:us.length=2:=by simpa using hl
 obtain ⟨_,_,rfl,h1⟩:=bT hl;obtain ⟨_,_,rfl,h2⟩:=bT h1;cases len0 h2;exact PySem.W.binds_K KX rfl d rfl rfl rfl
theorem wO {K:PySem.W.Frag} {T:Addr} {tc:Value} {td:Option Addr} {tn:Nat} {Mt:Array (Option Value)} (d:K.lookup T=some ⟨tc,td,.seq #[.none] tn,Mt⟩) {kV doc pm:Value} {an:Option Addr} {cdv ct:Value} (s:Shared) (us:List Value) (z:Value) (KX:K.In s.heap) (hl:(us++[z]).length=(["self","program","cells"]:List Str).length):BindsTo s (PySem.W.fnOf "__init__" "Works.__init__" (aM bW) (aK bW) (aD bW) (.ref T) kV doc pm an cdv ct) ⟨us,[("cells",z)]⟩ ((["self","program","cells"]:List Str).zip (us++[z])):=by
 have hl:us.length=2:=by simpa using hl
 obtain ⟨_,_,rfl,h1⟩:=bT hl;obtain ⟨_,_,rfl,h2⟩:=bT h1;cases len0 h2;exact PySem.W.binds_K KX rfl d rfl rfl rfl
theorem Lx (kV doc pm:Value) (an:Option Addr) (cdv ct:Value) (us:List Value) (hl:us.length=(["script"]:List Str).length):bindArgs (PySem.W.fnOf "_law_reel" "_law_reel" (aM jx) (aK jx) (aD jx) .none kV doc pm an cdv ct) ⟨us,[]⟩=pure ((["script"]:List Str).zip us):=by obtain ⟨_,_,rfl,h1⟩:=bT hl;cases len0 h1;rfl
theorem Lz (kV doc pm:Value) (an:Option Addr) (cdv ct:Value) (us:List Value) (hl:us.length=(["reel","many"]:List Str).length):bindArgs (PySem.W.fnOf "_law_draw" "_law_draw" (aM jz) (aK jz) (aD jz) .none kV doc pm an cdv ct) ⟨us,[]⟩=pure ((["reel","many"]:List Str).zip us):=by obtain ⟨_,_,rfl,h1⟩:=bT hl;obtain ⟨_,_,rfl,h2⟩:=bT h1;cases len0 h2;rfl
theorem Ij (kV doc pm:Value) (an:Option Addr) (cdv ct:Value) (us:List Value) (hl:us.length=(["reel","boxes"]:List Str).length):bindArgs (PySem.W.fnOf "_law_plain" "_law_plain" (aM g_) (aK g_) (aD g_) .none kV doc pm an cdv ct) ⟨us,[]⟩=pure ((["reel","boxes"]:List Str).zip us):=by obtain ⟨_,_,rfl,h1⟩:=bT hl;obtain ⟨_,_,rfl,h2⟩:=bT h1;cases len0 h2;rfl
theorem Ig (kV doc pm:Value) (an:Option Addr) (cdv ct:Value) (us:List Value) (hl:us.length=(["reel","boxes"]:List Str).length):bindArgs (PySem.W.fnOf "_law_worth" "_law_worth" (aM gW) (aK gW) (aD gW) .none kV doc pm an cdv ct) ⟨us,[]⟩=pure ((["reel","boxes"]:List Str).zip us):=by obtain ⟨_,_,rfl,h1⟩:=bT hl;obtain ⟨_,_,rfl,h2⟩:=bT h1;cases len0 h2;rfl
theorem Pr (kV doc pm:Value) (an:Option Addr) (cdv ct:Value) (us:List Value) (hl:us.length=(["reel","sizes","at"]:List Str).length):bindArgs (PySem.W.fnOf "_law_row" "_law_row" (aM mD) (aK mD) (aD mD) .none kV doc pm an cdv ct) ⟨us,[]⟩=pure ((["reel","sizes","at"]:List Str).zip us):=by obtain ⟨_,_,rfl,h1⟩:=bT hl;obtain ⟨_,_,rfl,h2⟩:=bT h1;obtain ⟨_,_,rfl,h3⟩:=bT h2;cases len0 h3;rfl
theorem Ci (kV doc pm:Value) (an:Option Addr) (cdv ct:Value) (us:List Value) (hl:us.length=(["reel"]:List Str).length):bindArgs (PySem.W.fnOf "_law_program" "_law_program" (aM fG) (aK fG) (aD fG) .none kV doc pm an cdv ct) ⟨us,[]⟩=pure ((["reel"]:List Str).zip us):=by obtain ⟨_,_,rfl,h1⟩:=bT hl;cases len0 h1;rfl
theorem z6 (kV doc pm:Value) (an:Option Addr) (cdv ct:Value) (us:List Value) (hl:us.length=(["boxes","told"]:List Str).length):bindArgs (PySem.W.fnOf "_law_now" "_law_now" (aM kJ) (aK kJ) (aD kJ) .none kV doc pm an cdv ct) ⟨us,[]⟩=pure ((["boxes","told"]:List Str).zip us):=by obtain ⟨_,_,rfl,h1⟩:=bT hl;obtain ⟨_,_,rfl,h2⟩:=bT h1;cases len0 h2;rfl
theorem Pu (kV doc pm:Value) (an:Option Addr) (cdv ct:Value) (us:List Value) (hl:us.length=(["hand","row"]:List Str).length):bindArgs (PySem.W.fnOf "_law_own" "_law_own" (aM mF) (aK mF) (aD mF) .none kV doc pm an cdv ct) ⟨us,[]⟩=pure ((["hand","row"]:List Str).zip us):=by obtain ⟨_,_,rfl,h1⟩:=bT hl;obtain ⟨_,_,rfl,h2⟩:=bT h1;cases len0 h2;rfl
theorem Px (kV doc pm:Value) (an:Option Addr) (cdv ct:Value) (us:List Value) (hl:us.length=(["hand","rows"]:List Str).length):bindArgs (PySem.W.fnOf "_law_led" "_law_led" (aM mG) (aK mG) (aD mG) .none kV doc pm an cdv ct) ⟨us,[]⟩=pure ((["hand","rows"]:List Str).zip us):=by obtain ⟨_,_,rfl,h1⟩:=bT hl;obtain ⟨_,_,rfl,h2⟩:=bT h1;cases len0 h2;rfl
theorem Il (kV doc pm:Value) (an:Option Addr) (cdv ct:Value) (us:List Value) (hl:us.length=(["program","numbers"]:List Str).length):bindArgs (PySem.W.fnOf "_law_begun" "_law_begun" (aM ig) (aK ig) (aD ig) .none kV doc pm an cdv ct) ⟨us,[]⟩=pure ((["program","numbers"]:List Str).zip us):=by obtain ⟨_,_,rfl,h1⟩:=bT hl;obtain ⟨_,_,rfl,h2⟩:=bT h1;cases len0 h2;rfl
theorem Ly (kV doc pm:Value) (an:Option Addr) (cdv ct:Value) (us:List Value) (hl:us.length=(["state","program","k"]:List Str).length):bindArgs (PySem.W.fnOf "_law_gone" "_law_gone" (aM jy) (aK jy) (aD jy) .none kV doc pm an cdv ct) ⟨us,[]⟩=pure ((["state","program","k"]:List Str).zip us):=by obtain ⟨_,_,rfl,h1⟩:=bT hl;obtain ⟨_,_,rfl,h2⟩:=bT h1;obtain ⟨_,_,rfl,h3⟩:=bT h2;cases len0 h3;rfl
theorem Cj (kV doc pm:Value) (an:Option Addr) (cdv ct:Value) (us:List Value) (hl:us.length=(["reel","many"]:List Str).length):bindArgs (PySem.W.fnOf "_law_numbers" "_law_numbers" (aM fH) (aK fH) (aD fH) .none kV doc pm an cdv ct) ⟨us,[]⟩=pure ((["reel","many"]:List Str).zip us):=by obtain ⟨_,_,rfl,h1⟩:=bT hl;obtain ⟨_,_,rfl,h2⟩:=bT h1;cases len0 h2;rfl
theorem Ih (kV doc pm:Value) (an:Option Addr) (cdv ct:Value) (us:List Value) (hl:us.length=(["program","numbers"]:List Str).length):bindArgs (PySem.W.fnOf "_law_works" "_law_works" (aM gY) (aK gY) (aD gY) .none kV doc pm an cdv ct) ⟨us,[]⟩=pure ((["program","numbers"]:List Str).zip us):=by obtain ⟨_,_,rfl,h1⟩:=bT hl;obtain ⟨_,_,rfl,h2⟩:=bT h1;cases len0 h2;rfl
theorem Ik (kV doc pm:Value) (an:Option Addr) (cdv ct:Value) (us:List Value) (hl:us.length=(["program","numbers"]:List Str).length):bindArgs (PySem.W.fnOf "_law_first" "_law_first" (aM h_) (aK h_) (aD h_) .none kV doc pm an cdv ct) ⟨us,[]⟩=pure ((["program","numbers"]:List Str).zip us):=by obtain ⟨_,_,rfl,h1⟩:=bT hl;obtain ⟨_,_,rfl,h2⟩:=bT h1;cases len0 h2;rfl
theorem wL (kV doc pm:Value) (an:Option Addr) (cdv ct:Value) (us:List Value) (hl:us.length=(["self"]:List Str).length):bindArgs (PySem.W.fnOf "cells" "Works.cells" (aM cW) (aK cW) (aD cW) .none kV doc pm an cdv ct) ⟨us,[]⟩=pure ((["self"]:List Str).zip us):=by obtain ⟨_,_,rfl,h1⟩:=bT hl;cases len0 h1;rfl
theorem wM (kV doc pm:Value) (an:Option Addr) (cdv ct:Value) (us:List Value) (hl:us.length=(["self","hand"]:List Str).length):bindArgs (PySem.W.fnOf "boxes" "Works.boxes" (aM cX) (aK cX) (aD cX) .none kV doc pm an cdv ct) ⟨us,[]⟩=pure ((["self","hand"]:List Str).zip us):=by obtain ⟨_,_,rfl,h1⟩:=bT hl;obtain ⟨_,_,rfl,h2⟩:=bT h1;cases len0 h2;rfl
theorem xP (kV doc pm:Value) (an:Option Addr) (cdv ct:Value) (us:List Value) (hl:us.length=(["self","hand"]:List Str).length):bindArgs (PySem.W.fnOf "said" "Works.said" (aM dI) (aK dI) (aD dI) .none kV doc pm an cdv ct) ⟨us,[]⟩=pure ((["self","hand"]:List Str).zip us):=by obtain ⟨_,_,rfl,h1⟩:=bT hl;obtain ⟨_,_,rfl,h2⟩:=bT h1;cases len0 h2;rfl
theorem uy (kV doc pm:Value) (an:Option Addr) (cdv ct:Value) (us:List Value) (hl:us.length=(["self"]:List Str).length):bindArgs (PySem.W.fnOf "counts" "Works.counts" (aM cN) (aK cN) (aD cN) .none kV doc pm an cdv ct) ⟨us,[]⟩=pure ((["self"]:List Str).zip us):=by obtain ⟨_,_,rfl,h1⟩:=bT hl;cases len0 h1;rfl
theorem tU (kV doc pm:Value) (an:Option Addr) (cdv ct:Value) (us:List Value) (hl:us.length=(["self"]:List Str).length):bindArgs (PySem.W.fnOf "__len__" "Works.__len__" (aM cI) (aK cI) (aD cI) .none kV doc pm an cdv ct) ⟨us,[]⟩=pure ((["self"]:List Str).zip us):=by obtain ⟨_,_,rfl,h1⟩:=bT hl;cases len0 h1;rfl
theorem uF (kV doc pm:Value) (an:Option Addr) (cdv ct:Value) (us:List Value) (hl:us.length=(["self"]:List Str).length):bindArgs (PySem.W.fnOf "another" "Hand.another" (aM cR) (aK cR) (aD cR) .none kV doc pm an cdv ct) ⟨us,[]⟩=pure ((["self"]:List Str).zip us):=by obtain ⟨_,_,rfl,h1⟩:=bT hl;cases len0 h1;rfl
theorem xM (kV doc pm:Value) (an:Option Addr) (cdv ct:Value) (us:List Value) (hl:us.length=(["self"]:List Str).length):bindArgs (PySem.W.fnOf "twin" "Works.twin" (aM dG) (aK dG) (aD dG) .none kV doc pm an cdv ct) ⟨us,[]⟩=pure ((["self"]:List Str).zip us):=by obtain ⟨_,_,rfl,h1⟩:=bT hl;cases len0 h1;rfl
theorem uD (kV doc pm:Value) (an:Option Addr) (cdv ct:Value) (us:List Value) (hl:us.length=(["self"]:List Str).length):bindArgs (PySem.W.fnOf "picture" "Hand.picture" (aM cP) (aK cP) (aD cP) .none kV doc pm an cdv ct) ⟨us,[]⟩=pure ((["self"]:List Str).zip us):=by obtain ⟨_,_,rfl,h1⟩:=bT hl;cases len0 h1;rfl
theorem tQ (kV doc pm:Value) (an:Option Addr) (cdv ct:Value) (us:List Value) (hl:us.length=(["self"]:List Str).length):bindArgs (PySem.W.fnOf "picture" "Works.picture" (aM cG) (aK cG) (aD cG) .none kV doc pm an cdv ct) ⟨us,[]⟩=pure ((["self"]:List Str).zip us):=by obtain ⟨_,_,rfl,h1⟩:=bT hl;cases len0 h1;rfl
theorem uz (kV doc pm:Value) (an:Option Addr) (cdv ct:Value) (us:List Value) (hl:us.length=(["self","other"]:List Str).length):bindArgs (PySem.W.fnOf "__eq__" "Works.__eq__" (aM cO) (aK cO) (aD cO) .none kV doc pm an cdv ct) ⟨us,[]⟩=pure ((["self","other"]:List Str).zip us):=by obtain ⟨_,_,rfl,h1⟩:=bT hl;obtain ⟨_,_,rfl,h2⟩:=bT h1;cases len0 h2;rfl
theorem Lw (kV doc pm:Value) (an:Option Addr) (cdv ct:Value) (us:List Value) (hl:us.length=(["one","other"]:List Str).length):bindArgs (PySem.W.fnOf "_law_same" "_law_same" (aM jw) (aK jw) (aD jw) .none kV doc pm an cdv ct) ⟨us,[]⟩=pure ((["one","other"]:List Str).zip us):=by obtain ⟨_,_,rfl,h1⟩:=bT hl;obtain ⟨_,_,rfl,h2⟩:=bT h1;cases len0 h2;rfl
theorem Es (kV doc pm:Value) (an:Option Addr) (cdv ct:Value) (us:List Value) (hl:us.length=(["reel","hands"]:List Str).length):bindArgs (PySem.W.fnOf "_law_orders" "_law_orders" (aM gA) (aK gA) (aD gA) .none kV doc pm an cdv ct) ⟨us,[]⟩=pure ((["reel","hands"]:List Str).zip us):=by obtain ⟨_,_,rfl,h1⟩:=bT hl;obtain ⟨_,_,rfl,h2⟩:=bT h1;cases len0 h2;rfl
theorem Cm (kV doc pm:Value) (an:Option Addr) (cdv ct:Value) (us:List Value) (hl:us.length=(["program","numbers"]:List Str).length):bindArgs (PySem.W.fnOf "_law_emptied" "_law_emptied" (aM fK) (aK fK) (aD fK) .none kV doc pm an cdv ct) ⟨us,[]⟩=pure ((["program","numbers"]:List Str).zip us):=by obtain ⟨_,_,rfl,h1⟩:=bT hl;obtain ⟨_,_,rfl,h2⟩:=bT h1;cases len0 h2;rfl
theorem Ck (kV doc pm:Value) (an:Option Addr) (cdv ct:Value) (us:List Value) (hl:us.length=(["program","numbers","order","emptied"]:List Str).length):bindArgs (PySem.W.fnOf "_law_gone_by" "_law_gone_by" (aM fJ) (aK fJ) (aD fJ) .none kV doc pm an cdv ct) ⟨us,[]⟩=pure ((["program","numbers","order","emptied"]:List Str).zip us):=by obtain ⟨_,_,rfl,h1⟩:=bT hl;obtain ⟨_,_,rfl,h2⟩:=bT h1;obtain ⟨_,_,rfl,h3⟩:=bT h2;obtain ⟨_,_,rfl,h4⟩:=bT h3;cases len0 h4;rfl
theorem Ii (kV doc pm:Value) (an:Option Addr) (cdv ct:Value) (us:List Value) (hl:us.length=(["one","other","alike","program"]:List Str).length):bindArgs (PySem.W.fnOf "_law_right" "_law_right" (aM gZ) (aK gZ) (aD gZ) .none kV doc pm an cdv ct) ⟨us,[]⟩=pure ((["one","other","alike","program"]:List Str).zip us):=by obtain ⟨_,_,rfl,h1⟩:=bT hl;obtain ⟨_,_,rfl,h2⟩:=bT h1;obtain ⟨_,_,rfl,h3⟩:=bT h2;obtain ⟨_,_,rfl,h4⟩:=bT h3;cases len0 h4;rfl
theorem Cp (kV doc pm:Value) (an:Option Addr) (cdv ct:Value) (us:List Value) (hl:us.length=(["reel","program","numbers"]:List Str).length):bindArgs (PySem.W.fnOf "_law_changed" "_law_changed" (aM fL) (aK fL) (aD fL) .none kV doc pm an cdv ct) ⟨us,[]⟩=pure ((["reel","program","numbers"]:List Str).zip us):=by obtain ⟨_,_,rfl,h1⟩:=bT hl;obtain ⟨_,_,rfl,h2⟩:=bT h1;obtain ⟨_,_,rfl,h3⟩:=bT h2;cases len0 h3;rfl
theorem zZ (kV doc pm:Value) (an:Option Addr) (cdv ct:Value) (us:List Value) (hl:us.length=(["reel"]:List Str).length):bindArgs (PySem.W.fnOf "_law_two_rows" "_law_two_rows" (aM d9) (aK d9) (aD d9) .none kV doc pm an cdv ct) ⟨us,[]⟩=pure ((["reel"]:List Str).zip us):=by obtain ⟨_,_,rfl,h1⟩:=bT hl;cases len0 h1;rfl
theorem wN (kV doc pm:Value) (an:Option Addr) (cdv ct:Value) (us:List Value) (hl:us.length=(["reel"]:List Str).length):bindArgs (PySem.W.fnOf "_law_rows_alike" "_law_rows_alike" (aM cY) (aK cY) (aD cY) .none kV doc pm an cdv ct) ⟨us,[]⟩=pure ((["reel"]:List Str).zip us):=by obtain ⟨_,_,rfl,h1⟩:=bT hl;cases len0 h1;rfl
theorem all_mk {l:PySem.W.OpenLaw} {w:World} {K:PySem.W.Frag} {h:Heap} {mg:Str->Option Value} {fa f0 f1 f2 f3 f4 f5 f6 f7 f8 f9 Ux f11 W0 Qs f14 f15 f16 f17 f18 f19 Uw f21 f22 f23 f24 f25 Z_ Z9 WY WX WW WT f32 WR WQ WM WL WK Z8 Z7 Z6 Z5 Z4 Z2 Z1 Z0 f46 aA ao aZ bM fQ gn:Addr} (X:K.In h) (G:h.Ns mainGlobals mg) (hfa:mg "law" = some (.ref fa))
 {od0 an0 od1 an1 YZ an2 od3 an3 od4 an4 od5 an5 od6 an6 od7 an7 od8 an8 od9 an9 ac_ aiv ac9 aiu ac8 ait ac7 ais ac6 air ac5 aiq ac4 aip ac3 aio ac2 ain ac1 ail ac0 aik acZ aij acY aii acX aif acW aie acV aic acU aib acT aia acS ah' acR ah_ acQ ah9 acP ah8 acO ah7 acN ah6 acM ah5 acL ah4 acK ah3 acJ ah2 acI ah1 acH ah0 acG ahZ acF ahY acE ahX acD ahW acC ahV acB ahU acA Yj:Option Addr} {sl0 sl1 sl2 sl3 Vp sl5 sl6 Ud Mf sl9 abA abz aby abx abw abv abu abt abr abq abp abo abn abm abl abk abj abh abg abf abe abd abb aa' aa_ aa9 aa8 aa7 aa6 aa5 aa4 aa3 aa2 aa1 aa0 aaZ aaY:Array (Option Value)} {oc0 kV0 dc0 pm0 cd0 ct0 oc1 kV1 dc1 pm1 cd1 ct1 oc2 kV2 dc2 pm2 cd2 ct2 oc3 kV3 dc3 pm3 cd3 ct3 oc4 kV4 dc4 pm4 cd4 ct4 oc5 kV5 dc5 pm5 cd5 ct5 oc6 kV6 dc6 pm6 cd6 ct6 oc7 kV7 dc7 pm7 cd7 ct7 oc8 kV8 dc8 pm8 cd8 ct8 oc9 kV9 dc9 pm9 cd9 ct9 adP afk agN acy Yb ahm adO afj agM acw X_ ahl adN afi agL acv X8 ahk adM afh agK acu X7 ahj adL afg agJ acs X6 ahi adK afe agI acr X5 ahh adJ afd agH acq X4 ahg adI afc agG acp X3 ahf adH afb agF aco XS ahe adG afa agE acn XR ahd adF ae' agD acj XQ ahc adE ae_ agC aci XM ahb adD ae9 agB ach XJ aha adC ae8 agA acg XH ag' adB ae7 agz acf XF ag9 adA ae6 agy ace XD ag8 adz ae5 agx acd XC ag7 ady ae4 agw ab' Xz ag6 adx ae3 agv ab_ Xy ag5 adw ae2 agu ab9 Xx ag4 adv ae1 agt ab8 Xw ag3 adu ae0 ags ab7 Xv ag2 adt aeZ agr ab6 Xu ag1 adq aeY agq ab5 Xq ag0 adp aeX agp ab4 Xp agZ ado aeW ago ab3 Xn agY adn aeV agn ab2 Xm agX adl aeU agm ab1 Xl agW adk aeT agl ab0 Xk agV adi aeS agk abZ Xj agU adh aeR agj abY Xi agT adg aeQ agi abX Xh agS adf aeP agh abW Xg agR ade aeO agg abV Xf agQ adb aeN agf abU Xe agP ada aeM agd abT Xd agO ac' Wc Xb Vz Tv Xc:Value}
 (a0:PySem.W.nsIn K mainGlobals "is_whole" = some (some (.ref f0))) (l0:K.lookup f0=some ⟨oc0,od0,.func (PySem.W.fnOf "is_whole" "is_whole" (aM fu) (aK fu) (aD fu) .none kV0 dc0 pm0 an0 cd0 ct0),sl0⟩) (c0:PySem.W.codeIn K cd0 "is_whole" = true) (k0:PySem.W.keepIn K (.ref f0)=true)
 (a1:PySem.W.nsIn K mainGlobals "is_below" = some (some (.ref f1))) (l1:K.lookup f1=some ⟨oc1,od1,.func (PySem.W.fnOf "is_below" "is_below" (aM fB) (aK fB) (aD fB) .none kV1 dc1 pm1 an1 cd1 ct1),sl1⟩) (c1:PySem.W.codeIn K cd1 "is_below" = true) (k1:PySem.W.keepIn K (.ref f1)=true)
 (a2:PySem.W.findIn K (.ref aA) "__init__" = some (some (.ref f2))) (l2:K.lookup f2=some ⟨oc2,YZ,.func (PySem.W.fnOf "__init__" "Hand.__init__" (aM eE) (aK eE) (aD eE) .none kV2 dc2 pm2 an2 cd2 ct2),sl2⟩) (c2:PySem.W.codeIn K cd2 "Hand.__init__" = true) (k2:PySem.W.keepIn K (.ref f2)=true) (n2:PySem.W.isFn K (.ref f2)=true)
 (a3:PySem.W.nsIn K mainGlobals "cell_of" = some (some (.ref f3))) (l3:K.lookup f3=some ⟨oc3,od3,.func (PySem.W.fnOf "cell_of" "cell_of" (aM gw) (aK gw) (aD gw) .none kV3 dc3 pm3 an3 cd3 ct3),sl3⟩) (c3:PySem.W.codeIn K cd3 "cell_of" = true) (k3:PySem.W.keepIn K (.ref f3)=true)
 (a4:PySem.W.findIn K (.ref aA) "value_of" = some (some (.ref f4))) (l4:K.lookup f4=some ⟨oc4,od4,.func (PySem.W.fnOf "value_of" "Hand.value_of" (aM cu) (aK cu) (aD cu) .none kV4 dc4 pm4 an4 cd4 ct4),Vp⟩) (c4:PySem.W.codeIn K cd4 "Hand.value_of" = true) (k4:PySem.W.keepIn K (.ref f4)=true) (n4:PySem.W.isFn K (.ref f4)=true)
 (a5:PySem.W.findIn K (.ref aA) "holds" = some (some (.ref f5))) (l5:K.lookup f5=some ⟨oc5,od5,.func (PySem.W.fnOf "holds" "Hand.holds" (aM dJ) (aK dJ) (aD dJ) .none kV5 dc5 pm5 an5 cd5 ct5),sl5⟩) (c5:PySem.W.codeIn K cd5 "Hand.holds" = true) (k5:PySem.W.keepIn K (.ref f5)=true) (n5:PySem.W.isFn K (.ref f5)=true)
 (a6:PySem.W.findIn K (.ref aA) "take" = some (some (.ref f6))) (l6:K.lookup f6=some ⟨oc6,od6,.func (PySem.W.fnOf "take" "Hand.take" (aM d_) (aK d_) (aD d_) .none kV6 dc6 pm6 an6 cd6 ct6),sl6⟩) (c6:PySem.W.codeIn K cd6 "Hand.take" = true) (k6:PySem.W.keepIn K (.ref f6)=true) (n6:PySem.W.isFn K (.ref f6)=true)
 (a7:PySem.W.findIn K (.ref aA) "do" = some (some (.ref f7))) (l7:K.lookup f7=some ⟨oc7,od7,.func (PySem.W.fnOf "do" "Hand.do" (aM gB) (aK gB) (aD gB) .none kV7 dc7 pm7 an7 cd7 ct7),Ud⟩) (c7:PySem.W.codeIn K cd7 "Hand.do" = true) (k7:PySem.W.keepIn K (.ref f7)=true) (n7:PySem.W.isFn K (.ref f7)=true)
 (a8:PySem.W.findIn K (.ref aA) "lead_on" = some (some (.ref f8))) (l8:K.lookup f8=some ⟨oc8,od8,.func (PySem.W.fnOf "lead_on" "Hand.lead_on" (aM cQ) (aK cQ) (aD cQ) .none kV8 dc8 pm8 an8 cd8 ct8),Mf⟩) (c8:PySem.W.codeIn K cd8 "Hand.lead_on" = true) (k8:PySem.W.keepIn K (.ref f8)=true) (n8:PySem.W.isFn K (.ref f8)=true)
 (a9:PySem.W.nsIn K mainGlobals "check_numbers" = some (some (.ref f9))) (l9:K.lookup f9=some ⟨oc9,od9,.func (PySem.W.fnOf "check_numbers" "check_numbers" (aM cF) (aK cF) (aD cF) .none kV9 dc9 pm9 an9 cd9 ct9),sl9⟩) (c9:PySem.W.codeIn K cd9 "check_numbers" = true) (k9:PySem.W.keepIn K (.ref f9)=true)
 (a10:PySem.W.findIn K (.ref ao) "touch_by" = some (some (.ref Ux))) (l10:K.lookup Ux=some ⟨adP,ac_,.func (PySem.W.fnOf "touch_by" "Works.touch_by" (aM cC) (aK cC) (aD cC) .none afk agN acy aiv Yb ahm),abA⟩) (c10:PySem.W.codeIn K Yb "Works.touch_by" = true) (k10:PySem.W.keepIn K (.ref Ux)=true) (n10:PySem.W.isFn K (.ref Ux)=true)
 (a11:PySem.W.findIn K (.ref ao) "hand_of" = some (some (.ref f11))) (l11:K.lookup f11=some ⟨adO,ac9,.func (PySem.W.fnOf "hand_of" "Works.hand_of" (aM cH) (aK cH) (aD cH) .none afj agM acw aiu X_ ahl),abz⟩) (c11:PySem.W.codeIn K X_ "Works.hand_of" = true) (k11:PySem.W.keepIn K (.ref f11)=true) (n11:PySem.W.isFn K (.ref f11)=true)
 (a12:PySem.W.findIn K (.ref ao) "turn" = some (some (.ref W0))) (l12:K.lookup W0=some ⟨adN,ac8,.func (PySem.W.fnOf "turn" "Works.turn" (aM dH) (aK dH) (aD dH) .none afi agL acv ait X8 ahk),aby⟩) (c12:PySem.W.codeIn K X8 "Works.turn" = true) (k12:PySem.W.keepIn K (.ref W0)=true) (n12:PySem.W.isFn K (.ref W0)=true)
 {T13:Addr} {aaN:Value} {aaM:Option Addr} {aaL:Nat} {U9:Array (Option Value)} (a13:PySem.W.findIn K (.ref ao) "__init__" = some (some (.ref Qs))) (l13:K.lookup Qs=some ⟨adM,ac7,.func (PySem.W.fnOf "__init__" "Works.__init__" (aM bW) (aK bW) (aD bW) (.ref T13) afh agK acu ais X7 ahj),abx⟩) (c13:PySem.W.codeIn K X7 "Works.__init__" = true) (k13:PySem.W.keepIn K (.ref Qs)=true) (n13:PySem.W.isFn K (.ref Qs)=true) (UJ:K.lookup T13=some ⟨aaN,aaM,.seq #[.none] aaL,U9⟩)
 (a14:PySem.W.nsIn K mainGlobals "_law_reel" = some (some (.ref f14))) (l14:K.lookup f14=some ⟨adL,ac6,.func (PySem.W.fnOf "_law_reel" "_law_reel" (aM jx) (aK jx) (aD jx) .none afg agJ acs air X6 ahi),abw⟩) (c14:PySem.W.codeIn K X6 "_law_reel" = true) (k14:PySem.W.keepIn K (.ref f14)=true)
 (a15:PySem.W.nsIn K mainGlobals "_law_draw" = some (some (.ref f15))) (l15:K.lookup f15=some ⟨adK,ac5,.func (PySem.W.fnOf "_law_draw" "_law_draw" (aM jz) (aK jz) (aD jz) .none afe agI acr aiq X5 ahh),abv⟩) (c15:PySem.W.codeIn K X5 "_law_draw" = true) (ZM:PySem.W.keepIn K (.ref f15)=true)
 (a16:PySem.W.nsIn K mainGlobals "_law_plain" = some (some (.ref f16))) (l16:K.lookup f16=some ⟨adJ,ac4,.func (PySem.W.fnOf "_law_plain" "_law_plain" (aM g_) (aK g_) (aD g_) .none afd agH acq aip X4 ahg),abu⟩) (c16:PySem.W.codeIn K X4 "_law_plain" = true) (ZL:PySem.W.keepIn K (.ref f16)=true)
 (a17:PySem.W.nsIn K mainGlobals "_law_worth" = some (some (.ref f17))) (l17:K.lookup f17=some ⟨adI,ac3,.func (PySem.W.fnOf "_law_worth" "_law_worth" (aM gW) (aK gW) (aD gW) .none afc agG acp aio X3 ahf),abt⟩) (c17:PySem.W.codeIn K X3 "_law_worth" = true) (ZK:PySem.W.keepIn K (.ref f17)=true)
 (a18:PySem.W.nsIn K mainGlobals "_law_row" = some (some (.ref f18))) (l18:K.lookup f18=some ⟨adH,ac2,.func (PySem.W.fnOf "_law_row" "_law_row" (aM mD) (aK mD) (aD mD) .none afb agF aco ain XS ahe),abr⟩) (c18:PySem.W.codeIn K XS "_law_row" = true) (ZJ:PySem.W.keepIn K (.ref f18)=true)
 (a19:PySem.W.nsIn K mainGlobals "_law_program" = some (some (.ref f19))) (l19:K.lookup f19=some ⟨adG,ac1,.func (PySem.W.fnOf "_law_program" "_law_program" (aM fG) (aK fG) (aD fG) .none afa agE acn ail XR ahd),abq⟩) (c19:PySem.W.codeIn K XR "_law_program" = true) (ZG:PySem.W.keepIn K (.ref f19)=true)
 (a20:PySem.W.nsIn K mainGlobals "_law_now" = some (some (.ref Uw))) (l20:K.lookup Uw=some ⟨adF,ac0,.func (PySem.W.fnOf "_law_now" "_law_now" (aM kJ) (aK kJ) (aD kJ) .none ae' agD acj aik XQ ahc),abp⟩) (Yc:PySem.W.codeIn K XQ "_law_now" = true) (Uo:PySem.W.keepIn K (.ref Uw)=true)
 (a21:PySem.W.nsIn K mainGlobals "_law_own" = some (some (.ref f21))) (l21:K.lookup f21=some ⟨adE,acZ,.func (PySem.W.fnOf "_law_own" "_law_own" (aM mF) (aK mF) (aD mF) .none ae_ agC aci aij XM ahb),abo⟩) (c21:PySem.W.codeIn K XM "_law_own" = true) (ZF:PySem.W.keepIn K (.ref f21)=true)
 (a22:PySem.W.nsIn K mainGlobals "_law_led" = some (some (.ref f22))) (l22:K.lookup f22=some ⟨adD,acY,.func (PySem.W.fnOf "_law_led" "_law_led" (aM mG) (aK mG) (aD mG) .none ae9 agB ach aii XJ aha),abn⟩) (c22:PySem.W.codeIn K XJ "_law_led" = true) (ZD:PySem.W.keepIn K (.ref f22)=true)
 (a23:PySem.W.nsIn K mainGlobals "_law_begun" = some (some (.ref f23))) (l23:K.lookup f23=some ⟨adC,acX,.func (PySem.W.fnOf "_law_begun" "_law_begun" (aM ig) (aK ig) (aD ig) .none ae8 agA acg aif XH ag'),abm⟩) (c23:PySem.W.codeIn K XH "_law_begun" = true) (ZC:PySem.W.keepIn K (.ref f23)=true)
 (a24:PySem.W.nsIn K mainGlobals "_law_gone" = some (some (.ref f24))) (l24:K.lookup f24=some ⟨adB,acW,.func (PySem.W.fnOf "_law_gone" "_law_gone" (aM jy) (aK jy) (aD jy) .none ae7 agz acf aie XF ag9),abl⟩) (c24:PySem.W.codeIn K XF "_law_gone" = true) (Zz:PySem.W.keepIn K (.ref f24)=true)
 (a25:PySem.W.nsIn K mainGlobals "_law_numbers" = some (some (.ref f25))) (l25:K.lookup f25=some ⟨adA,acV,.func (PySem.W.fnOf "_law_numbers" "_law_numbers" (aM fH) (aK fH) (aD fH) .none ae6 agy ace aic XD ag8),abk⟩) (c25:PySem.W.codeIn K XD "_law_numbers" = true) (Zy:PySem.W.keepIn K (.ref f25)=true)
 (a26:PySem.W.nsIn K mainGlobals "_law_works" = some (some (.ref Z_))) (l26:K.lookup Z_=some ⟨adz,acU,.func (PySem.W.fnOf "_law_works" "_law_works" (aM gY) (aK gY) (aD gY) .none ae5 agx acd aib XC ag7),abj⟩) (c26:PySem.W.codeIn K XC "_law_works" = true) (Zx:PySem.W.keepIn K (.ref Z_)=true)
 (a27:PySem.W.nsIn K mainGlobals "_law_first" = some (some (.ref Z9))) (l27:K.lookup Z9=some ⟨ady,acT,.func (PySem.W.fnOf "_law_first" "_law_first" (aM h_) (aK h_) (aD h_) .none ae4 agw ab' aia Xz ag6),abh⟩) (c27:PySem.W.codeIn K Xz "_law_first" = true) (Zw:PySem.W.keepIn K (.ref Z9)=true)
 (a28:PySem.W.findIn K (.ref ao) "cells" = some (some (.ref WY))) (l28:K.lookup WY=some ⟨adx,acS,.func (PySem.W.fnOf "cells" "Works.cells" (aM cW) (aK cW) (aD cW) .none ae3 agv ab_ ah' Xy ag5),abg⟩) (c28:PySem.W.codeIn K Xy "Works.cells" = true) (Zv:PySem.W.keepIn K (.ref WY)=true) (n28:PySem.W.isFn K (.ref WY)=true)
 (a29:PySem.W.findIn K (.ref ao) "boxes" = some (some (.ref WX))) (l29:K.lookup WX=some ⟨adw,acR,.func (PySem.W.fnOf "boxes" "Works.boxes" (aM cX) (aK cX) (aD cX) .none ae2 agu ab9 ah_ Xx ag4),abf⟩) (c29:PySem.W.codeIn K Xx "Works.boxes" = true) (Zu:PySem.W.keepIn K (.ref WX)=true) (n29:PySem.W.isFn K (.ref WX)=true)
 (a30:PySem.W.findIn K (.ref ao) "said" = some (some (.ref WW))) (l30:K.lookup WW=some ⟨adv,acQ,.func (PySem.W.fnOf "said" "Works.said" (aM dI) (aK dI) (aD dI) .none ae1 agt ab8 ah9 Xw ag3),abe⟩) (c30:PySem.W.codeIn K Xw "Works.said" = true) (Zt:PySem.W.keepIn K (.ref WW)=true) (n30:PySem.W.isFn K (.ref WW)=true)
 (a31:PySem.W.findIn K (.ref ao) "counts" = some (some (.ref WT))) (l31:K.lookup WT=some ⟨adu,acP,.func (PySem.W.fnOf "counts" "Works.counts" (aM cN) (aK cN) (aD cN) .none ae0 ags ab7 ah8 Xv ag2),abd⟩) (c31:PySem.W.codeIn K Xv "Works.counts" = true) (Zr:PySem.W.keepIn K (.ref WT)=true) (n31:PySem.W.isFn K (.ref WT)=true)
 (a32:PySem.W.findIn K (.ref ao) "__len__" = some (some (.ref f32))) (l32:K.lookup f32=some ⟨adt,acO,.func (PySem.W.fnOf "__len__" "Works.__len__" (aM cI) (aK cI) (aD cI) .none aeZ agr ab6 ah7 Xu ag1),abb⟩) (c32:PySem.W.codeIn K Xu "Works.__len__" = true) (Zq:PySem.W.keepIn K (.ref f32)=true) (n32:PySem.W.isFn K (.ref f32)=true)
 (a33:PySem.W.findIn K (.ref aA) "another" = some (some (.ref WR))) (l33:K.lookup WR=some ⟨adq,acN,.func (PySem.W.fnOf "another" "Hand.another" (aM cR) (aK cR) (aD cR) .none aeY agq ab5 ah6 Xq ag0),aa'⟩) (c33:PySem.W.codeIn K Xq "Hand.another" = true) (Zo:PySem.W.keepIn K (.ref WR)=true) (n33:PySem.W.isFn K (.ref WR)=true)
 (a34:PySem.W.findIn K (.ref ao) "twin" = some (some (.ref WQ))) (l34:K.lookup WQ=some ⟨adp,acM,.func (PySem.W.fnOf "twin" "Works.twin" (aM dG) (aK dG) (aD dG) .none aeX agp ab4 ah5 Xp agZ),aa_⟩) (c34:PySem.W.codeIn K Xp "Works.twin" = true) (Zn:PySem.W.keepIn K (.ref WQ)=true) (n34:PySem.W.isFn K (.ref WQ)=true)
 (a35:PySem.W.findIn K (.ref aA) "picture" = some (some (.ref WM))) (l35:K.lookup WM=some ⟨ado,acL,.func (PySem.W.fnOf "picture" "Hand.picture" (aM cP) (aK cP) (aD cP) .none aeW ago ab3 ah4 Xn agY),aa9⟩) (c35:PySem.W.codeIn K Xn "Hand.picture" = true) (Zm:PySem.W.keepIn K (.ref WM)=true) (n35:PySem.W.isFn K (.ref WM)=true)
 (a36:PySem.W.findIn K (.ref ao) "picture" = some (some (.ref WL))) (l36:K.lookup WL=some ⟨adn,acK,.func (PySem.W.fnOf "picture" "Works.picture" (aM cG) (aK cG) (aD cG) .none aeV agn ab2 ah3 Xm agX),aa8⟩) (c36:PySem.W.codeIn K Xm "Works.picture" = true) (Zk:PySem.W.keepIn K (.ref WL)=true) (n36:PySem.W.isFn K (.ref WL)=true)
 (a37:PySem.W.findIn K (.ref ao) "__eq__" = some (some (.ref WK))) (l37:K.lookup WK=some ⟨adl,acJ,.func (PySem.W.fnOf "__eq__" "Works.__eq__" (aM cO) (aK cO) (aD cO) .none aeU agm ab1 ah2 Xl agW),aa7⟩) (c37:PySem.W.codeIn K Xl "Works.__eq__" = true) (Zj:PySem.W.keepIn K (.ref WK)=true) (n37:PySem.W.isFn K (.ref WK)=true)
 (a38:PySem.W.nsIn K mainGlobals "_law_same" = some (some (.ref Z8))) (l38:K.lookup Z8=some ⟨adk,acI,.func (PySem.W.fnOf "_law_same" "_law_same" (aM jw) (aK jw) (aD jw) .none aeT agl ab0 ah1 Xk agV),aa6⟩) (c38:PySem.W.codeIn K Xk "_law_same" = true) (Zi:PySem.W.keepIn K (.ref Z8)=true)
 (a39:PySem.W.nsIn K mainGlobals "_law_orders" = some (some (.ref Z7))) (l39:K.lookup Z7=some ⟨adi,acH,.func (PySem.W.fnOf "_law_orders" "_law_orders" (aM gA) (aK gA) (aD gA) .none aeS agk abZ ah0 Xj agU),aa5⟩) (c39:PySem.W.codeIn K Xj "_law_orders" = true) (Zh:PySem.W.keepIn K (.ref Z7)=true)
 (a40:PySem.W.nsIn K mainGlobals "_law_emptied" = some (some (.ref Z6))) (l40:K.lookup Z6=some ⟨adh,acG,.func (PySem.W.fnOf "_law_emptied" "_law_emptied" (aM fK) (aK fK) (aD fK) .none aeR agj abY ahZ Xi agT),aa4⟩) (c40:PySem.W.codeIn K Xi "_law_emptied" = true) (Zg:PySem.W.keepIn K (.ref Z6)=true)
 (a41:PySem.W.nsIn K mainGlobals "_law_gone_by" = some (some (.ref Z5))) (l41:K.lookup Z5=some ⟨adg,acF,.func (PySem.W.fnOf "_law_gone_by" "_law_gone_by" (aM fJ) (aK fJ) (aD fJ) .none aeQ agi abX ahY Xh agS),aa3⟩) (c41:PySem.W.codeIn K Xh "_law_gone_by" = true) (Zf:PySem.W.keepIn K (.ref Z5)=true)
 (a42:PySem.W.nsIn K mainGlobals "_law_right" = some (some (.ref Z4))) (l42:K.lookup Z4=some ⟨adf,acE,.func (PySem.W.fnOf "_law_right" "_law_right" (aM gZ) (aK gZ) (aD gZ) .none aeP agh abW ahX Xg agR),aa2⟩) (c42:PySem.W.codeIn K Xg "_law_right" = true) (Ze:PySem.W.keepIn K (.ref Z4)=true)
 (a43:PySem.W.nsIn K mainGlobals "_law_changed" = some (some (.ref Z2))) (l43:K.lookup Z2=some ⟨ade,acD,.func (PySem.W.fnOf "_law_changed" "_law_changed" (aM fL) (aK fL) (aD fL) .none aeO agg abV ahW Xf agQ),aa1⟩) (c43:PySem.W.codeIn K Xf "_law_changed" = true) (Zd:PySem.W.keepIn K (.ref Z2)=true)
 (a44:PySem.W.nsIn K mainGlobals "_law_two_rows" = some (some (.ref Z1))) (l44:K.lookup Z1=some ⟨adb,acC,.func (PySem.W.fnOf "_law_two_rows" "_law_two_rows" (aM d9) (aK d9) (aD d9) .none aeN agf abU ahV Xe agP),aa0⟩) (c44:PySem.W.codeIn K Xe "_law_two_rows" = true) (Zc:PySem.W.keepIn K (.ref Z1)=true)
 (a45:PySem.W.nsIn K mainGlobals "_law_rows_alike" = some (some (.ref Z0))) (l45:K.lookup Z0=some ⟨ada,acB,.func (PySem.W.fnOf "_law_rows_alike" "_law_rows_alike" (aM cY) (aK cY) (aD cY) .none aeM agd abT ahU Xd agO),aaZ⟩) (c45:PySem.W.codeIn K Xd "_law_rows_alike" = true) (Zb:PySem.W.keepIn K (.ref Z0)=true)
 (a46:PySem.W.nsIn K mainGlobals "law" = some (some (.ref f46))) (l46:K.lookup f46=some ⟨ac',acA,.func (PySem.W.fnOf "law" "law" (aM qJ) (aK qJ) (aD qJ) .none Wc Xb Vz Yj Tv Xc),aaY⟩) (c46:PySem.W.codeIn K Tv "law" = true) (k46:PySem.W.keepIn K (.ref f46)=true)
 (yI:PySem.W.nsIn K mainGlobals "Hand" = some (some (.ref aA)))
 (uU:PySem.W.plainGet K aA Str.empty=true)
 (uX:PySem.W.hasDictIn K aA=true)
 (uT:PySem.W.plainOver K aA=true)
 (uR:PySem.W.findIn K (.ref aA) "__setattr__" = some (some (.builtin "object.__setattr__")))
 (uV:PySem.W.makesIn K aA=true)
 (uW:PySem.W.keepIn K (.ref aA)=true)
 (lJ:PySem.W.findIn K (.ref aA) "rows" = some none)
 (pH:PySem.W.findIn K (.ref aA) "at" = some none)
 (iJ:PySem.W.findIn K (.ref aA) "in_boxes" = some none)
 (jm:PySem.W.findIn K (.ref aA) "sayings" = some none)
 (j8:PySem.W.findIn K (.ref aA) "state" = some none)
 (kY:PySem.W.nsIn K mainGlobals "Works" = some (some (.ref ao)))
 (rF:PySem.W.plainGet K ao Str.empty=true)
 (rG:PySem.W.hasDictIn K ao=true)
 (rE:PySem.W.plainOver K ao=true)
 (rD:PySem.W.findIn K (.ref ao) "__setattr__" = some (some (.builtin "object.__setattr__")))
 (kO:PySem.W.makesIn K ao=true)
 (kW:PySem.W.keepIn K (.ref ao)=true)
 (iH:PySem.W.findIn K (.ref ao) "program" = some none)
 (iI:PySem.W.findIn K (.ref ao) "numbers" = some none)
 (jG:PySem.W.findIn K (.ref ao) "hands" = some none)
 (jF:PySem.W.findIn K (.ref ao) "turns" = some none)
 (ycg:PySem.W.specialIn K (.builtin "object.__class__") "__get__" = some (some (.builtin "getset_descriptor.__get__")))
 (yct:PySem.W.takesIn K (.builtin "object.__class__")=some true)
 (rH:PySem.W.findIn K (.ref ao) "__ne__" = some (some (.builtin "object.__ne__")))
 (rJ:PySem.W.findIn K (.ref ao) "__class__" = some (some (.builtin "object.__class__")))
 (oM:PySem.W.mroIn K ao (.type "object")=some true)
 (m7:PySem.W.nsIn K mainGlobals "NoNumber" = some (some (.ref aZ)))
 (jt:(PySem.W.clsIn K aZ).isSome=true)
 (lN:PySem.W.typeIn K (.ref aZ)=some (.type "type"))
 (lY:PySem.W.subIn K (.ref aZ) (.type "BaseException")=some true)
 (rK:PySem.W.nsIn K mainGlobals "NoHand" = some (some (.ref bM)))
 (lW:(PySem.W.clsIn K bM).isSome=true)
 (pJ:PySem.W.typeIn K (.ref bM)=some (.type "type"))
 (pR:PySem.W.subIn K (.ref bM) (.type "BaseException")=some true)
 (yL:PySem.W.nsIn K mainGlobals "Over" = some (some (.ref fQ)))
 (qw:(PySem.W.clsIn K fQ).isSome=true)
 (uZ:PySem.W.typeIn K (.ref fQ)=some (.type "type"))
 (vm:PySem.W.subIn K (.ref fQ) (.type "BaseException")=some true)
 (lZ:PySem.W.nsIn K mainGlobals "NoteError" = some (some (.ref gn)))
 (j_:(PySem.W.clsIn K gn).isSome=true)
 (j9:PySem.W.typeIn K (.ref gn)=some (.type "type"))
 (kh:PySem.W.subIn K (.ref gn) (.type "BaseException")=some true)
 (fj:(Value.ref aZ==Value.ref gn)=false)
 (eZ:PySem.W.subIn K (.ref aZ) (.ref gn)=some true)
 (U4:PySem.W.specialIn K (.builtin "object.__class__") "__get__" = some (some (.builtin "getset_descriptor.__get__")))
 (U3:PySem.W.takesIn K (.builtin "object.__class__")=some true)
 (lU:PySem.W.findIn K (.ref aZ) "__getattribute__" = some (some (.builtin "BaseException.__getattribute__")))
 (lR:PySem.W.findIn K (.ref aZ) "__getattr__" = some none)
 (lQ:PySem.W.mroIn K aZ (.type "BaseException")=some true)
 (lX:PySem.W.findIn K (.ref aZ) "__class__" = some (some (.builtin "object.__class__")))
 (lO:PySem.W.mroIn K aZ (.type "object")=some true)
 (lM:PySem.W.subIn K (.ref aZ) (.type "ValueError")=some true)
 (lV:PySem.W.excIn K aZ [.type "ValueError",.type "Exception",.type "BaseException",.type "object"] "ValueError.__new__" = true)
 (pO:PySem.W.findIn K (.ref bM) "__getattribute__" = some (some (.builtin "BaseException.__getattribute__")))
 (pN:PySem.W.findIn K (.ref bM) "__getattr__" = some none)
 (pL:PySem.W.mroIn K bM (.type "BaseException")=some true)
 (pQ:PySem.W.findIn K (.ref bM) "__class__" = some (some (.builtin "object.__class__")))
 (pK:PySem.W.mroIn K bM (.type "object")=some true)
 (pI:PySem.W.subIn K (.ref bM) (.type "ValueError")=some true)
 (pP:PySem.W.excIn K bM [.type "ValueError",.type "Exception",.type "BaseException",.type "object"] "ValueError.__new__" = true)
 (vf:PySem.W.findIn K (.ref fQ) "__getattribute__" = some (some (.builtin "BaseException.__getattribute__")))
 (u_:PySem.W.findIn K (.ref fQ) "__getattr__" = some none)
 (u9:PySem.W.mroIn K fQ (.type "BaseException")=some true)
 (vh:PySem.W.findIn K (.ref fQ) "__class__" = some (some (.builtin "object.__class__")))
 (u0:PySem.W.mroIn K fQ (.type "object")=some true)
 (uY:PySem.W.subIn K (.ref fQ) (.type "ValueError")=some true)
 (vg:PySem.W.excIn K fQ [.type "ValueError",.type "Exception",.type "BaseException",.type "object"] "ValueError.__new__" = true)
 {KY:Tok} (zP:PySem.W.nsIn K mainGlobals "BOXES" = some (some (.str "abcdefgh" KY)))
 {KQ:Tok} (zO:PySem.W.nsIn K mainGlobals "ROUND" = some (some (.int 1000 KQ)))
 {qd:Tok} (iy:PySem.W.nsIn K mainGlobals "MOST_UNTOUCHING" = some (some (.int 60 qd)))
 (iQ:∀T∈L2.qR,PySem.W.subIn K (.ref ao) (.type T)=some false)
 (qZ:PySem.W.subIn K (.ref ao) (.type "int")=some false)
 (nQ:PySem.W.kitOne K (.type "NoneType") (.ref ao)=some false)
 (qP:PySem.W.kitOne K (.type "bool") (.ref ao)=some false)
 (nU:PySem.W.kitOne K (.type "int") (.ref ao)=some false)
 (nP:PySem.W.kitOne K (.type "str") (.ref ao)=some false)
 (nR:PySem.W.kitOne K (.type "list") (.ref ao)=some false)
 (nO:PySem.W.kitOne K (.type "tuple") (.ref ao)=some false)
 (nY:PySem.W.kitOne K (.type "dict") (.ref ao)=some false)
 (Jb:PySem.W.nsIn K mainGlobals "all" = some none) (C_:PySem.W.nsIn K mainGlobals "bool" = some none) (Ja:PySem.W.nsIn K mainGlobals "int" = some none) (lK:PySem.W.nsIn K mainGlobals "isinstance" = some none) (I_:PySem.W.nsIn K mainGlobals "len" = some none) (CZ:PySem.W.nsIn K mainGlobals "list" = some none) (IW:PySem.W.nsIn K mainGlobals "max" = some none) (IV:PySem.W.nsIn K mainGlobals "min" = some none) (yK:PySem.W.nsIn K mainGlobals "range" = some none) (IK:PySem.W.nsIn K mainGlobals "str" = some none) (Iz:PySem.W.nsIn K mainGlobals "sum" = some none) (yJ:PySem.W.nsIn K mainGlobals "tuple" = some none) (Iw:PySem.W.nsIn K mainGlobals "zip" = some none):
 ∃fd:FuncData,(∀(s:Shared) (v:Value),BindsTo s fd ⟨[v],[]⟩ [("script",v)]) /\ ∀base:Heap,K.In base->base.Ns mainGlobals mg->bV l.prog w K mg base iD 12 fa fd ["script"] (Fv K):=by
 have e:=hfa.symm.trans (PySem.W.mg_of X G a46);cases e;have Bt:o8 mg:=⟨PySem.W.mg_none_of X G Jb,PySem.W.mg_none_of X G C_,PySem.W.mg_none_of X G Ja,PySem.W.mg_none_of X G lK,PySem.W.mg_none_of X G I_,PySem.W.mg_none_of X G CZ,PySem.W.mg_none_of X G IW,PySem.W.mg_none_of X G IV,PySem.W.mg_none_of X G yK,PySem.W.mg_none_of X G IK,PySem.W.mg_none_of X G Iz,PySem.W.mg_none_of X G yJ,PySem.W.mg_none_of X G Iw⟩;have aJ:eX K aA:=⟨⟨uU,uX,uT,uR⟩,lJ,pH,iJ,jm,j8⟩;have aN:dD K ao:=⟨⟨rF,rG,rE,rD⟩,iH,iI,jG,jF⟩;have Ad:NeO K ao:=⟨rH,oM⟩;have uP:IsO K mg ao "Works" :=⟨PySem.W.mg_of X G kY,rJ,ycg,yct,oM⟩;have gC:Gv mg "BOXES" (.str "abcdefgh"):=⟨_,PySem.W.mg_of X G zP,⟨_,rfl⟩⟩;have iC:Gv mg "ROUND" (.int 1000):=⟨_,PySem.W.mg_of X G zO,⟨_,rfl⟩⟩;have fV:Gv mg "MOST_UNTOUCHING" (.int 60):=⟨_,PySem.W.mg_of X G iy,⟨_,rfl⟩⟩;have iW:Xr K mg aZ "NoNumber" :=⟨PySem.W.mg_of X G m7,⟨jt,lN,lY⟩,⟨lU,lR,lQ,jt,lX,U4,U3,lO⟩,lV,lM⟩;have qY:Xr K mg bM "NoHand" :=⟨PySem.W.mg_of X G rK,⟨lW,pJ,pR⟩,⟨pO,pN,pL,lW,pQ,U4,U3,pK⟩,pP,pI⟩;have Ac:Xr K mg fQ "Over" :=⟨PySem.W.mg_of X G yL,⟨qw,uZ,vm⟩,⟨vf,u_,u9,qw,vh,U4,U3,u0⟩,vg,uY⟩;have Qw:Xo K mg aZ gn "NoteError" true:=⟨PySem.W.mg_of X G lZ,⟨j_,j9,kh⟩,⟨fj,eZ⟩⟩;have F0:=bO (st:=fu) l0 c0 k0;have F1:=bO (st:=fB) l1 c1 k1;have F2:=bO (st:=eE) l2 c2 k2;have F3:=bO (st:=gw) l3 c3 k3;have F4:=bO (st:=cu) l4 c4 k4;have F5:=bO (st:=dJ) l5 c5 k5;have F6:=bO (st:=d_) l6 c6 k6;have F7:=bO (st:=gB) l7 c7 k7;have F8:=bO (st:=cQ) l8 c8 k8;have F9:=bO (st:=cF) l9 c9 k9;have F10:=bO (st:=cC) l10 c10 k10;have F11:=bO (st:=cH) l11 c11 k11;have F12:=bO (st:=dH) l12 c12 k12;have F13:PX K "__init__" "Works.__init__" bW [.none] Qs _:=⟨⟨_,_,_,_,_,_,_,_,_,_,_,_,_,_,rfl,l13,c13,UJ⟩,k13⟩;have F14:=bO (st:=jx) l14 c14 k14;have F15:=bO (st:=jz) l15 c15 ZM;have F16:=bO (st:=g_) l16 c16 ZL;have F17:=bO (st:=gW) l17 c17 ZK;have F18:=bO (st:=mD) l18 c18 ZJ;have F19:=bO (st:=fG) l19 c19 ZG;have F20:=bO (st:=kJ) l20 Yc Uo;have F21:=bO (st:=mF) l21 c21 ZF;have F22:=bO (st:=mG) l22 c22 ZD;have F23:=bO (st:=ig) l23 c23 ZC;have F24:=bO (st:=jy) l24 c24 Zz;have F25:=bO (st:=fH) l25 c25 Zy;have F26:=bO (st:=gY) l26 c26 Zx;have F27:=bO (st:=h_) l27 c27 Zw;have F28:=bO (st:=cW) l28 c28 Zv;have F29:=bO (st:=cX) l29 c29 Zu;have F30:=bO (st:=dI) l30 c30 Zt;have F31:=bO (st:=cN) l31 c31 Zr;have F32:=bO (st:=cI) l32 c32 Zq;have F33:=bO (st:=cR) l33 c33 Zo;have F34:=bO (st:=dG) l34 c34 Zn;have F35:=bO (st:=cP) l35 c35 Zm;have F36:=bO (st:=cG) l36 c36 Zk;have F37:=bO (st:=cO) l37 c37 Zj;have F38:=bO (st:=jw) l38 c38 Zi;have F39:=bO (st:=gA) l39 c39 Zh;have F40:=bO (st:=fK) l40 c40 Zg;have F41:=bO (st:=fJ) l41 c41 Zf;have F42:=bO (st:=gZ) l42 c42 Ze;have F43:=bO (st:=fL) l43 c43 Zd;have F44:=bO (st:=d9) l44 c44 Zc;have F45:=bO (st:=cY) l45 c45 Zb;have F46:=bO (st:=qJ) l46 c46 k46;refine ⟨PySem.W.fnOf "law" "law" (aM qJ) (aK qJ) (aD qJ) .none Wc Xb Vz Yj Tv Xc,fun s v=> .of_eq rfl,fun base _ _=> ?_⟩;have A0:FnAt l.prog w K mg base 1 "is_whole" ["value"] (Q0 K):=⟨f0,_,Bp F0 Bt,PySem.W.mg_of X G a0,k0,F0.binds (ps:=["value"]) Ce⟩;have A1:FnAt l.prog w K mg base 2 "is_below" ["value","count"] (uL K):=⟨f1,_,Bq F1 A0,PySem.W.mg_of X G a1,k1,F1.binds (ps:=["value","count"]) Cg⟩;have A2:oH l.prog w K mg base 1 aA "Hand" ["self","rows"] [] (uJ aA K):=⟨f2,_,[],J0 F2 aJ gC,⟨uV,a2,n2,uW⟩,PySem.W.mg_of X G yI,F2.binds (ps:=["self","rows"]) z8,.nil⟩;have A3:FnAt l.prog w K mg base 1 "cell_of" ["row"] (qG K):=⟨f3,_,Hu F3,PySem.W.mg_of X G a3,k3,F3.binds (ps:=["row"]) Ep⟩;have aiD:MethAt l.prog w K mg base 1 aA "value_of" ["self","part"] (qD aA 0 K):=⟨f4,_,NK F4,⟨a4,n4,k4⟩,F4.binds (ps:=["self","part"]) iV⟩;have aiC:MethAt l.prog w K mg base 2 aA "value_of" ["self","part"] (qD aA 1 K):=⟨f4,_,FZ (n:=0) F4 aiD aJ gC iC,⟨a4,n4,k4⟩,F4.binds (ps:=["self","part"]) iV⟩;have A4:MethAt l.prog w K mg base 3 aA "value_of" ["self","part"] (qD aA 2 K):=⟨f4,_,FZ (n:=1) F4 aiC aJ gC iC,⟨a4,n4,k4⟩,F4.binds (ps:=["self","part"]) iV⟩;have A5:MethAt l.prog w K mg base 4 aA "holds" ["self","row"] (yU aA K):=⟨f5,_,JZ F5 A4 aJ,⟨a5,n5,k5⟩,F5.binds (ps:=["self","row"]) xQ⟩;have A6:MethAt l.prog w K mg base 1 aA "take" ["self","box","number"] (yO aA K):=⟨f6,_,NT F6 aJ gC,⟨a6,n6,k6⟩,F6.binds (ps:=["self","box","number"]) z7⟩;have A7:MethAt l.prog w K mg base 5 aA "do" ["self","row"] (Q5 aA K):=⟨f7,_,VG F7 A4 A6 A5 aJ,⟨a7,n7,k7⟩,F7.binds (ps:=["self","row"]) Et⟩;have A8:MethAt l.prog w K mg base 6 aA "lead_on" ["self"] (yS aA K):=⟨f8,_,Oc F8 A3 A7 aJ fV Bt,⟨a8,n8,k8⟩,F8.binds (ps:=["self"]) uE⟩;have A9:LR l.prog w K mg base 3 "check_numbers" ["cells","count"] (pW aZ K):=⟨f9,_,Br F9 A1 iC Bt iW,PySem.W.mg_of X G a9,k9,F9.binds (ps:=["cells","count"]) tO⟩;have A10:MethAt l.prog w K mg base 4 ao "touch_by" ["self","one"] (rN ao aA K):=⟨Ux,_,DK F10 A3 A4 A6 aN aJ,⟨a10,n10,k10⟩,F10.binds (ps:=["self","one"]) qX⟩;have A11:jc l.prog w K mg base 3 ao "hand_of" ["self","hand"] (m_ ao aA bM K):=⟨f11,_,Hr F11 A1 aN Bt qY,⟨a11,n11,k11⟩,F11.binds (ps:=["self","hand"]) tR⟩;have A12:jc l.prog w K mg base 7 ao "turn" ["self","hand"] (Dp ao aA bM fQ K):=⟨W0,_,NQ F12 A11 A10 A8 aN aJ Ac,⟨a12,n12,k12⟩,F12.binds (ps:=["self","hand"]) xO⟩;have G13:=JT F13 aN aJ A9 A2 A8 Bt;have A13:uQ l.prog w K mg base 7 ao "Works" ["self","program","cells"] [] (ju ao aA aZ K):=⟨Qs,_,_,G13,⟨kO,a13,n13,kW⟩,PySem.W.mg_of X G kY,wR UJ,.nil⟩;have Yu:uQ l.prog w K mg base 7 ao "Works" ["self","program","cells"] [.non] (ju ao aA aZ K):=⟨Qs,_,_,G13,⟨kO,a13,n13,kW⟩,PySem.W.mg_of X G kY,wQ UJ,.cons rfl .nil⟩;have Yt:Af l.prog w K mg base 7 ao "Works" ["self","program","cells"] "cells" (ju ao aA aZ K):=⟨Qs,_,G13,⟨kO,a13,n13,kW⟩,PySem.W.mg_of X G kY,wO UJ⟩;have A14:FnAt l.prog w K mg base 1 "_law_reel" ["script"] (yQ K):=⟨f14,_,JW F14 Bt,PySem.W.mg_of X G a14,k14,F14.binds (ps:=["script"]) Lx⟩;have A15:FnAt l.prog w K mg base 1 "_law_draw" ["reel","many"] (gR K):=⟨f15,_,J8 F15 Bt,PySem.W.mg_of X G a15,ZM,F15.binds (ps:=["reel","many"]) Lz⟩;have A16:FnAt l.prog w K mg base 2 "_law_plain" ["reel","boxes"] (yR K):=⟨f16,_,JX F16 A15,PySem.W.mg_of X G a16,ZL,F16.binds (ps:=["reel","boxes"]) Ij⟩;have A17:FnAt l.prog w K mg base 3 "_law_worth" ["reel","boxes"] (yN K):=⟨f17,_,JQ F17 A15 A16,PySem.W.mg_of X G a17,ZK,F17.binds (ps:=["reel","boxes"]) Ig⟩;have A18:FnAt l.prog w K mg base 4 "_law_row" ["reel","sizes","at"] (Ft K):=⟨f18,_,Rx F18 A15 A17 Bt,PySem.W.mg_of X G a18,ZJ,F18.binds (ps:=["reel","sizes","at"]) Pr⟩;have A19:FnAt l.prog w K mg base 5 "_law_program" ["reel"] (Dq K):=⟨f19,_,N_ F19 A15 A18 Bt,PySem.W.mg_of X G a19,ZG,F19.binds (ps:=["reel"]) Ci⟩;have Ym:FnAt l.prog w K mg base 1 "_law_now" ["boxes","told"] (tX 0 K):=⟨Uw,_,Ob F20,PySem.W.mg_of X G a20,Uo,F20.binds (ps:=["boxes","told"]) z6⟩;have Yl:FnAt l.prog w K mg base 2 "_law_now" ["boxes","told"] (tX 1 K):=⟨Uw,_,Ga (n:=0) F20 Ym,PySem.W.mg_of X G a20,Uo,F20.binds (ps:=["boxes","told"]) z6⟩;have A20:FnAt l.prog w K mg base 3 "_law_now" ["boxes","told"] (tX 2 K):=⟨Uw,_,Ga (n:=1) F20 Yl,PySem.W.mg_of X G a20,Uo,F20.binds (ps:=["boxes","told"]) z6⟩;have A21:FnAt l.prog w K mg base 4 "_law_own" ["hand","row"] (Jx K):=⟨f21,_,RD F21 A20,PySem.W.mg_of X G a21,ZF,F21.binds (ps:=["hand","row"]) Pu⟩;have A22:FnAt l.prog w K mg base 5 "_law_led" ["hand","rows"] (Ax K):=⟨f22,_,RG F22 A21 Bt,PySem.W.mg_of X G a22,ZD,F22.binds (ps:=["hand","rows"]) Px⟩;have A23:FnAt l.prog w K mg base 6 "_law_begun" ["program","numbers"] (yW K):=⟨f23,_,Ka F23 A22 Bt,PySem.W.mg_of X G a23,ZC,F23.binds (ps:=["program","numbers"]) Il⟩;have A24:FnAt l.prog w K mg base 6 "_law_gone" ["state","program","k"] (Dt K):=⟨f24,_,Oe F24 A20 A22 Bt,PySem.W.mg_of X G a24,Zz,F24.binds (ps:=["state","program","k"]) Ly⟩;have A25:FnAt l.prog w K mg base 2 "_law_numbers" ["reel","many"] (Dr K):=⟨f25,_,Oa F25 A15 Bt,PySem.W.mg_of X G a25,Zy,F25.binds (ps:=["reel","many"]) Cj⟩;have A26:FnAt l.prog w K mg base 9 "_law_works" ["program","numbers"] (oO ao aA K):=⟨Z_,_,JR F26 Yu.calm Yt Bt,PySem.W.mg_of X G a26,Zx,F26.binds (ps:=["program","numbers"]) Ih⟩;have A27:FnAt l.prog w K mg base 7 "_law_first" ["program","numbers"] (yV K):=⟨Z9,_,J1 F27 A23,PySem.W.mg_of X G a27,Zw,F27.binds (ps:=["program","numbers"]) Ik⟩;have A28:MethAt l.prog w K mg base 1 ao "cells" ["self"] (uK ao aA K):=⟨WY,_,J9 F28 aN Bt,⟨a28,n28,Zv⟩,F28.binds (ps:=["self"]) wL⟩;have A29:jc l.prog w K mg base 4 ao "boxes" ["self","hand"] (rO aX.bs ao aA bM K):=⟨WX,_,J_ F29 A11 aN aJ Bt,⟨a29,n29,Zu⟩,F29.binds (ps:=["self","hand"]) wM⟩;have A30:jc l.prog w K mg base 4 ao "said" ["self","hand"] (rO aX.sy ao aA bM K):=⟨WW,_,NZ F30 A11 aN aJ Bt,⟨a30,n30,Zt⟩,F30.binds (ps:=["self","hand"]) xP⟩;have A31:MethAt l.prog w K mg base 1 ao "counts" ["self"] (ni ao aA K):=⟨WT,_,Ht F31 aN Bt,⟨a31,n31,Zr⟩,F31.binds (ps:=["self"]) uy⟩;have A32:MethAt l.prog w K mg base 1 ao "__len__" ["self"] (Dm ao aA K):=⟨f32,_,Ny F32 aN Bt,⟨a32,n32,Zq⟩,F32.binds (ps:=["self"]) tU⟩;have A33:MethAt l.prog w K mg base 3 aA "another" ["self"] (rQ aA K):=⟨WR,_,DR F33 aJ A2 Bt,⟨a33,n33,Zo⟩,F33.binds (ps:=["self"]) uF⟩;have A34:MethAt l.prog w K mg base 9 ao "twin" ["self"] (Dn ao aA K):=⟨WQ,_,NP F34 aN aJ A13.calm A33 Bt,⟨a34,n34,Zn⟩,F34.binds (ps:=["self"]) xM⟩;have A35:MethAt l.prog w K mg base 1 aA "picture" ["self"] (Ds aA K):=⟨WM,_,Od F35 aJ Bt,⟨a35,n35,Zm⟩,F35.binds (ps:=["self"]) uD⟩;have A36:MethAt l.prog w K mg base 2 ao "picture" ["self"] (Jw ao aA K):=⟨WL,_,Ry F36 aN aJ A35 A28 A31 Bt,⟨a36,n36,Zk⟩,F36.binds (ps:=["self"]) tQ⟩;have A37:MethAt l.prog w K mg base 3 ao "__eq__" ["self","other"] (vA ao aA K):=⟨WK,_,Nz F37 aN uP A36 Bt,⟨a37,n37,Zj⟩,F37.binds (ps:=["self","other"]) uz⟩;have A38:FnAt l.prog w K mg base 1 "_law_same" ["one","other"] (yP K):=⟨Z8,_,Ho F38 Bt,PySem.W.mg_of X G a38,Zi,F38.binds (ps:=["one","other"]) Lw⟩;have A39:FnAt l.prog w K mg base 2 "_law_orders" ["reel","hands"] (vB K):=⟨Z7,_,Bo F39 A15 Bt,PySem.W.mg_of X G a39,Zh,F39.binds (ps:=["reel","hands"]) Es⟩;have A40:FnAt l.prog w K mg base 9 "_law_emptied" ["program","numbers"] (oO ao aA K):=⟨Z6,_,DP F40 A13.calm Bt,PySem.W.mg_of X G a40,Zg,F40.binds (ps:=["program","numbers"]) Cm⟩;have A41:FnAt l.prog w K mg base 10 "_law_gone_by" ["program","numbers","order","emptied"] (qF ao aA K):=⟨Z5,_,Hs F41 A26 A40 A27 A12.calm A24 aN Bt,PySem.W.mg_of X G a41,Zf,F41.binds (ps:=["program","numbers","order","emptied"]) Ck⟩;have A42:FnAt l.prog w K mg base 10 "_law_right" ["one","other","alike","program"] (uI ao aA K):=⟨Z4,_,DN F42 aN Ad qZ iQ nQ qP nU nP nR nO nY A37 A34 A32 A28 A31 A29.calm A30.calm Bt,PySem.W.mg_of X G a42,Ze,F42.binds (ps:=["one","other","alike","program"]) Ii⟩;have A43:FnAt l.prog w K mg base 5 "_law_changed" ["reel","program","numbers"] (rP K):=⟨Z2,_,DQ F43 A15 A18 Bt,PySem.W.mg_of X G a43,Zd,F43.binds (ps:=["reel","program","numbers"]) Cp⟩;have A44:FnAt l.prog w K mg base 2 "_law_two_rows" ["reel"] (Jv K):=⟨Z1,_,JV F44 A15 Bt,PySem.W.mg_of X G a44,Zc,F44.binds (ps:=["reel"]) zZ⟩;have A45:FnAt l.prog w K mg base 11 "_law_rows_alike" ["reel"] (m9 K):=⟨Z0,_,zE F45 A44 A41 A38 A42 A31 aN Bt,PySem.W.mg_of X G a45,Zb,F45.binds (ps:=["reel"]) wN⟩;exact RJ F46 A14 A45 A15 A19 A25 A43 A39 A41 A38 A42 Bt
theorem walk {l:PySem.W.OpenLaw} {q:Program} {loose:List Str} {XP:(Str->Option Value)->Heap->Prop} {YP:World->Heap->Prop} {d:DefRec} {K:Params->PySem.W.Frag} (hn:l.most=some 63) (hdf:d.params.defaults=[])
 (hY:∀(w:World) (h:Heap),YP w h->(K w.params).In h)
 (F:∀(w:World) (mg:Str->Option Value) (fa:Addr) (h:Heap),(K w.params).In h->h.Ns mainGlobals mg->mg d.name=some (.ref fa) ->
   ∃fd:FuncData,(∀(s:Shared) (u:Value),BindsTo s fd ⟨[u],[]⟩ [("script",u)]) /\ ∀base:Heap,(K w.params).In base->base.Ns mainGlobals mg->bV l.prog w (K w.params) mg base iD 12 fa fd ["script"] (Fv (K w.params))):
 PySem.W.WalkO q loose XP YP l.row.toRowW d [] (fun f vs=>PySem.call f vs):=
 L2.Ms (n:=63) (k:=12) (x:= "script") (CX:=fun _=>iD) (sp:=fun w=>Fv (K w.params)) hn (by decide) hdf ⟨rfl,by decide,by decide⟩ hY F (fun _ _ a ns hl _ hS=>⟨a,ns,rfl,hS,hl,fun _=>rfl⟩) fun _ _ _ _ _ z=>z
end Prf
namespace PySem.W.Fast
def tw3743600785907635359:=()
def tw3951901398144959319:=()
def tw4446573914554972474:=()
def tw9856297327794603568:=()
def tw9542453253999425533:=()
def tw128377468087651197:=()
def tw16980931840292872233:=()
def tw16111391346617794700:=()
def tw3668610740557184174:=()
def tw13779118722847632004:=()
def tw16836715232904819208:=()
def tw9481743154009818731:=()
def tw13013778918495451740:=()
def tw1597387154105588333:=()
def tw226367671553941383:=()
def tw3458733719785267712:=()
def tw198066947832796469:=()
def tw14852055798451319457:=()
def tw9259761801973195725:=()
def tw6282981347630873820:=()
def tw7893382822486811777:=()
def tw2327401896174938440:=()
def tw8332449761009197390:=()
def tw7542978044277300930:=()
def tw1799837918480227517:=()
def tw1760545159331164224:=()
def tw5225114464028281325:=()
def tw4254275010372871118:=()
def tw11762399219138697619:=()
def tw3296330739042383235:=()
def tw16769583262684464066:=()
def tw6000604399212538405:=()
def tw15469859748678344367:=()
def tw12671172557773295439:=()
def tw17317654799785890142:=()
def tw1524540251005993190:=()
def tw17575681442807483399:=()
def tw13944071480664841221:=()
def tw9122627836133707124:=()
def tw16718117664683524919:=()
def tw1150218651043947518:=()
def tw8610708100698746381:=()
def tw17400553658331526033:=()
def tw16778675160707492275:=()
def tw517998447864016283:=()
def tw4896254376343716042:=()
def tw9774004973332302611:=()
def tw10572551673023953383:=()
def tw17879035688576025241:=()
def tw1318024791168793428:=()
def tw1761198668543403342:=()
def tw12301137075704364270:=()
def tw10501377594817132886:=()
def tw2115912037652452805:=()
def tw15355276837713209320:=()
def tw9122021420667971445:=()
def tw15638252516474543037:=()
def tw338623073135050817:=()
def tw16792285576811929171:=()
def tw6984070534031595816:=()
def tw16692169751596591501:=()
def tw13170433831742401553:=()
def tw450676196061629:=()
def tw5462943951569391795:=()
def tw7322516117279306638:=()
def tw16111214046540701666:=()
def tw1146690481600678029:=()
def tw17561655827674717093:=()
def tw16316556351402215379:=()
def tw2511435389698779501:=()
def tw16912240504423599618:=()
def tw2481321162130364761:=()
def tw4021420380603119371:=()
def tw14234383782272705065:=()
def tw7643048978001464842:=()
def tw8196910215251434628:=()
def tw86156010544288530:=()
def tw16911655373144643461:=()
def tw17895590030902969621:=()
def tw4950676155732606680:=()
def tw5224385238723014419:=()
def tw11810037289892254192:=()
def tw1555813816083207489:=()
def tw15059059311540867636:=()
def tw930878164412355388:=()
def tw17573657781869890142:=()
def tw4004816922019461856:=()
def tw2927962953906619506:=()
def tw720267521645787296:=()
def tw17284216272641722769:=()
def tw3250473737128561431:=()
def tw9997847366700071049:=()
def tw15625432258344821599:=()
def tw5682380337492588244:=()
def tw3058394103048335057:=()
def tw14972050666325610218:=()
def tw5247233298707248246:=()
def tw7547280596011440611:=()
def tw769727861332813843:=()
def tw659625419077808320:=()
def tw15997145882162375985:=()
def tw15862407609036399888:=()
def tw11312320564344460247:=()
def tw18227432438106059332:=()
def tw17725494098297301889:=()
def tw1762740299992177064:=()
def tw16549384872971731432:=()
def tw3406736444672874588:=()
def tw13803632602615066855:=()
def tw5464221363868330203:=()
def tw17315262254852082651:=()
def tw444017184240022914:=()
def tw3524679058731744282:=()
def tw12290564257983987486:=()
def tw3017893190583089294:=()
def tw14969343736436960003:=()
def tw6787413127932318738:=()
def tw17888220896345283630:=()
def tw6620709031867169729:=()
def tw11255350351437171256:=()
def tw9706544936862243253:=()
def tw14901754314823710514:=()
def tw10999185101131671036:=()
def tw10131414936264822463:=()
def tw2880144203598166821:=()
def tw5373011292174495155:=()
def tw3190002416856745983:=()
def tw13538045128242558862:=()
def tw5249224811668111477:=()
def tw646683054713514646:=()
def tw9357202383349808160:=()
def tw13220833693004130812:=()
def tw1239938842545148636:=()
def tw7846402637759080374:=()
def tw5807686094124737955:=()
def tw8379848148549729646:=()
def tw12016465720081563823:=()
def tw17497717494883738655:=()
def tw13610266274600638561:=()
def tw15774780130392572566:=()
def tw1513066388497269068:=()
def tw9314825576283029448:=()
def tw9845128124420606868:=()
def tw5194711975350831855:=()
def tw15231860830770157626:=()
def tw16552450441423019437:=()
def tw4055357304766318933:=()
def tw16446805830532156988:=()
def tw3862615461374751067:=()
def tw8550015689704725543:=()
def tw3771788110237226107:=()
def tw14357278486216235034:=()
def tw9149648087438740846:=()
def tw140347969013484737:=()
def tw9256564442062935814:=()
def tw11498809491989317454:=()
def tw471740047949258712:=()
def tw2101167211081205086:=()
def tw18259209078775137028:=()
def tw117977514893371572:=()
def tw10584503486277586389:=()
def tw6526489895664818891:=()
def tw18027647829434472776:=()
def tw10693687672725376269:=()
def tw10424372234090151413:=()
def tw8867055545596075339:=()
def tw15662170945946114938:=()
def tw8385644772972500559:=()
def tw10177248760514502921:=()
def tw227797981698220705:=()
def tw6502776023104938380:=()
def tw7371219104246968154:=()
def tw9404353012974834109:=()
def tw5030999545691339218:=()
def tw3228289230468424738:=()
def tw411567323928230161:=()
def tw7225275143360132611:=()
def tw16073182960391605817:=()
def tw10105682311615449827:=()
def tw652037700748142261:=()
def tw3939661381089195188:=()
def tw10766753663734363282:=()
def tw7909540710317901653:=()
def tw7464197665400781943:=()
def tw16725288157024946306:=()
def tw6729880387915441555:=()
def tw2848458268588892237:=()
def tw13530614254079649259:=()
def tw16647004181046645668:=()
def tw13139649133190861455:=()
def tw17187548671335983348:=()
def tw11884196428545767812:=()
def tw13100220202003532119:=()
def tw14034508788572546945:=()
def tw10403295728643754987:=()
def tw8416858015256661142:=()
def tw17058470471499401742:=()
def tw613808696205475140:=()
def tw11212350602476506897:=()
def tw13196550753546123993:=()
def tw6896826414086439348:=()
def tw14254422511869938217:=()
def tw12740977342369583047:=()
def tw17121557029389448362:=()
def tw678193596899043503:=()
def tw16324955030043943861:=()
def tw10358430741441295751:=()
def tw14033112361523807088:=()
def tw17691674318614543724:=()
def tw4351935742338711934:=()
def tw7974874550119625266:=()
def tw6788151948476394938:=()
def tw2060717570969084061:=()
def tw17352691011304186836:=()
def tw4139749932430366509:=()
def tw3770482457347184122:=()
def tw4592027781496977997:=()
def tw7163030368442403447:=()
def tw15347794950096617513:=()
def tw16574956670880083229:=()
def tw2002563817923634688:=()
def tw15314828317377910821:=()
def tw9621669947730219156:=()
def tw2432713791031002370:=()
def tw5560038660519986772:=()
def tw5357513647507584337:=()
def tw9849859294707270994:=()
def tw15864291517763084451:=()
def tw11790545992256459612:=()
def tw1868295426804583356:=()
def tw13337621394045759469:=()
def tw6554871878621566633:=()
def tw7745684332145806922:=()
def tw5925804165874955513:=()
def tw10833232948599563431:=()
def tw16216923911510765001:=()
def tw827139329677435230:=()
def tw2061465791444719044:=()
def tw6468868708665698188:=()
def tw17199768027513643858:=()
def tw11953130972452669019:=()
def tw13647675955487769126:=()
def tw17219242103470989575:=()
def tw7587117161787879981:=()
def tw5823483651153822604:=()
def tw1375627709200628683:=()
def tw4962580057079465047:=()
def tw11953546193108457090:=()
def tw1598643221648173927:=()
def tw17255477942212513782:=()
def tw2440466233546644221:=()
def tw8488246579310883627:=()
def tw9341745214999888200:=()
def tw15084528752107390779:=()
def tw2177153540366146797:=()
def tw11081673920488102880:=()
def tw932229724276285049:=()
def tw18206803892800774469:=()
def tw2563434377462435005:=()
def tw8167766913193506877:=()
def tw18111374352381319775:=()
def tw2524979733200608284:=()
def tw15584535849063656080:=()
def tw3250346046418854801:=()
def tw17399782697523293180:=()
def tw12552218389110617329:=()
def tw9992070945371411780:=()
def tw11881966078146192612:=()
def tw8173578677924518714:=()
def tw18130536419705551991:=()
def tw7957977054692698178:=()
def tw5246974584339287971:=()
def tw10097063506958309486:=()
def tw4887440099829739933:=()
def tw10285595587441072025:=()
def tw16984897286281592391:=()
def tw7604327397869287223:=()
def tw6082466700976515100:=()
def tw10279795471525157596:=()
def tw16846894399180212700:=()
def tw13938414632246181327:=()
def tw13658607812218531160:=()
def tw18079379178601960355:=()
def tw9762588760735345480:=()
def tw4580304383721424301:=()
def tw4009920602022968348:=()
def tw4242654593610796067:=()
def tw155656291242974193:=()
def tw6410303832856110886:=()
def tw2499021582902946969:=()
def tw17886616212962605110:=()
def tw1250239837292018588:=()
def tw10186650993245622877:=()
def tw674687954177278754:=()
def tw15398597658034588129:=()
def tw7120563399470190052:=()
def tw3548277377217636698:=()
def tw5982788301354585222:=()
def tw4623162202849218700:=()
def tw12347071407715333692:=()
def tw4861586776485786463:=()
def tw14084939575106122324:=()
def tw12958246913297019608:=()
def tw9817702862232716424:=()
def tw8253544126197107155:=()
def tw14749470093607511948:=()
def tw10080690992399529225:=()
def tw8817231581040802866:=()
def tw1536592895771484834:=()
def tw243528019244986048:=()
def tw10813792483442733757:=()
def tw14584886442363204412:=()
def tw10189978600935984914:=()
def tw12167779352754053680:=()
def tw14708426555562094401:=()
def tw8894313156617616534:=()
def tw16084267923887838503:=()
def tw8177300774522384578:=()
def tw7302783549050441454:=()
def tw12352295947725319349:=()
def tw4924585880897058656:=()
def tw15716243713758681814:=()
def tw17495456116491158461:=()
def tw3413741217267541524:=()
def tw7347981601272025724:=()
def tw3953321667123955721:=()
def tw5250011674140206831:=()
def tw17580479413996162652:=()
def tw8013965709272454283:=()
def tw13260660293159748673:=()
def tw5748417513904541954:=()
def tw10123292784393900581:=()
def tw14661222215639761314:=()
def tw13903736701412498853:=()
def tw18076425799502778027:=()
def tw11190554654370435882:=()
def tw5199927315174986172:=()
def tw9022438974538856682:=()
def tw13574765036044195025:=()
def tw2174923759807899025:=()
def tw8996252371354609639:=()
def tw7335547704410792981:=()
def tw12277010952915793446:=()
def tw11114989061265450206:=()
def tw5364301221793807751:=()
def tw15293982357120374409:=()
def tw7314687581533319343:=()
def tw8794138239942414408:=()
def tw7325259330350984575:=()
def tw6870047858116052337:=()
def tw6305326596157442542:=()
def tw13216978655710614797:=()
def tw1268706150007307459:=()
def tw5038091432875256854:=()
def tw15708753254532240403:=()
def tw11352360030986305586:=()
def tw10415629049509192581:=()
def tw374830390209120683:=()
def tw11913005976795014513:=()
def tw5845485890609082544:=()
def tw3140384673563612027:=()
def tw7631716719950896344:=()
def tw8258267486719353084:=()
def tw178435386737898356:=()
def tw1519040836794402151:=()
def tw1470643645695030082:=()
def tw8747546669100868210:=()
def tw17185017102258043441:=()
def tw12514035363027458955:=()
def tw17633405202140829662:=()
def tw6575182463248844546:=()
def tw16353791488721893384:=()
def tw2980192013485410055:=()
def tw8117526553763059796:=()
def tw17948028701501855280:=()
def tw17377486151366929477:=()
def tw1592864969514026865:=()
def tw11297182115645181093:=()
def tw8626102661349818567:=()
def tw17806346303678065355:=()
def tw5200908560207704821:=()
def tw9021892566408505472:=()
def tw733882694630782899:=()
def tw6774902187375050100:=()
def tw17876394495465658773:=()
def tw5953838227061248781:=()
def tw14712735870050785335:=()
def tw16179339823044676406:=()
def tw14623230477462037163:=()
def tw8374542134103609945:=()
def tw16888398210375138303:=()
def tw7952603557429993946:=()
def tw2080132271061631359:=()
def tw2275763635919467591:=()
def tw13051038104337904049:=()
def tw8775968083425256748:=()
def tw11478488030084440747:=()
def tw13664396401987523229:=()
def tw6074998637468850724:=()
def tw17657898394125340616:=()
def tw16976236005055220682:=()
def tw12305121724520753577:=()
def tw7874790167574980340:=()
def tw3922204554540300777:=()
def tw4045503407335046116:=()
def tw626926034811410417:=()
def tw12033019582025109569:=()
def tw2174402689833557987:=()
def tw950064963502810290:=()
def tw13928072697477438032:=()
def tw13997641985104157541:=()
def tw7952497855817447050:=()
def tw17259468078881680543:=()
def tw10116321838969395361:=()
def tw14219824768978889714:=()
def tw1875585365031022715:=()
def tw484105131051479055:=()
def tw2656155698876205896:=()
def tw5964370704729639912:=()
def tw5589211115151976225:=()
def tw584156496159972651:=()
def tw6299653953261592550:=()
def tw14112153228129756716:=()
def tw8339175789348839074:=()
def tw12510084856243307940:=()
def tw16893527664730794607:=()
def tw12042860401195209218:=()
def tw18366104799508765203:=()
def tw10738244107478570648:=()
def tw16708579848838018156:=()
def tw13048486593024730694:=()
def tw378539278980897317:=()
def tw1659593013544299722:=()
def tw16668825475563304689:=()
def tw3449245798124992306:=()
def tw10350792358467604008:=()
def tw4384715144687418839:=()
def tw7745582908877568213:=()
def tw577839501788838466:=()
def tw6006776607817711110:=()
def tw8164809179613890550:=()
def tw8503395969931515370:=()
def tw2414914657640386723:=()
def tw10115828188399467304:=()
def tw12697442662011096031:=()
def tw11466725852207960975:=()
def tw2700518156903247834:=()
def tw9645000533038723953:=()
def tw6739045846208338800:=()
def tw17767979331295902493:=()
def tw6664783306844026578:=()
def tw17115217662435087822:=()
def tw8035518227060530498:=()
def tw3197381151288815263:=()
def tw15305755197151877018:=()
def tw3277899405632235116:=()
end PySem.W.Fast
open PySem PySem.W PyProof.Rows
set_option maxRecDepth 100000 in
set_option maxHeartbeats 0 in
theorem PySem.Challenge.cw_fewnotes_k14_alike_works_holds : PySem.Challenge.rw_fewnotes_k14_alike_works.Holds := by
 w_on;o_law;k_head;(case hw=>w_witness2)
 k_fill
 refine Prf.walk (l:=PySem.Challenge.rw_fewnotes_k14_alike_works) rfl rfl (fun w h Y=>PySem.W.kIn_of Y) ?F
 case F=>
  intro w mg fa h KX G hmg
  replace hmg:mg (Str.ofString "law")=some (.ref fa):=hmg
  refine' Prf.all_mk KX G hmg ?a0 ?l0 ?c0 ?k0 ?a1 ?l1 ?c1 ?k1 ?a2 ?l2 ?c2 ?k2 ?n2 ?a3 ?l3 ?c3 ?k3 ?a4 ?l4 ?c4 ?k4 ?n4 ?a5 ?l5 ?c5 ?k5 ?n5 ?a6 ?l6 ?c6 ?k6 ?n6 ?a7 ?l7 ?c7 ?k7 ?n7 ?a8 ?l8 ?c8 ?k8 ?n8 ?a9 ?l9 ?c9 ?k9 ?a10 ?l10 ?c10 ?k10 ?n10 ?a11 ?l11 ?c11 ?k11 ?n11 ?a12 ?l12 ?c12 ?k12 ?n12 ?a13 ?l13 ?c13 ?k13 ?n13 ?UJ ?a14 ?l14 ?c14 ?k14 ?a15 ?l15 ?c15 ?ZM ?a16 ?l16 ?c16 ?ZL ?a17 ?l17 ?c17 ?ZK ?a18 ?l18 ?c18 ?ZJ ?a19 ?l19 ?c19 ?ZG ?a20 ?l20 ?Yc ?Uo ?a21 ?l21 ?c21 ?ZF ?a22 ?l22 ?c22 ?ZD ?a23 ?l23 ?c23 ?ZC ?a24 ?l24 ?c24 ?Zz ?a25 ?l25 ?c25 ?Zy ?a26 ?l26 ?c26 ?Zx ?a27 ?l27 ?c27 ?Zw ?a28 ?l28 ?c28 ?Zv ?n28 ?a29 ?l29 ?c29 ?Zu ?n29 ?a30 ?l30 ?c30 ?Zt ?n30 ?a31 ?l31 ?c31 ?Zr ?n31 ?a32 ?l32 ?c32 ?Zq ?n32 ?a33 ?l33 ?c33 ?Zo ?n33 ?a34 ?l34 ?c34 ?Zn ?n34 ?a35 ?l35 ?c35 ?Zm ?n35 ?a36 ?l36 ?c36 ?Zk ?n36 ?a37 ?l37 ?c37 ?Zj ?n37 ?a38 ?l38 ?c38 ?Zi ?a39 ?l39 ?c39 ?Zh ?a40 ?l40 ?c40 ?Zg ?a41 ?l41 ?c41 ?Zf ?a42 ?l42 ?c42 ?Ze ?a43 ?l43 ?c43 ?Zd ?a44 ?l44 ?c44 ?Zc ?a45 ?l45 ?c45 ?Zb ?a46 ?l46 ?c46 ?k46 ?yI ?uU ?uX ?uT ?uR ?uV ?uW ?lJ ?pH ?iJ ?jm ?j8 ?kY ?rF ?rG ?rE ?rD ?kO ?kW ?iH ?iI ?jG ?jF ?ycg ?yct ?rH ?rJ ?oM ?m7 ?jt ?lN ?lY ?rK ?lW ?pJ ?pR ?yL ?qw ?uZ ?vm ?lZ ?j_ ?j9 ?kh ?fj ?eZ ?U4 ?U3 ?lU ?lR ?lQ ?lX ?lO ?lM ?lV ?pO ?pN ?pL ?pQ ?pK ?pI ?pP ?vf ?u_ ?u9 ?vh ?u0 ?uY ?vg ?zP ?zO ?iy ?iQ ?qZ ?nQ ?qP ?nU ?nP ?nR ?nO ?nY ?Jb ?C_ ?Ja ?lK ?I_ ?CZ ?IW ?IV ?yK ?IK ?Iz ?yJ ?Iw
  (case yI=>k_is)
  (case uU=>k_is)
  (case uX=>k_is)
  (case uT=>k_is)
  (case uR=>k_is)
  (case uV=>k_is)
  (case uW=>k_is)
  (case lJ=>k_is)
  (case pH=>k_is)
  (case iJ=>k_is)
  (case jm=>k_is)
  (case j8=>k_is)
  (case kY=>k_is)
  (case rF=>k_is)
  (case rG=>k_is)
  (case rE=>k_is)
  (case rD=>k_is)
  (case kO=>k_is)
  (case kW=>k_is)
  (case iH=>k_is)
  (case iI=>k_is)
  (case jG=>k_is)
  (case jF=>k_is)
  (case ycg=>k_is)
  (case yct=>k_is)
  (case rH=>k_is)
  (case rJ=>k_is)
  (case oM=>k_is)
  (case m7=>k_is)
  (case jt=>rfl)
  (case lN=>k_is)
  (case lY=>k_is)
  (case rK=>k_is)
  (case lW=>rfl)
  (case pJ=>k_is)
  (case pR=>k_is)
  (case yL=>k_is)
  (case qw=>rfl)
  (case uZ=>k_is)
  (case vm=>k_is)
  (case lZ=>k_is)
  (case j_=>rfl)
  (case j9=>k_is)
  (case kh=>k_is)
  (case fj=>rfl)
  (case eZ=>k_is)
  (case U4=>k_is)
  (case U3=>k_is)
  (case lU=>k_is)
  (case lR=>k_is)
  (case lQ=>k_is)
  (case lX=>k_is)
  (case lO=>k_is)
  (case lM=>k_is)
  (case lV=>k_exc)
  (case pO=>k_is)
  (case pN=>k_is)
  (case pL=>k_is)
  (case pQ=>k_is)
  (case pK=>k_is)
  (case pI=>k_is)
  (case pP=>k_exc)
  (case vf=>k_is)
  (case u_=>k_is)
  (case u9=>k_is)
  (case vh=>k_is)
  (case u0=>k_is)
  (case uY=>k_is)
  (case vg=>k_exc)
  (case zP=>k_is)
  (case zO=>k_is)
  (case iy=>k_is)
  (case iQ=>intro T hT;simp only [L2.qR,List.mem_cons,List.not_mem_nil,or_false] at hT;rcases hT with rfl|rfl|rfl|rfl|rfl|rfl|rfl<;>kernel_rfl)
  (case qZ=>k_is)
  (case nQ=>kernel_rfl)
  (case qP=>kernel_rfl)
  (case nU=>kernel_rfl)
  (case nP=>kernel_rfl)
  (case nR=>kernel_rfl)
  (case nO=>kernel_rfl)
  (case nY=>kernel_rfl)
  (case a0=>k_is)
  (case l0=>k_is)
  (case c0=>k_is)
  (case k0=>k_is)
  (case a1=>k_is)
  (case l1=>k_is)
  (case c1=>k_is)
  (case k1=>k_is)
  (case a2=>k_is)
  (case l2=>k_is)
  (case c2=>k_is)
  (case k2=>k_is)
  (case n2=>k_is)
  (case a3=>k_is)
  (case l3=>k_is)
  (case c3=>k_is)
  (case k3=>k_is)
  (case a4=>k_is)
  (case l4=>k_is)
  (case c4=>k_is)
  (case k4=>k_is)
  (case n4=>k_is)
  (case a5=>k_is)
  (case l5=>k_is)
  (case c5=>k_is)
  (case k5=>k_is)
  (case n5=>k_is)
  (case a6=>k_is)
  (case l6=>k_is)
  (case c6=>k_is)
  (case k6=>k_is)
  (case n6=>k_is)
  (case a7=>k_is)
  (case l7=>k_is)
  (case c7=>k_is)
  (case k7=>k_is)
  (case n7=>k_is)
  (case a8=>k_is)
  (case l8=>k_is)
  (case c8=>k_is)
  (case k8=>k_is)
  (case n8=>k_is)
  (case a9=>k_is)
  (case l9=>k_is)
  (case c9=>k_is)
  (case k9=>k_is)
  (case a10=>k_is)
  (case l10=>k_is)
  (case c10=>k_is)
  (case k10=>k_is)
  (case n10=>k_is)
  (case a11=>k_is)
  (case l11=>k_is)
  (case c11=>k_is)
  (case k11=>k_is)
  (case n11=>k_is)
  (case a12=>k_is)
  (case l12=>k_is)
  (case c12=>k_is)
  (case k12=>k_is)
  (case n12=>k_is)
  (case a13=>k_is)
  (case l13=>k_is)
  (case c13=>k_is)
  (case k13=>k_is)
  (case n13=>k_is)
  (case UJ=>k_is)
  (case a14=>k_is)
  (case l14=>k_is)
  (case c14=>k_is)
  (case k14=>k_is)
  (case a15=>k_is)
  (case l15=>k_is)
  (case c15=>k_is)
  (case ZM=>k_is)
  (case a16=>k_is)
  (case l16=>k_is)
  (case c16=>k_is)
  (case ZL=>k_is)
  (case a17=>k_is)
  (case l17=>k_is)
  (case c17=>k_is)
  (case ZK=>k_is)
  (case a18=>k_is)
  (case l18=>k_is)
  (case c18=>k_is)
  (case ZJ=>k_is)
  (case a19=>k_is)
  (case l19=>k_is)
  (case c19=>k_is)
  (case ZG=>k_is)
  (case a20=>k_is)
  (case l20=>k_is)
  (case Yc=>k_is)
  (case Uo=>k_is)
  (case a21=>k_is)
  (case l21=>k_is)
  (case c21=>k_is)
  (case ZF=>k_is)
  (case a22=>k_is)
  (case l22=>k_is)
  (case c22=>k_is)
  (case ZD=>k_is)
  (case a23=>k_is)
  (case l23=>k_is)
  (case c23=>k_is)
  (case ZC=>k_is)
  (case a24=>k_is)
  (case l24=>k_is)
  (case c24=>k_is)
  (case Zz=>k_is)
  (case a25=>k_is)
  (case l25=>k_is)
  (case c25=>k_is)
  (case Zy=>k_is)
  (case a26=>k_is)
  (case l26=>k_is)
  (case c26=>k_is)
  (case Zx=>k_is)
  (case a27=>k_is)
  (case l27=>k_is)
  (case c27=>k_is)
  (case Zw=>k_is)
  (case a28=>k_is)
  (case l28=>k_is)
  (case c28=>k_is)
  (case Zv=>k_is)
  (case n28=>k_is)
  (case a29=>k_is)
  (case l29=>k_is)
  (case c29=>k_is)
  (case Zu=>k_is)
  (case n29=>k_is)
  (case a30=>k_is)
  (case l30=>k_is)
  (case c30=>k_is)
  (case Zt=>k_is)
  (case n30=>k_is)
  (case a31=>k_is)
  (case l31=>k_is)
  (case c31=>k_is)
  (case Zr=>k_is)
  (case n31=>k_is)
  (case a32=>k_is)
  (case l32=>k_is)
  (case c32=>k_is)
  (case Zq=>k_is)
  (case n32=>k_is)
  (case a33=>k_is)
  (case l33=>k_is)
  (case c33=>k_is)
  (case Zo=>k_is)
  (case n33=>k_is)
  (case a34=>k_is)
  (case l34=>k_is)
  (case c34=>k_is)
  (case Zn=>k_is)
  (case n34=>k_is)
  (case a35=>k_is)
  (case l35=>k_is)
  (case c35=>k_is)
  (case Zm=>k_is)
  (case n35=>k_is)
  (case a36=>k_is)
  (case l36=>k_is)
  (case c36=>k_is)
  (case Zk=>k_is)
  (case n36=>k_is)
  (case a37=>k_is)
  (case l37=>k_is)
  (case c37=>k_is)
  (case Zj=>k_is)
  (case n37=>k_is)
  (case a38=>k_is)
  (case l38=>k_is)
  (case c38=>k_is)
  (case Zi=>k_is)
  (case a39=>k_is)
  (case l39=>k_is)
  (case c39=>k_is)
  (case Zh=>k_is)
  (case a40=>k_is)
  (case l40=>k_is)
  (case c40=>k_is)
  (case Zg=>k_is)
  (case a41=>k_is)
  (case l41=>k_is)
  (case c41=>k_is)
  (case Zf=>k_is)
  (case a42=>k_is)
  (case l42=>k_is)
  (case c42=>k_is)
  (case Ze=>k_is)
  (case a43=>k_is)
  (case l43=>k_is)
  (case c43=>k_is)
  (case Zd=>k_is)
  (case a44=>k_is)
  (case l44=>k_is)
  (case c44=>k_is)
  (case Zc=>k_is)
  (case a45=>k_is)
  (case l45=>k_is)
  (case c45=>k_is)
  (case Zb=>k_is)
  (case a46=>k_is)
  (case l46=>k_is)
  (case c46=>k_is)
  (case k46=>k_is)
  (case Jb=>k_is)
  (case C_=>k_is)
  (case Ja=>k_is)
  (case lK=>k_is)
  (case I_=>k_is)
  (case CZ=>k_is)
  (case IW=>k_is)
  (case IV=>k_is)
  (case yK=>k_is)
  (case IK=>k_is)
  (case Iz=>k_is)
  (case yJ=>k_is)
  (case Iw=>k_is)
#print axioms PySem.Challenge.cw_fewnotes_k14_alike_works_holds
