import PyProof.Rows.All
import Wide.All
import OpenK.AllK
import Wide.FinOn
import Lean
import PyProof.EqAt
import PyProof.EqKinds
import PyProof.TupleCall
import PyProof.EqLayable
import PyProof.ExcArgsOwn
import PyProof.ExcAttrAll.Exception
import PyProof.RulesAs
import PyProof.ExcBaseAll.ValueError
import PyProof.NsDelKeeps
import KE.KRevSl
import PyProof.DictUpdate
import PyProof.DictTruth
import PyProof.DictDisplay
import KE.KDictOf
import PyProof.AttrMissSeq
import PyProof.WalksS
import KE.KDictSum
import PyProof.TupleKey
import PyProof.SetKind
import PyProof.Rows.SetFrom
import KE.KSortedM
import PySem.Challenge.RW_fewnotes_k29_whole_notes_in_other_orders
set_option Elab.async false
set_option linter.all false
set_option maxRecDepth 100000
namespace L2
open PySem PySem.Spec PyProof.Rows
abbrev Key:=Sum Int Str
def qH:Key->Value->Bool
 | .inl k,v=>Value.isInt k v
 | .inr x,v=>Value.isStrOf x v
def YX (w:World):Key->Int
 | .inl k=>hashInt k
 | .inr x=>hashStr w x
theorem bZ:∀{k:Key} {v:Value},qH k v=true->(∃i t,k=Sum.inl i/\v=Value.int i t)\/(∃x t,k=Sum.inr x/\v=Value.str x t)
 | .inl i,v,h=>by
   obtain ⟨t,e⟩:=Value.isInt_shape (k:=i) (v:=v) h;exact .inl ⟨i,t,rfl,e⟩
 | .inr x,v,h=>by
   obtain ⟨t,e⟩:=Value.isStrOf_shape (x:=x) (v:=v) h;exact .inr ⟨x,t,rfl,e⟩
theorem En (i:Int) (t:Tok):qH (.inl i) (.int i t)=true:=by simp [qH,Value.isInt]
theorem Em (x:Str) (t:Tok):qH (.inr x) (.str x t)=true:=by simp [qH,Value.isStrOf]
theorem Qh (a b:Int):decide ((Sum.inl a:Key)=Sum.inl b)=(a==b):=by
 by_cases e:a=b
 ·subst e;simp
 ·have h:¬(Sum.inl a:Key)=Sum.inl b:=fun q=>e (Sum.inl.inj q)
  rw [decide_eq_false h];exact (beq_eq_false_iff_ne.mpr e).symm
theorem Qe (a b:Str):decide ((Sum.inr a:Key)=Sum.inr b)=decide (a=b):=by
 by_cases e:a=b
 ·subst e;simp
 ·have h:¬(Sum.inr a:Key)=Sum.inr b:=fun q=>e (Sum.inr.inj q)
  rw [decide_eq_false h,decide_eq_false e]
theorem Qg (a:Int) (b:Str):decide ((Sum.inl a:Key)=Sum.inr b)=false:=decide_eq_false (fun q=>nomatch q)
theorem Qf (a:Str) (b:Int):decide ((Sum.inr a:Key)=Sum.inl b)=false:=decide_eq_false (fun q=>nomatch q)
def bO (prog:Program) (w:World):PySem.KeyKind prog w Key where
 is:=qH
 hash:=YX w
 inj:=fun v a b ha hb=>by
  rcases bZ ha with ⟨i,t,rfl,rfl⟩|⟨x,t,rfl,rfl⟩
  ·rcases bZ hb with ⟨j,u,rfl,e⟩|⟨y,u,rfl,e⟩
   ·injection e with e1 _;rw [e1]
   ·exact nomatch e
  ·rcases bZ hb with ⟨j,u,rfl,e⟩|⟨y,u,rfl,e⟩
   ·exact nomatch e
   ·injection e with e1 _;rw [e1]
 byValue:=fun k v h=>by
  rcases bZ h with ⟨i,t,rfl,rfl⟩|⟨x,t,rfl,rfl⟩<;>rfl
 pyHash:=fun hv h=>by
  rcases bZ hv with ⟨i,t,rfl,rfl⟩|⟨x,t,rfl,rfl⟩
  ·exact wpAny_pyHash_int h
  ·exact wpAny_pyHash_str h
 eqBool:=fun hu hv h=>by
  rcases bZ hu with ⟨i,t,rfl,rfl⟩|⟨x,t,rfl,rfl⟩
  ·rcases bZ hv with ⟨j,u,rfl,rfl⟩|⟨y,u,rfl,rfl⟩
   ·rw [Qh] at h;exact wpAny_eqBool_int h
   ·rw [Qg] at h;exact SeqAt.EqAt.int_str i t y u _ _ _ _ h
  ·rcases bZ hv with ⟨j,u,rfl,rfl⟩|⟨y,u,rfl,rfl⟩
   ·rw [Qf] at h;exact SeqAt.EqAt.str_int x t j u _ _ _ _ h
   ·rw [Qe] at h;exact wpAny_eqBool_str h
 «strs» :=fun k x t v h=>by
  rcases bZ h with ⟨i,u,rfl,e⟩|⟨y,u,rfl,e⟩
  ·exact nomatch e
  ·injection e with e1 _
   subst e1;cases v<;>rfl
theorem zX (prog:Program) (w:World) (k:Key) (v:Value):(bO prog w).is k v=qH k v:=rfl
theorem wN (prog:Program) (w:World) (i:Int) (t:Tok):(bO prog w).is (.inl i) (.int i t)=true:=En i t
theorem wM (prog:Program) (w:World) (x:Str) (t:Tok):(bO prog w).is (.inr x) (.str x t)=true:=Em x t
end L2
namespace L2
open PySem PySem.Spec PyProof.Rows
inductive V where
 | non|bl (b:Bool)|int (i:Int)|str (x:Str)|FP (b:Array UInt8)|flt (b:UInt64)|ref (a:Addr)|ty (n:String)
 deriving DecidableEq
def RelV:V->Value->Prop
 | .non,u=>u=Value.none
 | .bl b,u=>u=Value.bool b
 | .int i,u=>∃t,u=Value.int i t
 | .str x,u=>∃t,u=Value.str x t
 | .FP b,u=>∃t,u=Value.bytes b t
 | .flt b,u=>∃t,u=Value.float b t
 | .ref a,u=>u=Value.ref a
 | .ty n,u=>u=Value.type n
abbrev Vals:List V->List Value->Prop:=Paired RelV
theorem Vals.length {xs:List V} {us:List Value} (r:Vals xs us):xs.length=us.length:=Paired.length r
theorem Vals.get:∀{xs:List V} {us:List Value} {i:Nat} {x:V},Vals xs us->xs[i]? = some x -> ∃u,us[i]? = some u/\RelV x u
 | _,_,_,_,.nil,e=>by simp at e
 | _,_,0,_,.cons r _,e=>by simp at e;subst e;exact ⟨_,rfl,r⟩
 | _,_,i+1,x,.cons _ t,e=>by
   obtain ⟨u,h1,h2⟩:=Vals.get (i:=i) (x:=x) t (by simpa using e);exact ⟨u,by simpa using h1,h2⟩
theorem Vals.set {x:V} {u:Value} (r:RelV x u):∀{xs:List V} {us:List Value} (i:Nat),Vals xs us->Vals (xs.set i x) (us.set i u)
 | _,_,_,.nil=> .nil
 | _,_,0,.cons _ t=> .cons r t
 | _,_,i+1,.cons q t=> .cons q (Vals.set r i t)
theorem Vals.append {xs ys:List V} {us ws:List Value} (h:Vals xs us) (s:Vals ys ws):Vals (xs++ys) (us++ws):=by
 induction h with
 | nil=>exact s
 | cons r t ih=>exact .cons r ih
theorem Vals.take:∀{xs:List V} {us:List Value} (n:Nat),Vals xs us->Vals (xs.take n) (us.take n)
 | _,_,0,_=> .nil
 | _,_,_+1,.nil=> .nil
 | _,_,n+1,.cons r t=> .cons r (Vals.take n t)
theorem Vals.drop:∀{xs:List V} {us:List Value} (n:Nat),Vals xs us->Vals (xs.drop n) (us.drop n)
 | _,_,0,r=>r
 | _,_,_+1,.nil=> .nil
 | _,_,n+1,.cons _ t=>Vals.drop n t
def n_:Option V->Option Value->Prop
 | some v,some u=>RelV v u
 | none,none=>True
 | _,_=>False
def KV {κ:Type}:List (κ×V)->List (κ×Value)->Prop:=Paired fun (p:κ×V) (q:κ×Value)=>p.1=q.1/\RelV p.2 q.2
def kV:Key->V
 | .inl i=> .int i
 | .inr x=> .str x
inductive HO where
 | lst (xs:List V)
 | tup (xs:List V)
 | dK (kvs:List (Key×V))|dT (kvs:List (List Key×V))
 | set (S:Int->Bool) (n:Nat)
 | ins (C dx:Addr) (fs:List (Str×V))
 | own (x:Addr)
 | xd (fs:List (Str×V))
 | met (f x:Addr)
 | rng (lo hi:Int)
 | gK (o:Obj) (u:HO)
 | Mw (ps:Array Value)
 | ext (φ:Heap->Prop)
abbrev Hp:=Addr->Option HO
def upd (H:Hp) (a:Addr) (o:HO):Hp:=fun b=>if b=a then some o else H b
theorem ak {H:Hp} {a:Addr} {o:HO}:upd H a o a=some o:=by unfold upd;rw [if_pos rfl]
theorem aP {H:Hp} {a b:Addr} {o:HO} (h:b≠a):upd H a o b=H b:=by unfold upd;rw [if_neg h]
theorem o_ {H:Hp} {a:Addr} {o u:HO}:upd (upd H a o) a u=upd H a u:=by
 funext b;unfold upd;split<;>rfl
theorem iY {H:Hp} {a b:Addr} {o u:HO} (h:H a=some o) (h':H b=some u) (d:o≠u):a≠b:=by
 intro e;subst e;rw [h] at h';exact d (Option.some.inj h')
theorem aB {H:Hp} {a b:Addr} {o:HO} (h:H a=some o) (h':H b=none):a≠b:=by
 intro e;subst e;rw [h] at h';cases h'
section
variable (P:Program) (w:World)
def bJ (H:Hp) (h:Heap) (a:Addr):HO->Prop
 | .lst xs=>xs.length<=sizeLine /\ ∃(its:List Value) (n:Nat),Vals xs its/\h.get? a=some {cls:= .type "list",data:= .seq its.toArray n}
 | .tup xs=>xs.length<=sizeLine /\ ∃its:List Value,Vals xs its/\IsTup h a its.toArray
 | .dK kvs=>kvs.length<=sizeLine/\(a==sysModules)=false /\ ∃vs,KV kvs vs/\h.DictOf (bO P w) a vs
 | .dT kvs=>kvs.length<=sizeLine/\(a==sysModules)=false /\ ∃xs:List (List Key×Addr×Value),
    Paired (fun (p:List Key×V) (q:List Key×Addr×Value)=>p.1=q.1/\H q.2.1=some (.tup (p.1.map kV))/\RelV p.2 q.2.2) kvs xs /\
    ∃o es ep,h.get? a=some o/\o.ExactDict/\o.data = .dict es ep/\es.toList=xs.map (entryOfKey (tupleKind (bO P w)))/\(xs.map (·.1)).Nodup
 | .set S n=>h.SetOf (intKind P w) a S n
 | .ins C dx fs=>H dx=some (.own a)/\fs.length<=1000/\dx≠a/\h.get? a=some (PySem.W.instObj C dx) /\
    ∃mA,h.Ns1 dx mA/\(∀f,n_ (fs.lookup f) (mA f))/\PySem.Within mA (fs.map (·.1))
 | .own _=>∃o,h.get? a=some o
 | .xd fs=>∃mA,h.Ns1 a mA /\ ∀f,n_ (fs.lookup f) (mA f)
 | .rng lo hi=>∃t u v,h.get? a=some {cls:= .type "range",data:= .fields #[.int lo t,.int hi u,.int 1 v]}
 | .gK o u=>h.get? a=some o/\bJ H h a u
 | .Mw ps=>h.get? a=some {cls:= .none,data:= .fields ps}
 | .met f x=>h.get? a=some (PySem.W.methodObj (.ref f) (.ref x))
 | .ext φ=>φ h/\(∃o,h.get? a=some o) /\ ∀h1 h2:Heap,φ h1->(∀o,h1.get? a=some o->h2.get? a=some o)->φ h2
def lB (H:Hp) (h:Heap):Prop:=∀a o,H a=some o->bJ P w H h a o
end
section
variable {P:Program} {w:World} {H H':Hp} {h h':Heap} {a:Addr} {o:HO}
theorem bJ.lt (x:bJ P w H h a o):a<h.objs.size:=by
 cases o with
 | lst xs=>obtain ⟨_,_,_,_,e⟩:=x;exact Heap.lt_size e
 | tup xs=>obtain ⟨_,_,_,p⟩:=x;exact p.lt
 | dK kvs=>obtain ⟨_,_,_,_,o,_,_,e,_⟩:=x;exact Heap.lt_size e
 | dT kvs=>obtain ⟨_,_,_,_,o,_,_,e,_⟩:=x;exact Heap.lt_size e
 | set S n=>obtain ⟨o,_,_,_,e,_⟩:=x;exact Heap.lt_size e
 | ins C dx fs=>obtain ⟨_,_,_,e,_⟩:=x;exact Heap.lt_size e
 | own y=>obtain ⟨_,e⟩:=x;exact Heap.lt_size e
 | xd fs=>obtain ⟨_,⟨_,_,_,e,_⟩,_⟩:=x;exact Heap.lt_size e
 | rng lo hi=>obtain ⟨_,_,_,e⟩:=x;exact Heap.lt_size e
 | gK ob u=>obtain ⟨e,_⟩:=x;exact Heap.lt_size e
 | Mw ps=>exact Heap.lt_size (show h.get? a=some _ from x)
 | met f y=>exact Heap.lt_size (show h.get? a=some _ from x)
 | ext φ=>obtain ⟨_,⟨_,e⟩,_⟩:=x;exact Heap.lt_size e
theorem Paired.PX {α β:Type} {F G:α->β->Prop}:∀{l₁:List α} {l₂:List β},Paired F l₁ l₂->(∀a b,F a b->G a b)->Paired G l₁ l₂
 :=by
 intro l₁ l₂ h f
 induction h with
 | nil=>exact .nil
 | cons r t ih=>exact .cons (f _ _ r) ih
theorem bJ.stay (x:bJ P w H h a o) (k:∀b u,(b=a\/H b=some (.own a))->h.get? b=some u->h'.get? b=some u)
 (ho:∀b,H b=some (.own a)->H' b=some (.own a)) (ht:∀b xs,H b=some (.tup xs)->H' b=some (.tup xs)):bJ P w H' h' a o:=by
 induction o with
 | lst xs=>obtain ⟨z,its,n,r,e⟩:=x;exact ⟨z,its,n,r,k _ _ (.inl rfl) e⟩
 | tup xs=>obtain ⟨z,its,r,ob,e,c⟩:=x;exact ⟨z,its,r,ob,k _ _ (.inl rfl) e,c⟩
 | dK kvs=>obtain ⟨z,y,vs,r,ob,es,ep,e,c⟩:=x;exact ⟨z,y,vs,r,ob,es,ep,k _ _ (.inl rfl) e,c⟩
 | dT kvs=>
   obtain ⟨z,y,xs,r,ob,es,ep,e,c⟩:=x;exact ⟨z,y,xs,Paired.PX r fun p q z=>⟨z.1,ht _ _ z.2.1,z.2.2⟩,ob,es,ep,k _ _ (.inl rfl) e,c⟩
 | set S n=>obtain ⟨ob,es,ep,t,e,c⟩:=x;exact ⟨ob,es,ep,t,k _ _ (.inl rfl) e,c⟩
 | ins C dx fs=>
   obtain ⟨d,z,ne,e,mA,⟨od,es,ep,e2,c⟩,r⟩:=x;exact ⟨ho _ d,z,ne,k _ _ (.inl rfl) e,mA,⟨od,es,ep,k _ _ (.inr d) e2,c⟩,r⟩
 | own y=>obtain ⟨ob,e⟩:=x;exact ⟨ob,k _ _ (.inl rfl) e⟩
 | xd fs=>obtain ⟨mA,⟨od,es,ep,e,c⟩,r⟩:=x;exact ⟨mA,⟨od,es,ep,k _ _ (.inl rfl) e,c⟩,r⟩
 | rng lo hi=>obtain ⟨t,u,v,e⟩:=x;exact ⟨t,u,v,k _ _ (.inl rfl) e⟩
 | gK ob u ih=>obtain ⟨e,q⟩:=x;exact ⟨k _ _ (.inl rfl) e,ih q⟩
 | Mw ps=>
   have e:h.get? a=some {cls:= .none,data:= .fields ps}:=x;show h'.get? a=some {cls:= .none,data:= .fields ps};exact k a _ (.inl rfl) e
 | met f y=>
   have e:h.get? a=some (PySem.W.methodObj (.ref f) (.ref y)):=x;show h'.get? a=some (PySem.W.methodObj (.ref f) (.ref y));exact k a _ (.inl rfl) e
 | ext φ=>obtain ⟨p,⟨o,e⟩,st⟩:=x;exact ⟨st _ _ p fun o q=>k _ _ (.inl rfl) q,⟨o,k _ _ (.inl rfl) e⟩,st⟩
theorem lB.lt (x:lB P w H h) (e:H a=some o):a<h.objs.size:=(x a o e).lt
theorem lB.fresh (x:lB P w H h) (e:h.objs.size<=a):H a=none:=by
 cases q:H a with
 | none=>rfl
 | some u=>exact absurd (Nat.lt_of_lt_of_le (x.lt q) e) (Nat.lt_irrefl _)
theorem lB.kept (x:lB P w H h) (k:∀b u,h.get? b=some u->h'.get? b=some u):lB P w H h':=fun a o e=>
 (x a o e).stay (fun b u _ q=>k b u q) (fun _ q=>q) fun _ _ q=>q
theorem lB.laid (x:lB P w H h) (k:∀b u,h.get? b=some u->h'.get? b=some u) (hp:h.objs.size<=a) (new:bJ P w (upd H a o) h' a o):lB P w (upd H a o) h':=fun b u e=>by
 have hn:=x.fresh hp
 by_cases hb:b=a
 ·subst hb;rw [ak] at e;cases e;exact new
 ·rw [aP hb] at e
  exact (x b u e).stay (fun c v _ q=>k c v q) (fun c q=>by rw [aP (aB q hn)];exact q) fun c xs q=>by rw [aP (aB q hn)];exact q
end
def Rd (H:Hp) (a:Addr) (u:HO):Prop:=H a=some u \/ ∃o,H a=some (.gK o u)
theorem Rd.ok {P:Program} {w:World} {H:Hp} {h:Heap} {a:Addr} {u:HO} (r:Rd H a u) (x:lB P w H h):bJ P w H h a u:=by
 rcases r with r|⟨o,r⟩
 ·exact x a u r
 ·obtain ⟨_,q⟩:=x a _ r
  exact q
def UJ:Option HO->Prop
 | some (.lst _)=>True
 | some (.dK _)=>True
 | some (.dT _)=>True
 | some (.set _ _)=>True
 | some (.ins _ _ _)=>True
 | some (.ext _)=>True
 | _=>False
section
variable {P:Program} {w:World} {H:Hp} {h h':Heap} {x e:Addr} {o':HO}
theorem lB.write (ok:lB P w H h) (mu:UJ (H x)) (he:e=x\/H e=some (.own x)) (k:∀b u,b≠e->h.get? b=some u->h'.get? b=some u) (heo:∃u,h'.get? e=some u)
 (new:bJ P w (upd H x o') h' x o'):lB P w (upd H x o') h':=fun b u q=>by
 have Ec:∀c y,H c=some (.own y)->c≠x:=fun c y r z=>by subst z;rw [r] at mu;exact mu
 have Yi:∀c xs,H c=some (.tup xs)->c≠x:=fun c xs r z=>by subst z;rw [r] at mu;exact mu
 by_cases hb:b=x
 ·subst hb;rw [ak] at q;cases q;exact new
 ·rw [aP hb] at q
  by_cases hbe:b=e
  ·have q':H b=some (.own x):=by
    rcases he with z|z
    ·exact absurd (hbe.trans z) hb
    ·rw [hbe];exact z
   rw [q] at q';cases q';obtain ⟨v,hv⟩:=heo;exact ⟨v,by rw [hbe];exact hv⟩
  ·refine (ok b u q).stay (fun c v hc r=>k c v ?_ r) (fun c r=>by rw [aP (Ec c b r)];exact r) fun c xs r=>by rw [aP (Yi c xs r)];exact r
   rcases hc with rfl|hc
   ·exact hbe
   ·rintro rfl
    rcases he with z|z
    ·exact Ec c b hc z
    ·rw [hc] at z;cases z;exact hb rfl
end
structure Un (fs ex:List Addr) (H H':Hp) (h h':Heap):Prop where
 keep:∀b o,h.get? b=some o->H b=none->b∉fs->b∉ex->h'.get? b=some o
 slot:∀b o,h.get? b=some o->H b=none->b∈fs->b∉ex -> ∃sl,h'.get? b=some {o with slots:=sl}
 free:∀b o,h.get? b=some o->H b=none->b∉ex->H' b=none
 there:∀b o,h.get? b=some o->b∉ex -> ∃o',h'.get? b=some o'
 tups:∀b xs,H b=some (.tup xs)->H' b=some (.tup xs)
 mU:∀b o u,H b=some (.gK o u)->H' b=some (.gK o u)
 pQ:∀b ps,H b=some (.Mw ps) -> ∃more,H' b=some (.Mw (ps++more))
section
variable {fs fs' ex ex':List Addr} {H H1 H2:Hp} {h h1 h2 h':Heap} {a x e:Addr} {o:HO}
theorem Un.any (u:Un fs ex H H1 h h1) {b:Addr} {ob:Obj} (q:h.get? b=some ob) (n:H b=none) (hx:b∉ex):∃sl,h1.get? b=some {ob with slots:=sl}:=by
 by_cases hb:b∈fs
 ·exact u.slot b ob q n hb hx
 ·exact ⟨ob.slots,u.keep b ob q n hb hx⟩
theorem Un.kept (k:∀b u,h.get? b=some u->h'.get? b=some u):Un fs ex H H h h':=
 ⟨fun b ob q _ _ _=>k b ob q,fun b ob q _ _ _=>⟨ob.slots,k b ob q⟩,fun _ _ _ n _=>n,fun b ob q _=>⟨ob,k b ob q⟩,fun _ _ q=>q,fun _ _ _ q=>q,fun _ ps q=>⟨#[],by rw [q];simp⟩⟩
theorem Un.refl:Un fs ex H H h h:=Un.kept fun _ _ q=>q
theorem Un.laid (k:∀b u,h.get? b=some u->h'.get? b=some u) (hp:h.objs.size<=a) (hn:H a=none):Un fs ex H (upd H a o) h h' where
 keep:=fun b u q _ _ _=>k b u q
 slot:=fun b u q _ _ _=>⟨u.slots,k b u q⟩
 free:=fun b u q n _=>by rw [aP (Nat.ne_of_lt (Nat.lt_of_lt_of_le (Heap.lt_size q) hp))];exact n
 there:=fun b u q _=>⟨u,k b u q⟩
 tups:=fun b xs q=>by rw [aP (aB q hn)];exact q
 mU:=fun b u xs q=>by rw [aP (aB q hn)];exact q
 pQ:=fun b ps q=>⟨#[],by rw [aP (aB q hn),q];simp⟩
theorem Un.write (mu:UJ (H x)) (he:e=x\/H e=some (.own x)) (k:∀b u,b≠e->h.get? b=some u->h'.get? b=some u) (heo:∃u,h'.get? e=some u):Un fs ex H (upd H x o) h h':=by
 have hx:∀b,H b=none->b≠x:=fun b n z=>by subst z;rw [n] at mu;exact mu
 have hb:∀b,H b=none->b≠e:=fun b n z=>by
  subst z;rcases he with r|r
  ·exact hx b n r
  ·rw [n] at r;cases r
 have hm:∀b u,H b=some u -> ¬UJ (some u)->b≠x:=fun b u q nm z=>by subst z;rw [q] at mu;exact nm mu
 refine ⟨fun b u q n _ _=>k b u (hb b n) q,fun b u q n _ _=>⟨u.slots,k b u (hb b n) q⟩,fun b u q n _=>by rw [aP (hx b n)];exact n,fun b u q _=> ?_,
  fun b xs q=>by rw [aP (hm b _ q fun z=>z)];exact q,fun b u xs q=>by rw [aP (hm b _ q fun z=>z)];exact q,fun b ps q=>⟨#[],by rw [aP (hm b _ q fun z=>z),q];simp⟩⟩
 by_cases hbe:b=e
 ·subst hbe;exact heo
 ·exact ⟨u,k b u hbe q⟩
end
def U6 (h:Heap) (H:Hp):List Addr:=(List.range h.objs.size).filter fun a=>(H a).isSome
def uX (h:Heap) (H:Hp):Heap:=PySem.W.hideAll h (U6 h H)
theorem Et (h:Heap) (H:Hp):(uX h H).objs.size=h.objs.size:=PySem.W.hideAll_size _ _
theorem Iv {h:Heap} {H:Hp} {b:Addr} {o:Obj} (e:h.get? b=some o) (n:H b=none):(uX h H).get? b=some o:=
 PySem.W.hideAll_get _ e fun hm=>by
  have q:(H b).isSome=true:=(List.mem_filter.mp hm).2;rw [n] at q;simp at q
theorem KR {h:Heap} {H:Hp} {b:Addr} {o:Obj} (e:(uX h H).get? b=some o):h.get? b=some o/\H b=none:=by
 have e':h.get? b=some o:=PySem.W.of_hideAll (U6 h H) e;refine ⟨e', ?_⟩;cases q:H b with
 | none=>rfl
 | some x=>
   have hm:b∈U6 h H:=List.mem_filter.mpr ⟨List.mem_range.mpr (Heap.lt_size e'),by simp [q]⟩;have z:(uX h H).get? b=none:=PySem.W.hideAll_none (U6 h H) hm;rw [z] at e;cases e
def Mp (g h:Heap) (L:Addr):List (Addr×Obj):=(List.range h.objs.size).filterMap fun a=>if a=L\/(g.get? a).isSome=true then none else (h.get? a).map fun o=>(a,o)
def rest (g h:Heap) (L d:Addr):List (Addr×Obj):=(Mp g h L).filter fun p=>decide (p.1≠d)
end L2
namespace L2
open PySem PySem.Spec PyProof.Rows
structure Mod (K:PySem.W.Frag) (mg:Str->Option Value) (base:Heap):Prop where
 YW:K.In base
 glob:base.Ns mainGlobals mg
 blt:∃mb,base.Ns builtinsNs mb /\ ∀x:Str,x ≠ "__name__" -> mb x=bootBuiltins x
 nolimit:base.NoLimit
structure Cx where
 prog:Program
 w:World
 K:PySem.W.Frag
 mg:Str->Option Value
 base:Heap
 A:Around
 N:List Str
 s₀:Shared
 H₀:Hp
 env:Env
 outer:List Env
 stack:List Env
 ex:List Addr
 fn:Str->Bool
 calm:Bool
 pn:List (Addr×Obj)
 xe:Value->Shared->Prop
def frs (l:List Env):List Addr:=l.filterMap (·.frame)
abbrev Cx.fs (X:Cx):List Addr:=frs X.outer
def Vis (sc:Scope) (x:Str):Prop:=sc.names.lookup x=some .local\/sc.names.lookup x=some .cell\/sc.names.lookup x=some .free
def Loc (sc:Scope) (x:Str):Prop:=sc.names.lookup x=some .local\/sc.names.lookup x=some .cell
def Look (env:Env) (h:Heap) (m:Str->Option Value) (x:Str) (u:Value):Prop:=
 (env.kindOf x=some .local/\m x=some u)\/((env.kindOf x=some .cell\/env.kindOf x=some .free) /\ ∃c,env.cells.lookup x=some c/\h.IsCell c (some u))
structure Cx.Ok (X:Cx):Prop where
 mod:Mod X.K X.mg X.base
 kind:X.env.scope.kind = .function
 glob:X.env.globals=mainGlobals
 blt:X.env.builtins=builtinsNs
 above:X.s₀.heap.objs.size<=X.env.locals
 inj:∀x y c,X.env.cells.lookup x=some c->X.env.cells.lookup y=some c->x=y
 has:∀x,(X.env.kindOf x=some .cell\/X.env.kindOf x=some .free) -> ∃c,X.env.cells.lookup x=some c
 cab:∀x c,X.fn x=true->X.env.cells.lookup x=some c->X.s₀.heap.objs.size<=c
 hd:X.calm=true->X.A.handled=none
 frames:X.A.frames=some X.stack
 stk:X.stack=X.outer\/(X.stack=X.env::X.outer/\X.env.frame=some X.env.locals)
 exf:∀b∈X.ex,b≠X.env.locals /\ ∀x c,X.env.cells.lookup x=some c->c≠b
 bs:∀b o,X.base.get? b=some o->X.s₀.heap.get? b=some o/\X.H₀ b=none
 JM:X.base.objs.size<=X.s₀.heap.objs.size
 Ef:∀b o,X.base.get? b=some o->b∉X.ex
 Lz:∀b∈X.ex,b∉X.fs
 qJ:X.s₀.heap.FunFrames X.base X.outer
 Rj:∀b∈X.fs,X.H₀ b=none
structure Inv (X:Cx) (pins:List (Addr×Obj)) (σ:List (Option V)) (H:Hp) (s:Shared):Prop where
 ok:X.Ok
 os:s.os=X.s₀.os
 bare:AllBare s.gens
 base:Un X.fs X.ex X.H₀ H X.s₀.heap s.heap
 loc:∃m,s.heap.Ns X.env.locals m /\ ∀(i:Nat) (x:Str) (v:V),X.N[i]? = some x->σ[i]? = some (some v)->Vis X.env.scope x -> ∃u,RelV v u/\Look X.env s.heap m x u
 cell:∀x c,X.env.cells.lookup x=some c -> ∃v,s.heap.IsCell c v
 free:H X.env.locals=none
 jt:∀x c,X.env.cells.lookup x=some c->H c=none
 pin:∀p∈X.pn++pins,s.heap.get? p.1=some p.2/\H p.1=none/\p.1≠X.env.locals/\p.1∉X.fs /\ ∀v,p.2.data ≠ .cell v
 hok:lB X.prog X.w H s.heap
 len:σ.length=X.N.length
section
variable {X:Cx} {pins:List (Addr×Obj)} {σ:List (Option V)} {H H':Hp} {s:Shared} {h':Heap}
theorem Cx.Ok.Ym (ok:X.Ok) {b:Addr} {o:Obj} (e:X.base.get? b=some o):b∉X.fs:=fun hb=>by
 have:=(ok.qJ.mem hb).1;rw [e] at this;cases this
theorem Inv.bs (I:Inv X pins σ H s):∀b o,X.base.get? b=some o->s.heap.get? b=some o/\H b=none:=fun b o e=>
 ⟨I.base.keep b o (I.ok.bs b o e).1 (I.ok.bs b o e).2 (I.ok.Ym e) (I.ok.Ef b o e),I.base.free b o (I.ok.bs b o e).1 (I.ok.bs b o e).2 (I.ok.Ef b o e)⟩
theorem Inv.bk (I:Inv X pins σ H s):∀b o,X.base.get? b=some o->s.heap.get? b=some o:=fun b o e=>(I.bs b o e).1
theorem Inv.mod (I:Inv X pins σ H s):Mod X.K X.mg X.base:=I.ok.mod
theorem Inv.xg (I:Inv X pins σ H s):X.K.In s.heap:=I.ok.mod.YW.keeps I.bk
theorem Inv.lt (I:Inv X pins σ H s):X.env.locals<s.heap.objs.size:=let ⟨_,hn,_⟩:=I.loc;hn.lt
theorem Inv.sz (I:Inv X pins σ H s):X.s₀.heap.objs.size<=s.heap.objs.size:=Nat.le_trans I.ok.above (Nat.le_of_lt I.lt)
theorem Inv.Yl (I:Inv X pins σ H s) {a:Addr} (h:s.heap.objs.size<=a):a∉X.fs:=fun hb=>by
 obtain ⟨_,o,ho,_⟩:=I.ok.qJ.mem hb;exact absurd (Nat.lt_of_lt_of_le (Heap.lt_size ho) (Nat.le_trans I.sz h)) (Nat.lt_irrefl _)
theorem Inv.QL (I:Inv X pins σ H s):∀x c,X.env.cells.lookup x=some c->c≠X.env.locals:=fun x c e z=>by
 obtain ⟨v,o,ho,hd⟩:=I.cell x c e;obtain ⟨m,⟨o',es,ep,ho',hd',_⟩,_⟩:=I.loc;rw [z,ho'] at ho;cases ho;rw [hd'] at hd;cases hd
theorem Inv.qJ (I:Inv X pins σ H s):s.heap.FunFrames X.base X.outer:=by
 have all:∀(l:List Env),(∀b∈frs l,b∈X.fs)->X.s₀.heap.FunFrames X.base l->s.heap.FunFrames X.base l:=by
  intro l
  induction l with
  | nil=>intro _ _;trivial
  | cons env r ih=>
    intro hs hl;obtain ⟨hk,⟨L,o,hf,hn,ho,hd⟩,hr⟩:=hl;have hL:L∈X.fs:=hs L (by unfold frs;rw [List.filterMap_cons,hf];exact List.mem_cons_self);obtain ⟨sl,e⟩:=I.base.slot L o ho (I.ok.Rj L hL) hL fun z=>I.ok.Lz L z hL;exact ⟨hk,⟨L,_,hf,hn,e,hd⟩,ih (fun b hb=>hs b (by unfold frs;rw [List.filterMap_cons,hf];exact List.mem_cons_of_mem _ hb)) hr⟩
 exact all X.outer (fun _ hb=>hb) I.ok.qJ
theorem Inv.stack (I:Inv X pins σ H s):s.heap.FunFrames X.base X.stack:=by
 rcases I.ok.stk with e|⟨e,hf⟩
 ·rw [e];exact I.qJ
 ·rw [e]
  obtain ⟨m,hn,_⟩:=I.loc;refine .cons (by rw [I.ok.kind];decide) hf hn ?_ I.qJ;exact Heap.get?_none_of_le (Nat.le_trans I.ok.JM I.ok.above)
theorem Inv.m_ (I:Inv X pins σ H s):∀b∈frs X.stack,b∈X.env.locals::X.fs:=fun b hb=>by
 rcases I.ok.stk with e|⟨e,hf⟩
 ·rw [e] at hb;exact List.mem_cons_of_mem _ hb
 ·rw [e] at hb
  unfold frs at hb;rw [List.filterMap_cons,hf] at hb;exact hb
theorem Inv.ug (I:Inv X pins σ H s):∀b∈frs X.stack,H b=none:=fun b hb=>by
 rcases List.mem_cons.mp (I.m_ b hb) with e|hb
 ·rw [e];exact I.free
 ·obtain ⟨_,o,ho,_⟩:=I.ok.qJ.mem hb
  exact I.base.free b o ho (I.ok.Rj b hb) fun z=>I.ok.Lz b z hb
theorem Inv.step {g':Array GenState} {t':Nat} {d':Drawn} {ch:List Addr} (I:Inv X pins σ H s)
 (hch:∀b∈ch,(b∈X.ex\/X.s₀.heap.objs.size<=b)/\b≠X.env.locals/\(∀x c,X.env.cells.lookup x=some c->c≠b) /\ ∀p∈X.pn++pins,p.1≠b)
 (keep:∀b o,b≠X.env.locals->b∉X.fs->b∉ch->s.heap.get? b=some o->H b=none->h'.get? b=some o)
 (slot:∀b o,b≠X.env.locals->b∈X.fs->b∉ch->s.heap.get? b=some o->H b=none -> ∃sl,h'.get? b=some {o with slots:=sl}) (free:∀b o,b∉ch->s.heap.get? b=some o->H b=none->H' b=none)
 (there:∀b o,b∉ch->s.heap.get? b=some o -> ∃o',h'.get? b=some o')
 (tups:∀b xs,H b=some (.tup xs)->H' b=some (.tup xs)) (mU:∀b o u,H b=some (.gK o u)->H' b=some (.gK o u)) (pQ:∀b ps,H b=some (.Mw ps) -> ∃more,H' b=some (.Mw (ps++more)))
 (ns:∀m,s.heap.Ns X.env.locals m->h'.Ns X.env.locals m) (hok:lB X.prog X.w H' h') (hg:AllBare g'):
 Inv X pins σ H' {s with heap:=h',gens:=g',drawn:=d',toks:=t'}:=by
 have neL:∀b o,X.s₀.heap.get? b=some o->b≠X.env.locals:=fun b o e=>Nat.ne_of_lt (Nat.lt_of_lt_of_le (Heap.lt_size e) I.ok.above)
 have Vh:∀b o,X.s₀.heap.get? b=some o->b∉X.ex->b∉ch:=fun b o e hx hb=>by
  rcases (hch b hb).1 with z|z
  ·exact hx z
  ·exact absurd (Nat.lt_of_lt_of_le (Heap.lt_size e) z) (Nat.lt_irrefl _)
 have cellK:∀x c,X.env.cells.lookup x=some c -> ∀v,s.heap.IsCell c v->h'.IsCell c v:=fun x c e v ⟨o,ho,hd⟩=>by
  have Ss:c∉ch:=fun z=>(hch c z).2.2.1 x c e rfl
  by_cases hc:c∈X.fs
  ·obtain ⟨sl,q⟩:=slot c o (I.QL x c e) hc Ss ho (I.jt x c e)
   exact ⟨_,q,hd⟩
  ·exact ⟨o,keep c o (I.QL x c e) hc Ss ho (I.jt x c e),hd⟩
 refine ⟨I.ok,I.os,hg,⟨fun b o e n hb hx=> ?_,fun b o e n hb hx=> ?_,fun b o e n hx=> ?_,fun b o e hx=> ?_,fun b xs e=>tups b xs (I.base.tups b xs e),fun b o xs e=>mU b o xs (I.base.mU b o xs e),fun b ps e=> ?_⟩, ?_,fun x c e=> ?_, ?_,fun x c e=> ?_,fun p hp=> ?_,hok,I.len⟩
 ·exact keep b o (neL b o e) hb (Vh b o e hx) (I.base.keep b o e n hb hx) (I.base.free b o e n hx)
 ·obtain ⟨sl,e1⟩:=I.base.slot b o e n hb hx
  obtain ⟨sl',e2⟩:=slot b _ (neL b o e) hb (Vh b o e hx) e1 (I.base.free b o e n hx);exact ⟨sl',e2⟩
 ·obtain ⟨o',e1⟩:=I.base.there b o e hx
  exact free b o' (Vh b o e hx) e1 (I.base.free b o e n hx)
 ·obtain ⟨o',e1⟩:=I.base.there b o e hx
  exact there b o' (Vh b o e hx) e1
 ·obtain ⟨m1,e1⟩:=I.base.pQ b ps e
  obtain ⟨m2,e2⟩:=pQ b _ e1;exact ⟨m1++m2,by rw [e2,Array.append_assoc]⟩
 ·obtain ⟨m,hn,hl⟩:=I.loc
  refine ⟨m,ns m hn,fun i x v e1 e2 e3=> ?_⟩;obtain ⟨u,r,l⟩:=hl i x v e1 e2 e3;refine ⟨u,r, ?_⟩;rcases l with l|⟨k,c,e,z⟩
  ·exact .inl l
  ·exact .inr ⟨k,c,e,cellK x c e _ z⟩
 ·obtain ⟨v,z⟩:=I.cell x c e
  exact ⟨v,cellK x c e v z⟩
 ·obtain ⟨m,⟨o,_,_,ho,_⟩,_⟩:=I.loc
  exact free _ o (fun z=>(hch _ z).2.1 rfl) ho I.free
 ·obtain ⟨v,o,ho,hd⟩:=I.cell x c e
  exact free c o (fun z=>(hch c z).2.2.1 x c e rfl) ho (I.jt x c e)
 ·obtain ⟨e,n,ne,nf,d⟩:=I.pin p hp
  have Ss:p.1∉ch:=fun z=>(hch p.1 z).2.2.2 p hp rfl;exact ⟨keep p.1 p.2 ne nf Ss e n,free p.1 p.2 Ss e n,ne,nf,d⟩
theorem Inv.un {t':Nat} (I:Inv X pins σ H s) (u:Un X.fs [] H H' s.heap h') (hok:lB X.prog X.w H' h'):Inv X pins σ H' {s with heap:=h',toks:=t'}:=by
 obtain ⟨m,⟨o,es,ep,ho,r⟩,_⟩:=id I.loc;obtain ⟨sl,hL⟩:=u.any ho I.free (by simp)
 exact I.step (g':=s.gens) (d':=s.drawn) (ch:=[]) (fun _ z=>nomatch z) (fun b o _ hb _ e n=>u.keep b o e n hb (by simp)) (fun b o _ hb _ e n=>u.slot b o e n hb (by simp)) (fun b o _ e n=>u.free b o e n (by simp)) (fun b o _ e=>u.there b o e (by simp)) u.tups u.mU u.pQ (fun m' hm=>by
  obtain ⟨o',es',ep',ho',r'⟩:=hm;rw [ho] at ho';cases ho';exact ⟨_,es',ep',hL,r'⟩) hok I.bare
theorem Inv.call {g':Array GenState} {t':Nat} {d':Drawn} {ch:List Addr} (I:Inv X pins σ H s) (u:Un (frs X.stack) ch H H' s.heap h') (hok:lB X.prog X.w H' h') (hg:AllBare g')
 (hch:∀b∈ch,(b∈X.ex\/X.s₀.heap.objs.size<=b)/\b≠X.env.locals/\(∀x c,X.env.cells.lookup x=some c->c≠b) /\ ∀p∈X.pn++pins,p.1≠b):
 Inv X pins σ H' {s with heap:=h',gens:=g',drawn:=d',toks:=t'}:=by
 obtain ⟨m,⟨o,es,ep,ho,r⟩,_⟩:=id I.loc;obtain ⟨sl,hL⟩:=u.any ho I.free fun z=>(hch _ z).2.1 rfl
 exact I.step (ch:=ch) hch (fun b o hL hb hc e n=>u.keep b o e n (fun z=>(List.mem_cons.mp (I.m_ b z)).elim hL hb) hc) (fun b o _ _ hc e n=>u.any e n hc) (fun b o hc e n=>u.free b o e n hc) (fun b o hc e=>u.there b o e hc) u.tups u.mU u.pQ (fun m' hm=>by
  obtain ⟨o',es',ep',ho',r'⟩:=hm;rw [ho] at ho';cases ho';exact ⟨_,es',ep',hL,r'⟩) hok hg
theorem Inv.turned {t':Nat} {it:Addr} (I:Inv X pins σ H s) (k:∀b o,b≠it->s.heap.get? b=some o->h'.get? b=some o) (hn:H it=none) (hL:it≠X.env.locals)
 (h1:it∈X.ex\/X.s₀.heap.objs.size<=it) (h2:∀x c,X.env.cells.lookup x=some c->c≠it) (h3:∀p∈X.pn++pins,p.1≠it):Inv X pins σ H {s with heap:=h',toks:=t'}:=by
 have K4:∀b u,H b=some u->b≠it:=fun b u e z=>by rw [z,hn] at e;cases e
 refine I.step (g':=s.gens) (d':=s.drawn) (ch:=[it]) (fun b hb=> ?_) (fun b o _ _ hc e _=>k b o (fun z=>hc (by simp [z])) e) (fun b o _ _ hc e _=>⟨o.slots,k b o (fun z=>hc (by simp [z])) e⟩) (fun _ _ _ _ n=>n)
  (fun b o hc e=>⟨o,k b o (fun z=>hc (by simp [z])) e⟩) (fun _ _ e=>e) (fun _ _ _ e=>e) (fun b ps e=>⟨#[],by rw [e];simp⟩) (fun m hm=> ?_) (fun b u e=> ?_) I.bare
 ·have e:b=it:=by simpa using hb
  subst e;exact ⟨h1,hL,h2,h3⟩
 ·obtain ⟨o,es,ep,ho,r⟩:=hm
  exact ⟨o,es,ep,k _ o (Ne.symm hL) ho,r⟩
 ·refine (I.hok b u e).stay (fun c v hc q=>k c v ?_ q) (fun _ q=>q) fun _ _ q=>q
  rcases hc with z|z
  ·rw [z];exact K4 b u e
  ·exact K4 c _ z
theorem Inv.tok (I:Inv X pins σ H s) (t:Nat):Inv X pins σ H {s with toks:=t}:=I.un (h':=s.heap) (t':=t) Un.refl I.hok
theorem Inv.kept {t':Nat} (I:Inv X pins σ H s) (k:∀b u,s.heap.get? b=some u->h'.get? b=some u):Inv X pins σ H {s with heap:=h',toks:=t'}:=I.un (Un.kept k) (I.hok.kept k)
theorem Inv.laid {a:Addr} {o:HO} {t':Nat} (I:Inv X pins σ H s) (k:∀b u,s.heap.get? b=some u->h'.get? b=some u) (hp:s.heap.objs.size<=a) (new:bJ X.prog X.w (upd H a o) h' a o):
 Inv X pins σ (upd H a o) {s with heap:=h',toks:=t'}:=I.un (Un.laid k hp (I.hok.fresh hp)) (I.hok.laid k hp new)
theorem Inv.write {x e:Addr} {o:HO} {t':Nat} (I:Inv X pins σ H s) (mu:UJ (H x)) (he:e=x\/H e=some (.own x)) (k:∀b u,b≠e->s.heap.get? b=some u->h'.get? b=some u) (heo:∃u,h'.get? e=some u)
 (new:bJ X.prog X.w (upd H x o) h' x o):Inv X pins σ (upd H x o) {s with heap:=h',toks:=t'}:=I.un (Un.write mu he k heo) (I.hok.write mu he k heo new)
theorem Inv.Br {sO:List (Addr×Obj)} (I:Inv X pins σ H s) (h:∀p∈sO,s.heap.get? p.1=some p.2/\H p.1=none/\p.1≠X.env.locals/\p.1∉X.fs /\ ∀v,p.2.data ≠ .cell v):Inv X sO σ H s:=
 ⟨I.ok,I.os,I.bare,I.base,I.loc,I.cell,I.free,I.jt,fun p hp=>(List.mem_append.mp hp).elim (fun z=>I.pin p (List.mem_append_left _ z)) (h p),I.hok,I.len⟩
theorem wI {N:List Str} (hN:N.Nodup) {i j:Nat} {x:Str} (a:N[i]? = some x) (b:N[j]? = some x):i=j:=by
 obtain ⟨h1,e1⟩:=List.getElem?_eq_some_iff.mp a;obtain ⟨h2,e2⟩:=List.getElem?_eq_some_iff.mp b;exact (List.getElem_inj hN).mp (e1.trans e2.symm)
theorem rZ {M:Model} {A:Around} {E:Value->Shared->Prop} {i:Nat} {x:Str} {v:V} {u:Value} {Q:Unit->Shared->Prop} (I:Inv X pins σ H s) (hN:X.N.Nodup) (hi:X.N[i]? = some x) (hx:Loc X.env.scope x) (r:RelV v u)
 (h:∀s',Inv X pins (σ.set i (some v)) H s'->(∃a,Heap.SameBut a s.heap s'.heap/\(a=X.env.locals\/X.env.cells.lookup x=some a))->Q () s') (hf:X.fn x=true\/X.env.scope.names.lookup x=some .local:=by first |exact .inl rfl|exact .inr rfl|assumption):wpAny M A (storeName X.env x u) Q E s:=by
 obtain ⟨m,hn,hl⟩:=id I.loc;have hcls:(X.env.scope.kind == .class||(X.env.scope.kind == .module&&X.env.locals != X.env.globals))=false:=by rw [I.ok.kind];rfl
 have abU:i<σ.length:=by rw [I.len];exact (List.getElem?_eq_some_iff.mp hi).1
 have QL:=I.QL
 have tracked:∀{a:Addr} {h':Heap},(∃o,s.heap.get? a=some o/\H a=none)->Heap.SameBut a s.heap h'->lB X.prog X.w H h':=fun {a h'} ha hs b ob e=>by
  obtain ⟨_,_,hfree⟩:=ha;refine (I.hok b ob e).stay (fun c w' hc q=>(hs.2 c ?_).trans q) (fun _ q=>q) fun _ _ q=>q;rintro rfl;rcases hc with rfl|hc
  ·rw [hfree] at e;cases e
  ·rw [hfree] at hc;cases hc
 rcases hx with hk|hk
 ·refine wpAny_storeName_local hk hn (fun h' hn' hs=> ?_) hcls
  obtain ⟨oL,_,_,hoL,_⟩:=id hn;refine h _ ⟨I.ok,I.os,I.bare,⟨fun b o e n hb hx=> ?_,fun b o e n hb hx=> ?_,I.base.free,fun b o e hx=> ?_,I.base.tups,I.base.mU,I.base.pQ⟩,⟨_,hn',fun j y v' e1 e2 e3=> ?_⟩,fun y c e=> ?_,I.free,I.jt,fun p hp=> ?_,tracked ⟨oL,hoL,I.free⟩ hs,by simpa using I.len⟩ ⟨_,hs,.inl rfl⟩
  ·exact (hs.2 b (Nat.ne_of_lt (Nat.lt_of_lt_of_le (Heap.lt_size e) I.ok.above))).trans (I.base.keep b o e n hb hx)
  ·obtain ⟨sl,e1⟩:=I.base.slot b o e n hb hx
   exact ⟨sl,(hs.2 b (Nat.ne_of_lt (Nat.lt_of_lt_of_le (Heap.lt_size e) I.ok.above))).trans e1⟩
  ·obtain ⟨o',e1⟩:=I.base.there b o e hx
   exact ⟨o',(hs.2 b (Nat.ne_of_lt (Nat.lt_of_lt_of_le (Heap.lt_size e) I.ok.above))).trans e1⟩
  ·by_cases hj:j=i
   ·subst hj
    rw [hi] at e1;cases e1;rw [List.getElem?_set_self abU] at e2;cases e2;exact ⟨u,r,.inl ⟨hk,by simp⟩⟩
   ·rw [List.getElem?_set_ne (Ne.symm hj)] at e2
    obtain ⟨u',r',q⟩:=hl j y v' e1 e2 e3;refine ⟨u',r', ?_⟩;rcases q with ⟨k,e⟩|⟨k,c,e,z⟩
    ·refine .inl ⟨k, ?_⟩
     have:y≠x:=fun e=>hj (wI hN e1 (e▸hi));simp [this,e]
    ·exact .inr ⟨k,c,e,z.sameBut hs (QL y c e)⟩
  ·obtain ⟨w',z⟩:=I.cell y c e
   exact ⟨w',z.sameBut hs (QL y c e)⟩
  ·obtain ⟨e,n,ne,nf,d⟩:=I.pin p hp
   exact ⟨(hs.2 p.1 ne).trans e,n,ne,nf,d⟩
 ·have hfn:X.fn x=true:=by
   rcases hf with z|z
   ·exact z
   ·rw [z] at hk;cases hk
  obtain ⟨c,hc⟩:=I.ok.has x (.inl hk);obtain ⟨w',z⟩:=I.cell x c hc;refine wpAny_storeName_cell I.ok.kind hk hc z (fun h' hc' hs=> ?_);obtain ⟨oc,hoc,Zu⟩:=id z;refine h {s with heap:=h'} ⟨I.ok,I.os,I.bare,⟨fun b o e n hb hx=> ?_,fun b o e n hb hx=> ?_,I.base.free,fun b o e hx=> ?_,I.base.tups,I.base.mU,I.base.pQ⟩,⟨m,hn.sameBut hs (Ne.symm (QL x c hc)),fun j y v' e1 e2 e3=> ?_⟩,fun y c' e=> ?_,I.free,I.jt,fun p hp=> ?_,tracked ⟨oc,hoc,I.jt x c hc⟩ hs,by simpa using I.len⟩ ⟨c,hs,.inr hc⟩
  ·exact (hs.2 b (Nat.ne_of_lt (Nat.lt_of_lt_of_le (Heap.lt_size e) (I.ok.cab x c hfn hc)))).trans (I.base.keep b o e n hb hx)
  ·obtain ⟨sl,e1⟩:=I.base.slot b o e n hb hx
   exact ⟨sl,(hs.2 b (Nat.ne_of_lt (Nat.lt_of_lt_of_le (Heap.lt_size e) (I.ok.cab x c hfn hc)))).trans e1⟩
  ·obtain ⟨o',e1⟩:=I.base.there b o e hx
   exact ⟨o',(hs.2 b (Nat.ne_of_lt (Nat.lt_of_lt_of_le (Heap.lt_size e) (I.ok.cab x c hfn hc)))).trans e1⟩
  ·by_cases hj:j=i
   ·subst hj
    rw [hi] at e1;cases e1;rw [List.getElem?_set_self abU] at e2;cases e2;exact ⟨u,r,.inr ⟨.inl hk,c,hc,hc'⟩⟩
   ·rw [List.getElem?_set_ne (Ne.symm hj)] at e2
    obtain ⟨u',r',q⟩:=hl j y v' e1 e2 e3;refine ⟨u',r', ?_⟩;rcases q with q|⟨k,c',e,z'⟩
    ·exact .inl q
    ·refine .inr ⟨k,c',e,z'.sameBut hs ?_⟩
     rintro rfl;exact hj (wI hN e1 (I.ok.inj _ _ _ e hc▸hi))
  ·by_cases hcc:c'=c
   ·subst hcc;exact ⟨_,hc'⟩
   ·obtain ⟨w2,z2⟩:=I.cell y c' e
    exact ⟨w2,z2.sameBut hs hcc⟩
  ·obtain ⟨e,n,ne,nf,d⟩:=I.pin p hp
   refine ⟨(hs.2 p.1 ?_).trans e,n,ne,nf,d⟩;intro q;rw [q,hoc] at e;have q':oc=p.2:=Option.some.inj e;exact d w' (by rw [←q'];exact Zu)
theorem vR {M:Model} {A:Around} {E:Value->Shared->Prop} {i:Nat} {x:Str} {v:V} {u:Value} {Q:Unit->Shared->Prop} (I:Inv X pins σ H s) (hN:X.N.Nodup) (hi:X.N[i]? = some x) (hx:Loc X.env.scope x) (r:RelV v u)
 (h:∀s',Inv X pins (σ.set i (some v)) H s'->Q () s') (hf:X.fn x=true\/X.env.scope.names.lookup x=some .local:=by first |exact .inl rfl|exact .inr rfl|assumption):wpAny M A (storeName X.env x u) Q E s:=
 rZ I hN hi hx r (fun s' I' _=>h s' I') hf
theorem Inv.call' {s':Shared} {ch:List Addr} (I:Inv X pins σ H s) (ho:s'.os=s.os) (u:Un (frs X.stack) ch H H' s.heap s'.heap) (hok:lB X.prog X.w H' s'.heap) (hg:AllBare s'.gens)
 (hch:∀b∈ch,(b∈X.ex\/X.s₀.heap.objs.size<=b)/\b≠X.env.locals/\(∀x c,X.env.cells.lookup x=some c->c≠b) /\ ∀p∈X.pn++pins,p.1≠b):Inv X pins σ H' s':=by
 obtain ⟨h',g',d',t',o'⟩:=s';have e:o'=s.os:=ho;subst e;exact I.call (g':=g') (t':=t') (d':=d') u hok hg hch
end
abbrev XK:=Value->Option Addr->Hp->Prop
abbrev St:=List (Option V)
abbrev VK:=V->Hp->Prop
abbrev TE:=St->Hp->VK->Prop
abbrev TT:=St->Hp->(Bool->Hp->Prop)->Prop
abbrev TA:=St->Hp->(List V->Hp->Prop)->Prop
structure Ends where
 nx:St->Hp->Prop
 rt:VK
 bk:St->Hp->Prop:=fun _ _=>False
 ct:St->Hp->Prop:=fun _ _=>False
abbrev TS:=Ends->St->Hp->Prop
def EP (X:Cx) (pins:List (Addr×Obj)) (σ:St) (Q:VK) (u:Value) (s':Shared):Prop:=∃v H',Inv X pins σ H' s'/\RelV v u/\Q v H'
def TP (X:Cx) (pins:List (Addr×Obj)) (σ:St) (Q:Bool->Hp->Prop) (b:Bool) (s':Shared):Prop:=∃H',Inv X pins σ H' s'/\Q b H'
def AP (X:Cx) (pins:List (Addr×Obj)) (σ:St) (Q:List V->Hp->Prop) (us:List Value) (s':Shared):Prop:=∃vs H',Inv X pins σ H' s'/\Vals vs us/\Q vs H'
def SP (X:Cx) (pins:List (Addr×Obj)) (D:Ends) (f:Flow) (s':Shared):Prop:=
 match f with
 | .next=>∃σ' H',Inv X pins σ' H' s'/\D.nx σ' H'
 | .brk=>∃σ' H',Inv X pins σ' H' s'/\D.bk σ' H'
 | .cont=>∃σ' H',Inv X pins σ' H' s'/\D.ct σ' H'
 | .ret u=>∃v σ' H',Inv X pins σ' H' s'/\RelV v u/\D.rt v H'
def PE (X:Cx) (e:Expr) (t:TE):Prop:=
 ∀(pins:List (Addr×Obj)) (s:Shared) (σ:St) (H:Hp) (Q:VK),Inv X pins σ H s->t σ H Q->wpAny (model X.prog X.w) X.A (eval e X.env) (EP X pins σ Q) X.xe s
def PT (X:Cx) (e:Expr) (t:TT):Prop:=
 ∀(pins:List (Addr×Obj)) (s:Shared) (σ:St) (H:Hp) (Q:Bool->Hp->Prop),Inv X pins σ H s->t σ H Q->wpAny (model X.prog X.w) X.A (isTrue e X.env (eval e X.env)) (TP X pins σ Q) X.xe s
def PW (X:Cx) (e:Expr) (t:TT):Prop:=
 ∀(whole:Sem Value) (pins:List (Addr×Obj)) (s:Shared) (σ:St) (H:Hp) (Q:Bool->Hp->Prop),Inv X pins σ H s->t σ H Q->wpAny (model X.prog X.w) X.A (isTrue e X.env whole) (TP X pins σ Q) X.xe s
theorem PW.pt {X:Cx} {e:Expr} {t:TT} (h:PW X e t):PT X e t:=h _
def PA (X:Cx) (es:List Expr) (t:TA):Prop:=
 ∀(pos:Pos) (pins:List (Addr×Obj)) (s:Shared) (σ:St) (H:Hp) (Q:List V->Hp->Prop),Inv X pins σ H s->t σ H Q->wpAny (model X.prog X.w) X.A (spliced (backTo pos (starEach es X.env))) (AP X pins σ Q) X.xe s
def PS (X:Cx) (st:Stmt) (t:TS):Prop:=
 ∀(pins:List (Addr×Obj)) (s:Shared) (σ:St) (H:Hp) (D:Ends),Inv X pins σ H s->t D σ H->wpAny (model X.prog X.w) X.A (exec st X.env) (SP X pins D) X.xe s
def FT (X:Cx) (st:List Stmt) (t:TS):Prop:=
 ∀(pins:List (Addr×Obj)) (s:Shared) (σ:St) (H:Hp) (D:Ends),Inv X pins σ H s->t D σ H->wpAny (model X.prog X.w) X.A (execs st X.env) (SP X pins D) X.xe s
theorem cC {α:Type} {t:Sem α} {Q Q':α->Shared->Prop} {M:Model} {A:Around} {E:Value->Shared->Prop} {s:Shared} (h:wpAny M A t Q E s) (hQ:∀a s,Q a s->Q' a s):wpAny M A t Q' E s:=wpAny_mono h hQ fun _ _ x=>x
end L2
namespace L2
open PySem PySem.Spec PyProof.Rows
section
variable {X:Cx}
def iK (i:Nat):TE:=fun σ H Q=>∃v,σ[i]? = some (some v)/\Q v H
def tC (v:V):TE:=fun _ H Q=>Q v H
theorem Pj {i:Nat} {x:Str} {pos:Pos} (hN:X.N[i]? = some x) (hv:Vis X.env.scope x) (hd:(x==("__debug__" :Str))=false:=by decide) (hcd:(x==("__classdict__" :Str))=false:=by decide):PE X (.Name x pos) (iK i):=by
 intro pins s σ H Q I h;obtain ⟨v,e,h⟩:=h;obtain ⟨m,hn,hl⟩:=I.loc;obtain ⟨u,r,l⟩:=hl i x v hN e hv;have fin:EP X pins σ Q u s:=⟨v,H,I,r,h⟩;rcases l with ⟨hk,hm⟩|⟨hk,c,hc,hcell⟩
 ·exact wpAny_Name (wpAny_loadName_local I.ok.kind hk hn hm fin) hd
 ·rcases hk with hk|hk
  ·exact wpAny_Name (wpAny_loadName_cell I.ok.kind hk hc hcell fin) hd
  ·exact wpAny_Name (wpAny_loadName_free I.ok.kind hk hc hcell fin hcd) hd
theorem aA {i j pos}:PE X (.Constant (.int i) j pos) (tC (.int i)):=fun _ _ _ H _ I h=>wpAny_Constant_int ⟨.int i,H,I.tok _,⟨_,rfl⟩,h⟩
theorem iU {b j pos}:PE X (.Constant (.bool b) j pos) (tC (.bl b)):=fun _ _ _ H _ I h=>Constant_bool ⟨.bl b,H,I,rfl,h⟩
theorem fV {x j pos}:PE X (.Constant (.str x) j pos) (tC (.str x)):=fun _ _ _ H _ I h=>Calls.Constant_str ⟨.str x,H,I.tok _,⟨_,rfl⟩,h⟩
def Gl (X:Cx) (x:Str):Prop:=X.env.kindOf x=some .globalImplicit
theorem K8 {E:Value->Shared->Prop} {pins:List (Addr×Obj)} {s:Shared} {σ:St} {H:Hp} {x:Str} {u:Value} {pos:Pos} {Q:Value->Shared->Prop} (I:Inv X pins σ H s) (hg:Gl X x) (hm:X.mg x=some u) (h:Q u s)
 (hd:(x==("__debug__" :Str))=false:=by decide):wpAny (model X.prog X.w) X.A (eval (.Name x pos) X.env) Q E s:=
 Calls.Name_function_global I.ok.kind hg (Calls.loadGlobal_global (by rw [I.ok.glob];exact I.mod.glob.keeps I.bk) hm h) hd
theorem lV {E:Value->Shared->Prop} {pins:List (Addr×Obj)} {s:Shared} {σ:St} {H:Hp} {x:Str} {u:Value} {pos:Pos} {Q:Value->Shared->Prop} (I:Inv X pins σ H s) (hg:Gl X x) (hm:X.mg x=none) (hv:bootBuiltins x=some u) (h:Q u s)
 (hn:x ≠ "__name__" :=by decide) (hd:(x==("__debug__" :Str))=false:=by decide):wpAny (model X.prog X.w) X.A (eval (.Name x pos) X.env) Q E s:=by
 obtain ⟨mb,h1,h2⟩:=I.mod.blt;exact Calls.Name_function_global I.ok.kind hg (Calls.loadGlobal_builtin (by rw [I.ok.glob];exact I.mod.glob.keeps I.bk) hm (by rw [I.ok.blt];exact h1.keeps I.bk) ((h2 x hn).trans hv) h) hd
theorem jO {x:Str} {v:V} {u:Value} {pos:Pos} (hg:Gl X x) (hm:X.mg x=none) (hv:bootBuiltins x=some u) (r:RelV v u) (hn:x ≠ "__name__" :=by decide) (hd:(x==("__debug__" :Str))=false:=by decide):PE X (.Name x pos) (tC v):=
 fun _ _ _ H _ I h=>lV I hg hm hv ⟨v,H,I,r,h⟩ hn hd
variable {a b:Expr} {ta tb:TE} {pos:Pos}
def PC (X:Cx) (op:CmpOp) (a b:Expr) (t:TE):Prop:=
 ∀(pins:List (Addr×Obj)) (s:Shared) (σ:St) (H:Hp) (Q:VK),Inv X pins σ H s->t σ H Q ->
  wpAny (model X.prog X.w) X.A (eval a X.env) (fun v s₁=>wpAny (model X.prog X.w) X.A (eval b X.env) (fun u s₂=>wpAny (model X.prog X.w) X.A (compareOp op v u) (EP X pins σ Q) X.xe s₂) X.xe s₁) X.xe s
theorem HJ (b:Expr) {op:CmpOp} (h:op ≠ .In) (h2:op ≠ .NotIn):behindInMarks op b=false:=by
 have e1:(op==CmpOp.In)=false:=by cases op<;>first |rfl|exact absurd rfl h
 have e2:(op==CmpOp.NotIn)=false:=by cases op<;>first |rfl|exact absurd rfl h2
 cases b<;>simp [behindInMarks,e1,e2]
def tB (t:TE):TT:=fun σ H Q=>t σ H fun x H1=>∃c,x = .bl c/\Q c H1
theorem GZ {op:CmpOp} {t:TE} (h:PC X op a b t) (h1:behindInMarks op b=false:=by first |exact HJ _ (by decide) (by decide)|rfl):PT X (.Compare a [op] [b] pos) (tB t):=by
 intro pins s σ H Q I hw;refine wpAny_isTrue_Compare1 (cC (h pins s σ H _ I hw) fun v s1 h1=>cC h1 fun u s2 h2=>cC h2 fun c s3 ⟨x,H1,I1,r1,q1⟩=> ?_) h1;obtain ⟨d,rfl,q⟩:=q1;cases r1;exact wpAny_truthy_bool ⟨H1,I1,q⟩
theorem d7 {e:Expr} {t:TE} (h:PE X e t) (he:∀whole,isTrue e X.env whole=(do let v ←whole;standAt e.pos;holding [v] (truthy v)):=by intro _;rfl):PT X e (tB t):=by
 intro pins s σ H Q I hw;refine isTrue_plain (cC (h pins s σ H _ I hw) fun v s1 ⟨x,H1,I1,r1,q1⟩=> ?_) (he _);obtain ⟨d,rfl,q⟩:=q1;cases r1;exact wpAny_truthy_bool ⟨H1,I1,q⟩
variable {tA U8:TT} {rest:List Expr}
def Wc (t u:TT):TT:=fun σ H Q=>t σ H fun c H1=>if c=true then u σ H1 Q else Q false H1
def tOr (t u:TT):TT:=fun σ H Q=>t σ H fun c H1=>if c=true then Q true H1 else u σ H1 Q
def Wa (t:TT):TT:=fun σ H Q=>t σ H fun c H1=>Q (!c) H1
theorem uF (ha:PT X a tA):PW X (.BoolOp .And [a] pos) tA:=by
 intro wh pins s σ H Q I h;refine isTrue_and (cC (ha pins s σ H Q I h) fun c s1 e=> ?_);cases c with
 | true=>exact isTrue_and_nil e
 | false=>exact e
theorem jL (ha:PT X a tA):PW X (.BoolOp .Or [a] pos) tA:=by
 intro wh pins s σ H Q I h;refine isTrue_or (cC (ha pins s σ H Q I h) fun c s1 e=> ?_);cases c with
 | false=>exact isTrue_or_nil e
 | true=>exact e
theorem zA (ha:PT X a tA) (hb:PW X (.BoolOp .And (b::rest) pos) U8):PW X (.BoolOp .And (a::b::rest) pos) (Wc tA U8):=by
 intro wh pins s σ H Q I h;refine isTrue_and (cC (ha pins s σ H _ I h) fun c s1 ⟨H1,I1,q1⟩=> ?_);cases c with
 | true=>exact hb wh pins s1 σ H1 Q I1 q1
 | false=>exact ⟨H1,I1,q1⟩
theorem lF (ha:PT X a tA) (hb:PW X (.BoolOp .Or (b::rest) pos) U8):PW X (.BoolOp .Or (a::b::rest) pos) (tOr tA U8):=by
 intro wh pins s σ H Q I h;refine isTrue_or (cC (ha pins s σ H _ I h) fun c s1 ⟨H1,I1,q1⟩=> ?_);cases c with
 | true=>exact ⟨H1,I1,q1⟩
 | false=>exact hb wh pins s1 σ H1 Q I1 q1
theorem gM (ha:PT X a tA):PT X (.UnaryOp .Not a pos) (Wa tA):=by
 intro pins s σ H Q I h;exact isTrue_not (ha pins s σ H (fun c H1=>Q (!c) H1) I h)
def RD (ta tb:TE):TE:=fun σ H Q=>ta σ H fun x H1=>∃c,x = .bl c/\if c=true then tb σ H1 Q else Q (.bl false) H1
def Ru (ta tb:TE):TE:=fun σ H Q=>ta σ H fun x H1=>∃c,x = .bl c/\if c=true then Q (.bl true) H1 else tb σ H1 Q
def Rv (ta:TE):TE:=fun σ H Q=>ta σ H fun x H1=>∃c,x = .bl c/\Q (.bl (!c)) H1
theorem lO {op} {t:TE} (h:PE X a t):PE X (.BoolOp op [a] pos) t:=fun pins s σ H Q I hw=>BoolOp_one (h pins s σ H Q I hw)
theorem zK (ha:PE X a ta) (hb:PE X (.BoolOp .And (b::rest) pos) tb):PE X (.BoolOp .And (a::b::rest) pos) (RD ta tb):=by
 intro pins s σ H Q I h;refine BoolOp_and (cC (ha pins s σ H _ I h) fun v s1 ⟨x,H1,I1,r1,q1⟩=> ?_);obtain ⟨c,rfl,q1⟩:=q1;cases r1;refine wpAny_truthy_bool ?_;cases c with
 | true=>exact hb pins s1 σ H1 Q I1 q1
 | false=>exact ⟨.bl false,H1,I1,rfl,q1⟩
theorem Bv (ha:PE X a ta) (hb:PE X (.BoolOp .Or (b::rest) pos) tb):PE X (.BoolOp .Or (a::b::rest) pos) (Ru ta tb):=by
 intro pins s σ H Q I h;refine BoolOp_or (cC (ha pins s σ H _ I h) fun v s1 ⟨x,H1,I1,r1,q1⟩=> ?_);obtain ⟨c,rfl,q1⟩:=q1;cases r1;refine wpAny_truthy_bool ?_;cases c with
 | false=>exact hb pins s1 σ H1 Q I1 q1
 | true=>exact ⟨.bl true,H1,I1,rfl,q1⟩
theorem Hg (ha:PE X a ta):PE X (.UnaryOp .Not a pos) (Rv ta):=by
 intro pins s σ H Q I h;refine UnaryOp_ (cC (ha pins s σ H _ I h) fun v s1 ⟨x,H1,I1,r1,q1⟩=> ?_);obtain ⟨c,rfl,q1⟩:=q1;cases r1;exact not_of (wpAny_truthy_bool ⟨.bl (!c),H1,I1,rfl,q1⟩)
end
end L2
namespace L2
open PySem PySem.Spec PyProof.Rows
def bf (K:PySem.W.Frag) (H:Hp) (a:Addr) (xs:List V):Prop:=
 Rd H a (.lst xs) \/
  ∃(o:Obj) (its:Array Value) (n:Nat),K.lookup a=some o/\o.cls = .type "list" /\ o.dict=none/\o.data = .seq its n/\its.size<=sizeLine/\Vals xs its.toList
def dG (K:PySem.W.Frag) (H:Hp) (a:Addr) (xs:List V):Prop:=
 Rd H a (.tup xs) \/
  ∃(o:Obj) (its:Array Value) (n:Nat),K.lookup a=some o/\o.cls = .type "tuple" /\ o.data = .seq its n/\its.size<=sizeLine/\Vals xs its.toList
def aaP:Value->Option V
 | .none=>some .non
 | .bool b=>some (.bl b)
 | .int i _=>some (.int i)
 | .str x _=>some (.str x)
 | .bytes b _=>some (.FP b)
 | .float b _=>some (.flt b)
 | .ref a=>some (.ref a)
 | .type n=>some (.ty n)
 | _=>none
theorem RelV.abs {x:V} {u:Value} (r:RelV x u):aaP u=some x:=by
 cases x with
 | non=>cases r;rfl
 | bl _=>cases r;rfl
 | int _=>obtain ⟨t,rfl⟩:=r;rfl
 | str _=>obtain ⟨t,rfl⟩:=r;rfl
 | FP _=>obtain ⟨t,rfl⟩:=r;rfl
 | flt _=>obtain ⟨t,rfl⟩:=r;rfl
 | ref _=>cases r;rfl
 | ty _=>cases r;rfl
theorem RelV.inj {x y:V} {u:Value} (r:RelV x u) (q:RelV y u):x=y:=Option.some.inj (r.abs.symm.trans q.abs)
theorem Vals.inj {xs ys:List V} {us:List Value} (h:Vals xs us) (h':Vals ys us):xs=ys:=by
 induction h generalizing ys with
 | nil=>cases h';rfl
 | cons r t ih=>cases h' with
   | cons r' t'=>rw [r.inj r',ih t']
section
variable {X:Cx} {pins:List (Addr×Obj)} {σ:St} {H:Hp} {s:Shared} {a:Addr} {xs ys:List V}
theorem bf.of {K:PySem.W.Frag} (h:H a=some (.lst xs)):bf K H a xs:= .inl (.inl h)
theorem dG.of {K:PySem.W.Frag} (h:H a=some (.tup xs)):dG K H a xs:= .inl (.inl h)
theorem Inv.list (I:Inv X pins σ H s) (h:bf X.K H a xs):∃its:List Value,Vals xs its/\PlainL s.heap a its.toArray/\xs.length<=sizeLine:=by
 rcases h with h|⟨o,its,n,hk,hc,hd,hs,hz,r⟩
 ·obtain ⟨z,its,n,r,e⟩:=h.ok I.hok
  exact ⟨its,r,⟨_,n,e,rfl,rfl,rfl⟩,z⟩
 ·refine ⟨its.toList,r,⟨o,n,I.xg a o hk,hc,hd,by simpa using hs⟩, ?_⟩
  have e:=r.length;simp only [Array.length_toList] at e;omega
theorem Inv.tuple (I:Inv X pins σ H s) (h:dG X.K H a xs):∃its:List Value,Vals xs its/\IsTup s.heap a its.toArray/\xs.length<=sizeLine:=by
 rcases h with h|⟨o,its,n,hk,hc,hs,hz,r⟩
 ·obtain ⟨z,its,r,p⟩:=h.ok I.hok
  exact ⟨its,r,p,z⟩
 ·refine ⟨its.toList,r,⟨o,I.xg a o hk,hc,n,by simpa using hs⟩, ?_⟩
  have e:=r.length;simp only [Array.length_toList] at e;omega
theorem Inv.wW (I:Inv X pins σ H s) (h:bf X.K H a xs) (h':bf X.K H a ys):xs=ys:=by
 obtain ⟨its,r,⟨o,n,e,_,_,d⟩,_⟩:=I.list h;obtain ⟨its',r',⟨o',n',e',_,_,d'⟩,_⟩:=I.list h';rw [e] at e';cases e';rw [d] at d';injection d' with d1 _
 have:its=its':=by simpa using congrArg Array.toList d1
 subst this;exact r.inj r'
theorem Inv.Dp (I:Inv X pins σ H s) (h:dG X.K H a xs) (h':dG X.K H a ys):xs=ys:=by
 obtain ⟨its,r,⟨o,e,_,n,d⟩,_⟩:=I.tuple h;obtain ⟨its',r',⟨o',e',_,n',d'⟩,_⟩:=I.tuple h';rw [e] at e';cases e';rw [d] at d';injection d' with d1 _
 have:its=its':=by simpa using congrArg Array.toList d1
 subst this;exact r.inj r'
end
abbrev Cx.wish (X:Cx) (E:Value->Shared->Prop):Cx:={X with xe:=E}
abbrev Cx.Vg (X:Cx):Cx:=X.wish fun _ _=>False
theorem Cx.Ok.wish {X:Cx} (ok:X.Ok) (E:Value->Shared->Prop):(X.wish E).Ok:=
 ⟨ok.mod,ok.kind,ok.glob,ok.blt,ok.above,ok.inj,ok.has,ok.cab,ok.hd,ok.frames,ok.stk,ok.exf,ok.bs,ok.JM,ok.Ef,ok.Lz,ok.qJ,ok.Rj⟩
theorem Cx.Ok.j6 {X:Cx} {E:Value->Shared->Prop} (ok:(X.wish E).Ok):X.Ok:=
 ⟨ok.mod,ok.kind,ok.glob,ok.blt,ok.above,ok.inj,ok.has,ok.cab,ok.hd,ok.frames,ok.stk,ok.exf,ok.bs,ok.JM,ok.Ef,ok.Lz,ok.qJ,ok.Rj⟩
section
variable {X:Cx} {pins:List (Addr×Obj)} {σ:St} {H:Hp} {s:Shared} {E:Value->Shared->Prop}
theorem Inv.wish (I:Inv X pins σ H s) (E:Value->Shared->Prop):Inv (X.wish E) pins σ H s:=⟨I.ok.wish E,I.os,I.bare,I.base,I.loc,I.cell,I.free,I.jt,I.pin,I.hok,I.len⟩
theorem Inv.j6 (I:Inv (X.wish E) pins σ H s):Inv X pins σ H s:=⟨I.ok.j6,I.os,I.bare,I.base,I.loc,I.cell,I.free,I.jt,I.pin,I.hok,I.len⟩
theorem SP.j6 {D:Ends} {f:Flow} {s':Shared} (h:SP (X.wish E) pins D f s'):SP X pins D f s':=by
 cases f with
 | next=>obtain ⟨σ',H',I,q⟩:=h;exact ⟨σ',H',I.j6,q⟩
 | brk=>obtain ⟨σ',H',I,q⟩:=h;exact ⟨σ',H',I.j6,q⟩
 | cont=>obtain ⟨σ',H',I,q⟩:=h;exact ⟨σ',H',I.j6,q⟩
 | ret u=>obtain ⟨v,σ',H',I,r,q⟩:=h;exact ⟨v,σ',H',I.j6,r,q⟩
theorem FT.Vg {st:List Stmt} {t:TS} (h:FT X.Vg st t):FT X st t:=fun pins s σ H D I hw=>
 wpAny_mono (h pins s σ H D (I.wish _) hw) (fun _ _ q=>q.j6) fun _ _ z=>False.elim z
end
section
variable {X:Cx} {st:Stmt} {rest:List Stmt} {t u:TS} {e:Expr} {te:TE} {pos:Pos}
def Mx:TS:=fun D σ H=>D.nx σ H
def vO (t u:TS):TS:=fun D σ H=>t {D with nx:=u D} σ H
theorem bY:FT X [] Mx:=fun _ _ σ H _ I h=>wpAny_execs_nil ⟨σ,H,I,h⟩
theorem au (h1:PS X st t) (h2:FT X rest u):FT X (st::rest) (vO t u):=by
 intro pins s σ H D I h;refine wpAny_execs_cons (cC (h1 pins s σ H {D with nx:=u D} I h) fun f s1 q=> ?_);cases f with
 | next=>
   obtain ⟨σ',H',I',q⟩:=q;exact h2 pins s1 σ' H' D I' q
 | ret v=>exact q
 | brk=>exact q
 | cont=>exact q
theorem aF (h1:PS X st t):FT X [st] t:=by
 intro pins s σ H D I h;refine wpAny_execs_cons (cC (h1 pins s σ H D I h) fun f s1 q=> ?_);cases f with
 | next=>exact wpAny_execs_nil q
 | ret v=>exact q
 | brk=>exact q
 | cont=>exact q
theorem Inv.quiet {pins:List (Addr×Obj)} {σ:St} {H:Hp} {s:Shared} (I:Inv X pins σ H s):interactive X.env=false:=by simp [interactive,I.ok.kind]
def Mz (te:TE):TS:=fun D σ H=>te σ H fun _ H1=>D.nx σ H1
theorem cY (he:PE X e te) (hs:swapsWith e none pos.line X.env=pure false:=by rfl):PS X (.Expr e pos) (Mz te):=by
 intro pins s σ H D I h;exact wpAny_Expr_any (cC (he pins s σ H _ I h) fun v s1 ⟨x,H1,I1,r1,q1⟩=>⟨σ,H1,I1,q1⟩) I.quiet hs
def JW (te:TE):TS:=fun D σ H=>te σ H D.rt
theorem bA (he:PE X e te):PS X (.Return (some e) pos) (JW te):=by
 intro pins s σ H D I h;exact wpAny_Return_some (cC (he pins s σ H _ I h) fun v s1 ⟨x,H1,I1,r1,q1⟩=>⟨x,σ,H1,I1,r1,q1⟩)
def Rx (c:TT) (t u:TS):TS:=fun D σ H=>c σ H fun b H1=>if b=true then t D σ H1 else u D σ H1
theorem fD {c:Expr} {a b:List Stmt} {tc:TT} (hc:PT X c tc) (ha:FT X a t) (hb:FT X b u):PS X (.If c a b pos) (Rx tc t u):=by
 intro pins s σ H D I h;refine wpAny_If (cC (hc pins s σ H _ I h) fun d s1 ⟨H1,I1,q1⟩=> ?_);cases d with
 | true=>exact ha pins s1 σ H1 D I1 q1
 | false=>exact hb pins s1 σ H1 D I1 q1
def Oc:TS:=fun _ _ _=>False
theorem G5:PS X st Oc:=fun _ _ _ _ _ _ h=>h.elim
end
abbrev TG:=V->St->Hp->(St->Hp->Prop)->Prop
abbrev JN:=List V->St->Hp->(St->Hp->Prop)->Prop
def PG (X:Cx) (target:Expr) (t:TG):Prop:=
 ∀(pins:List (Addr×Obj)) (s:Shared) (σ:St) (H:Hp) (v:V) (u:Value) (Q:St->Hp->Prop),Inv X pins σ H s->RelV v u->t v σ H Q ->
  wpAny (model X.prog X.w) X.A (assign target X.env u) (fun _ s'=>∃σ' H',Inv X pins σ' H' s'/\Q σ' H') X.xe s
def Rk (X:Cx) (ts:List Expr) (t:JN):Prop:=
 ∀(pins:List (Addr×Obj)) (s:Shared) (σ:St) (H:Hp) (vs:List V) (us:List Value) (Q:St->Hp->Prop),Inv X pins σ H s->Vals vs us->t vs σ H Q ->
  wpAny (model X.prog X.w) X.A (assignInOrder ((assignEach ts X.env).map (·.2)) us) (fun _ s'=>∃σ' H',Inv X pins σ' H' s'/\Q σ' H') X.xe s
abbrev QZ:=V->V->V->Hp->(Hp->Prop)->Prop
def Uz (X:Cx) (t:QZ):Prop:=
 ∀(pins:List (Addr×Obj)) (s:Shared) (σ:St) (H:Hp) (o i v:V) (ov iv u:Value) (Q:Hp->Prop),Inv X pins σ H s->RelV o ov->RelV i iv->RelV v u->t o i v H Q ->
  wpAny (model X.prog X.w) X.A (setItem ov iv u) (fun _ s'=>∃H',Inv X pins σ H' s'/\Q H') X.xe s
section
variable {X:Cx} {pos:Pos}
def jZ (i:Nat):TG:=fun v σ H Q=>Q (σ.set i (some v)) H
theorem aO {i:Nat} {x:Str} (hN:X.N.Nodup) (hi:X.N[i]? = some x) (hx:Loc X.env.scope x) (hf:X.fn x=true\/X.env.scope.names.lookup x=some .local:=by first |exact .inl rfl|exact .inr rfl|assumption):PG X (.Name x pos) (jZ i):=by
 intro pins s σ H v u Q I r h;exact wpAny_assign_Name (vR I hN hi hx r (fun s' I'=>⟨_,H,I',h⟩) hf)
def ZG:JN:=fun vs σ H Q=>vs=[]/\Q σ H
def TJ (t:TG) (u:JN):JN:=fun vs σ H Q=>∃v r,vs=v::r/\t v σ H fun σ' H'=>u r σ' H' Q
theorem kW:Rk X [] ZG:=by
 intro pins s σ H vs us Q I r h;obtain ⟨e,h⟩:=h;subst e;cases r;exact assignInOrder_nil ⟨σ,H,I,h⟩
theorem cJ {e:Expr} {es:List Expr} {t:TG} {u:JN} (h1:PG X e t) (h2:Rk X es u)
 (hs:(assignEach (e::es) X.env).map (·.2)=assign e X.env::(assignEach es X.env).map (·.2):=by rfl):Rk X (e::es) (TJ t u):=by
 intro pins s σ H vs us Q I r h;obtain ⟨v,vr,e1,h⟩:=h;subst e1;cases r with
 | cons r rr=>
   rw [hs];refine assignInOrder_cons (cC (h1 pins s σ H _ _ _ I r h) fun _ s1 ⟨σ1,H1,I1,q1⟩=> ?_);exact h2 pins s1 σ1 H1 _ _ Q I1 rr q1
def Tz (K:PySem.W.Frag) (n:Nat) (t:JN):TG:=fun v σ H Q=>∃a xs,v = .ref a/\dG K H a xs/\xs.length=n/\t xs σ H Q
theorem Ph {es:List Expr} {k:Nat} {t:JN} {n:Nat} (hc:X.calm=true) (h:Rk X es t)
 (hn:(assignEach es X.env).length=n:=by rfl) (hst:(assignEach es X.env).findIdx? (·.1)=none:=by rfl):PG X (.Tuple es k pos) (Tz X.K n t):=by
 intro pins s σ H v u Q I r hw;obtain ⟨a,xs,e1,hq,hl,hw⟩:=hw;subst e1;cases r;obtain ⟨its,rv,ht,hz⟩:=I.tuple hq;refine assign_Tuple_tuple (I.ok.hd hc) ht (by simp [hn,←hl,rv.length]) hst fun h' hx=> ?_;have I1:Inv X pins σ H {s with heap:=h'}:=I.kept (t':=s.toks) fun b o e=>hx b o (Nat.ne_of_lt (Heap.lt_size e)) e;exact h pins _ σ H xs _ Q I1 (by simpa using rv) hw
def ZF (to ti:TE) (t:QZ):TG:=fun v σ H Q=>to σ H fun o H1=>ti σ H1 fun i H2=>t o i v H2 fun H3=>Q σ H3
theorem uI {o i:Expr} {to ti:TE} {t:QZ} (ho:PE X o to) (hi:PE X i ti) (hs:Uz X t)
 (ha:∀v,assign (.Subscript o i pos) X.env v=(do
   let ov ←holding [v] (eval o X.env)
   let iv ←holding [v,ov] (eval i X.env)
   standAt pos
   holding [v,ov,iv] (setItem ov iv v)
   release [v,ov,iv] []):=by intro _;rfl):PG X (.Subscript o i pos) (ZF to ti t):=by
 intro pins s σ H v u Q I r h;rw [ha];refine wpAny_bind (wpAny_holding (cC (ho pins s σ H _ I h) fun ov s1 ⟨x,H1,I1,r1,q1⟩=> ?_));refine wpAny_bind (wpAny_holding (cC (hi pins s1 σ H1 _ I1 q1) fun iv s2 ⟨y,H2,I2,r2,q2⟩=> ?_));refine wpAny_bind (wpAny_standAt (wpAny_bind (wpAny_holding (cC (hs pins s2 σ H2 x y v ov iv u _ I2 r1 r2 r q2) fun _ s3 ⟨H3,I3,q3⟩=> ?_))));exact wpAny_release ⟨σ,H3,I3,q3⟩
def Dq (te:TE) (g:TG):TS:=fun D σ H=>te σ H fun x H1=>g x σ H1 D.nx
theorem qt {tg e:Expr} {te:TE} {g:TG} (he:PE X e te) (hg:PG X tg g) (hs:swapsWithSole [tg] e pos.line X.env=pure false:=by rfl) (hw:swappedStores [tg] e X.env=pure none:=by rfl)
 (h1:(assignEach [tg] X.env).map (·.2)=[assign tg X.env]:=by rfl):PS X (.Assign [tg] e pos) (Dq te g):=by
 intro pins s σ H D I h;refine wpAny_Assign_stores (cC (he pins s σ H _ I h) fun v s1 ⟨x,H1,I1,r1,q1⟩=> ?_) hs hw;rw [h1];exact cC (hg pins s1 σ H1 x v _ I1 r1 q1) fun _ s2 q=>q
theorem aW {i:Nat} {x:Str} {e:Expr} {te:TE} {pos':Pos} (hN:X.N.Nodup) (hi:X.N[i]? = some x) (hx:Loc X.env.scope x) (he:PE X e te) (hs:swapsWith e (some (.Name x pos')) pos.line X.env=pure false:=by rfl) (hf:X.fn x=true\/X.env.scope.names.lookup x=some .local:=by first |exact .inl rfl|exact .inr rfl|assumption):
 PS X (.Assign [.Name x pos'] e pos) (Dq te (jZ i)):=by
 intro pins s σ H D I h;refine wpAny_Assign_Name (cC (he pins s σ H _ I h) fun v s1 ⟨y,H1,I1,r1,q1⟩=> ?_) hs;exact vR I1 hN hi hx r1 (fun s2 I2=>⟨_,H1,I2,q1⟩) hf
end
section
variable {X:Cx} {pos:Pos}
end
structure It where
 go:Nat->Hp->Prop
 Mv:Nat->Hp->V->Hp->Prop
 stop:Nat->Hp->Prop
def jW (X:Cx) (pins:List (Addr×Obj)) (H:Hp) (b:Addr):Prop:=
 H b=none/\b≠X.env.locals/\b∉X.fs/\(b∈X.ex\/X.s₀.heap.objs.size<=b)/\(∀x c,X.env.cells.lookup x=some c->c≠b) /\ ∀p∈X.pn++pins,p.1≠b
theorem Inv.qK {X:Cx} {pins:List (Addr×Obj)} {σ:St} {H H':Hp} {s:Shared} {b:Addr} (I:Inv X pins σ H s) (hb:s.heap.objs.size<=b) (hn:H' b=none):jW X pins H' b:=by
 refine ⟨hn,Nat.ne_of_gt (Nat.lt_of_lt_of_le I.lt hb),I.Yl hb,.inr (Nat.le_trans I.sz hb),fun x c e z=> ?_,fun p hp z=> ?_⟩
 ·obtain ⟨v,q⟩:=I.cell x c e
  exact absurd (Nat.lt_of_lt_of_le q.lt (by rw [z];exact hb)) (Nat.lt_irrefl _)
 ·exact absurd (Nat.lt_of_lt_of_le (Heap.lt_size (I.pin p hp).1) (by rw [z];exact hb)) (Nat.lt_irrefl _)
structure Turn (P:Program) (w:World) (K:PySem.W.Frag) (tg:Expr) (J:It) (fp:List Addr) (it:Addr) (tn:Nat->Heap->Prop):Prop where
 mem:it∈fp
 obj:∀i h,tn i h -> ∀b∈fp,∃o,h.get? b=some o /\ ∀v,o.data ≠ .cell v
 keep:∀i h h',tn i h->(∀b∈fp,∀o,h.get? b=some o->h'.get? b=some o)->tn i h'
 item:∀(X:Cx),X.prog=P->X.w=w->X.K=K->X.calm=true -> ∀(i:Nat) (pins:List (Addr×Obj)) (s:Shared) (σ:St) (H:Hp) (E:Value->Shared->Prop),Inv X pins σ H s->(∀b∈fp,jW X pins H b)->tn i s.heap->J.go i H ->
  wpAny (model P w) X.A (pyNext (.ref it)) (fun r s1=>∃u,r=some u /\
   wpAny (model P w) X.A (letOwnedTupleGo tg (.ref it) u) (fun _ s2=>∃x H',Inv X pins σ H' s2/\RelV x u/\J.Mv i H x H'/\tn (i+1) s2.heap /\ ∀b∈fp,H' b=none) E s1) E s
 done:∀(X:Cx),X.prog=P->X.w=w->X.K=K->X.calm=true -> ∀(i:Nat) (pins:List (Addr×Obj)) (s:Shared) (σ:St) (H:Hp) (E:Value->Shared->Prop),Inv X pins σ H s->(∀b∈fp,jW X pins H b)->tn i s.heap->J.stop i H ->
  wpAny (model P w) X.A (pyNext (.ref it)) (fun r s1=>r=none/\Inv X pins σ H s1) E s
 self:∀(A:Around) (i:Nat) (s:Shared) (Q:Value->Shared->Prop) (E:Value->Shared->Prop),tn i s.heap->Q (.ref it) s->wpAny (model P w) A (pyIter (.ref it)) Q E s
abbrev TI:=St->Hp->(It->Hp->Prop)->Prop
def PIE (X:Cx) (pins:List (Addr×Obj)) (σ:St) (tg:Expr) (R:It->Hp->Prop) (itv:Value) (s2:Shared):Prop:=
 ∃(it:Addr) (fp:List Addr) (tn:Nat->Heap->Prop) (J:It) (H':Hp),itv = .ref it/\Inv X pins σ H' s2/\Turn X.prog X.w X.K tg J fp it tn/\tn 0 s2.heap/\(∀b∈fp,jW X pins H' b)/\R J H'
def PI (X:Cx) (tg iter:Expr) (wi:TI):Prop:=
 ∀(pins:List (Addr×Obj)) (s:Shared) (σ:St) (H:Hp) (R:It->Hp->Prop),Inv X pins σ H s->wi σ H R ->
  wpAny (model X.prog X.w) X.A (eval iter X.env) (fun v s1=>wpAny (model X.prog X.w) X.A (pyIter v) (PIE X pins σ tg R) X.xe s1) X.xe s
theorem tG {M:Model} {A:Around} {E:Value->Shared->Prop} {s:Shared} {tg:Expr} {it:Addr} {u:Value} {o:Obj} {n:String} {vs:Array Value} {Q:Unit->Shared->Prop} (ho:s.heap.get? it=some o) (hc:o.cls = .type n) (hd:o.data = .fields vs)
 (hn:["enumerate","zip","dict_itemiterator","dict_reverseitemiterator","odict_iterator","itertools.zip_longest","itertools.pairwise"].contains n=false) (hQ:Q () s):wpAny M A (letOwnedTupleGo tg (.ref it) u) Q E s:=by
 unfold letOwnedTupleGo
 cases tg<;>first
  | exact wpAny_pure hQ
  | (cases u<;>first
      | exact wpAny_pure hQ
      | (refine wpAny_bind (wpAny_load ho ?_)
         rw [hc,hd];show wpAny M A (if (["enumerate","zip","dict_itemiterator","dict_reverseitemiterator","odict_iterator","itertools.zip_longest","itertools.pairwise"].contains n&&vs[0]? == some (rawInt _))=true then _ else _) Q E s;rw [if_neg (by intro h;rw [hn,Bool.false_and] at h;cases h)];exact wpAny_pure hQ))
def N8 (K:PySem.W.Frag) (a:Addr):It:=
 ⟨fun i H=>∃xs x,bf K H a xs/\xs[i]? = some x,fun i H x H'=>H'=H /\ ∀xs,bf K H a xs->xs[i]? = some x,fun i H=>∃xs,bf K H a xs/\xs.length<=i⟩
def V4 (K:PySem.W.Frag) (a:Addr):It:=
 ⟨fun i H=>∃xs x,dG K H a xs/\xs[i]? = some x,fun i H x H'=>H'=H /\ ∀xs,dG K H a xs->xs[i]? = some x,fun i H=>∃xs,dG K H a xs/\xs.length<=i⟩
def Mr (lo:Int) (n:Nat):It:=⟨fun i _=>i<n,fun i H x H'=>H'=H/\x = .int (lo+i),fun i _=>n<=i⟩
theorem Dk {P:Program} {w:World} {K:PySem.W.Frag} {tg:Expr} (a it:Addr):Turn P w K tg (N8 K a) [it] it (fun i h=>h.IsListIter it a i) where
 mem:=by simp
 obj:=fun i h st b hb=>by
  have e:b=it:=by simpa using hb
  subst e;obtain ⟨o,e,c,d⟩:=st;exact ⟨o,e,fun v z=>by rw [d] at z;cases z⟩
 keep:=fun i h h' st k=>st.at fun o e=>k it (by simp) o e
 item:=by
  intro X hP hw hK hc i pins s σ H E I hf st hg;subst hP hw hK;obtain ⟨xs,x,hq,hx⟩:=hg;obtain ⟨its,rv,p,hz⟩:=I.list hq;obtain ⟨u,hu,ru⟩:=rv.get hx;obtain ⟨f0,f1,f2,f3,f4,f5⟩:=hf it (by simp);refine wpAny_pyNext_list_item st p.isList (x:=u) (by simpa using hu) fun h' st' sb=> ?_;have I1:Inv X pins σ H {s with heap:=h'}:=I.turned (t':=s.toks) (fun b o hb e=>(sb.2 b hb).trans e) f0 f1 f3 f4 f5;obtain ⟨o,e,c,d⟩:=id st';exact ⟨u,rfl,tG (s:={s with heap:=h'}) e c d (by decide) ⟨x,H,I1,ru,⟨rfl,fun ys hy=>by rw [I.wW hy hq];exact hx⟩,st',fun b hb=>(hf b hb).1⟩⟩
 done:=by
  intro X hP hw hK hc i pins s σ H E I hf st hg;subst hP hw hK;obtain ⟨xs,hq,hx⟩:=hg;obtain ⟨its,rv,p,hz⟩:=I.list hq;obtain ⟨f0,f1,f2,f3,f4,f5⟩:=hf it (by simp);have hl:=rv.length;exact wpAny_pyNext_list_end (I.ok.hd hc) st p.isList (by simp;omega) fun h' eb=>⟨rfl,I.turned (t':=s.toks) (fun b o hb e=>eb b o hb e) f0 f1 f3 f4 f5⟩
 self:=fun _ _ _ _ _ st h=>wpAny_pyIter_listiter st h
theorem yP {P:Program} {w:World} {K:PySem.W.Frag} {tg:Expr} (a it:Addr):Turn P w K tg (V4 K a) [it] it (fun i h=>h.IsTupleIter it a i) where
 mem:=by simp
 obj:=fun i h st b hb=>by
  have e:b=it:=by simpa using hb
  subst e;obtain ⟨o,e,c,d⟩:=st;exact ⟨o,e,fun v z=>by rw [d] at z;cases z⟩
 keep:=fun i h h' st k=>st.at fun o e=>k it (by simp) o e
 item:=by
  intro X hP hw hK hc i pins s σ H E I hf st hg;subst hP hw hK;obtain ⟨xs,x,hq,hx⟩:=hg;obtain ⟨its,rv,p,hz⟩:=I.tuple hq;obtain ⟨u,hu,ru⟩:=rv.get hx;obtain ⟨f0,f1,f2,f3,f4,f5⟩:=hf it (by simp);refine wpAny_pyNext_tuple_item st (show s.heap.IsTuple a its.toArray from p) (x:=u) (by simpa using hu) fun h' st' sb=> ?_;have I1:Inv X pins σ H {s with heap:=h'}:=I.turned (t':=s.toks) (fun b o hb e=>(sb.2 b hb).trans e) f0 f1 f3 f4 f5;obtain ⟨o,e,c,d⟩:=id st';exact ⟨u,rfl,tG (s:={s with heap:=h'}) e c d (by decide) ⟨x,H,I1,ru,⟨rfl,fun ys hy=>by rw [I.Dp hy hq];exact hx⟩,st',fun b hb=>(hf b hb).1⟩⟩
 done:=by
  intro X hP hw hK hc i pins s σ H E I hf st hg;subst hP hw hK;obtain ⟨xs,hq,hx⟩:=hg;obtain ⟨its,rv,p,hz⟩:=I.tuple hq;obtain ⟨f0,f1,f2,f3,f4,f5⟩:=hf it (by simp);have hl:=rv.length;exact wpAny_pyNext_tuple_end (I.ok.hd hc) st (show s.heap.IsTuple a its.toArray from p) (by simp;omega) fun h' eb=>⟨rfl,I.turned (t':=s.toks) (fun b o hb e=>eb b o hb e) f0 f1 f3 f4 f5⟩
 self:=fun _ _ _ _ _ st h=>wpAny_pyIter_tupleiter st h
theorem yQ {P:Program} {w:World} {K:PySem.W.Frag} {tg:Expr} (it:Addr) (lo:Int) (n:Nat):Turn P w K tg (Mr lo n) [it] it (fun i h=>IsRangeIter h it (lo+(i:Nat)*1) ((n:Int) - (i:Nat)) 1) where
 mem:=by simp
 obj:=fun i h st b hb=>by
  have e:b=it:=by simpa using hb
  subst e
  exact ⟨_,st,fun v z=>by
   have z':Data.fields _=Data.cell v:=z;cases z'⟩
 keep:=fun i h h' st k=>k it (by simp) _ st
 item:=by
  intro X hP hw hK hc i pins s σ H E I hf st hg;subst hP hw hK;obtain ⟨f0,f1,f2,f3,f4,f5⟩:=hf it (by simp);have W:=Walks.range (prog:=X.prog) (w:=X.w) (I.ok.hd hc) it lo 1 n;refine W.item i s _ _ hg st fun v h' tk hv st' kk=> ?_;obtain ⟨t,rfl⟩:=hv;have I1:Inv X pins σ H {s with heap:=h',toks:=tk}:=I.turned (fun b o hb e=>kk b o (by simpa using hb) e) f0 f1 f3 f4 f5;refine ⟨_,rfl,tG (s:={s with heap:=h',toks:=tk}) (n:= "range_iterator") st' rfl rfl (by decide) ⟨.int (lo+i),H,I1,⟨t, ?_⟩,⟨rfl,rfl⟩,st',fun b hb=>(hf b hb).1⟩⟩;rw [Int.mul_one]
 done:=by
  intro X hP hw hK hc i pins s σ H E I hf st hg;subst hP hw hK;obtain ⟨f0,f1,f2,f3,f4,f5⟩:=hf it (by simp);exact wpAny_pyNext_range_end (I.ok.hd hc) st (by have:n<=i:=hg;omega) fun h' eb=>⟨rfl,I.turned (t':=s.toks) (fun b o hb e=>eb b o hb e) f0 f1 f3 f4 f5⟩
 self:=fun _ _ _ _ _ st h=>wpAny_pyIter_rangeiter st h
end L2
namespace L2
open PySem PySem.Spec PyProof.Rows
section
variable {X:Cx} {tg:Expr}
def Np (K:PySem.W.Frag) (tl:TE):TI:=fun σ H R=>tl σ H fun x H1=>∃a,x = .ref a/\(∃xs,bf K H1 a xs)/\R (N8 K a) H1
def Te (K:PySem.W.Frag) (tl:TE):TI:=fun σ H R=>tl σ H fun x H1=>∃a,x = .ref a/\(∃xs,dG K H1 a xs)/\R (V4 K a) H1
theorem Ks {l:Expr} {tl:TE} (hl:PE X l tl):PI X tg l (Np X.K tl):=by
 intro pins s σ H R I h;refine cC (hl pins s σ H _ I h) fun v s1 ⟨x,H1,I1,r1,q1⟩=> ?_;obtain ⟨a,e,⟨xs,hq⟩,q⟩:=q1;subst e;cases r1;obtain ⟨its,rv,p,hz⟩:=I1.list hq;refine wpAny_pyIter_list p.isList ?_;refine ⟨s1.heap.objs.size,[s1.heap.objs.size],_,_,H1,rfl,I1.kept (t':=s1.toks) fun b o e=>Heap.get?_push_of_some _ e,Dk a _,⟨_,Heap.get?_push_size _ rfl,rfl,rfl⟩,fun b hb=> ?_,q⟩;have e:b=s1.heap.objs.size:=by simpa using hb
 subst e;exact I1.qK (Nat.le_refl _) (I1.hok.fresh (Nat.le_refl _))
theorem Pg {l:Expr} {tl:TE} (hl:PE X l tl):PI X tg l (Te X.K tl):=by
 intro pins s σ H R I h;refine cC (hl pins s σ H _ I h) fun v s1 ⟨x,H1,I1,r1,q1⟩=> ?_;obtain ⟨a,e,⟨xs,hq⟩,q⟩:=q1;subst e;cases r1;obtain ⟨its,rv,p,hz⟩:=I1.tuple hq;refine wpAny_pyIter_tuple (show s1.heap.IsTuple a its.toArray from p) ?_;refine ⟨s1.heap.objs.size,[s1.heap.objs.size],_,_,H1,rfl,I1.kept (t':=s1.toks) fun b o e=>Heap.get?_push_of_some _ e,yP a _,⟨_,Heap.get?_push_size _ rfl,rfl,rfl⟩,fun b hb=> ?_,q⟩;have e:b=s1.heap.objs.size:=by simpa using hb
 subst e;exact I1.qK (Nat.le_refl _) (I1.hok.fresh (Nat.le_refl _))
theorem v9 {pins:List (Addr×Obj)} {σ:St} {H:Hp} {s:Shared} {R:It->Hp->Prop} {E:Value->Shared->Prop} {lo hi:Int} {t u v:Tok} {tk:Nat} (I:Inv X pins σ H s) (h1: -(2 ^ 62)<=lo) (h2:lo<2 ^ 62) (h3: -(2 ^ 62)<=hi) (h4:hi<2 ^ 62)
 (q:R (Mr lo (hi - lo).toNat) H):wpAny (model X.prog X.w) X.A (pyIter (.ref s.heap.objs.size)) (PIE X pins σ tg R) E {s with heap:=s.heap.push {cls:= .type "range",data:= .fields #[.int lo t,.int hi u,.int 1 v]},toks:=tk}:=by
 refine wpAny_pyIter_range (IsRange.new ..) (small_one h1 h2 h3 h4) ?_;have I1:Inv X pins σ H {s with heap:=s.heap.push {cls:= .type "range",data:= .fields #[.int lo t,.int hi u,.int 1 v]},toks:=tk}:=I.kept fun b o e=>Heap.get?_push_of_some _ e
 refine ⟨(s.heap.push {cls:= .type "range",data:= .fields #[.int lo t,.int hi u,.int 1 v]}).objs.size,[(s.heap.push {cls:= .type "range",data:= .fields #[.int lo t,.int hi u,.int 1 v]}).objs.size],_,_,H,rfl,
  I1.kept (t':=tk) fun b o e=>Heap.get?_push_of_some _ e,yQ _ lo (hi - lo).toNat, ?_,fun b hb=> ?_,q⟩
 ·have e1:lo+((0:Nat):Int)*1=lo:=by simp
  have e2:(((hi - lo).toNat:Nat):Int) - ((0:Nat):Int)=Builtin.Range.rangeSize lo hi 1:=by rw [rangeSize_one];split<;>omega
  show IsRangeIter _ _ (lo+((0:Nat):Int)*1) ((((hi - lo).toNat:Nat):Int) - ((0:Nat):Int)) 1;rw [e1,e2];exact Heap.get?_push_size _ rfl
 ·have e:b=(s.heap.push {cls:= .type "range",data:= .fields #[.int lo t,.int hi u,.int 1 v]}).objs.size:=by simpa using hb
  subst e;exact I1.qK (Nat.le_refl _) (I1.hok.fresh (Nat.le_refl _))
def Nm (ta:TA):TI:=fun σ H R=>ta σ H fun vs H1=>∃j:Int,vs=[.int j] /\ -(2 ^ 62)<=j/\j<2 ^ 62/\R (Mr 0 j.toNat) H1
def Tg (ta:TA):TI:=fun σ H R=>ta σ H fun vs H1=>∃i j:Int,vs=[.int i,.int j]/\(-(2 ^ 62)<=i/\i<2 ^ 62 /\ -(2 ^ 62)<=j/\j<2 ^ 62)/\R (Mr i (j - i).toNat) H1
theorem eV {a:Expr} {ta:TA} {p pos:Pos} (hg:Gl X "range") (hm:X.mg "range" = none) (ha:PA X [a] ta) (hs:starEach [a] X.env=[(false,eval a X.env)]:=by rfl):PI X tg (.Call (.Name "range" p) [a] [] pos) (Nm ta):=by
 intro pins s σ H R I h;refine Call_ (lV I hg hm boot_range (PyProof.Rows.callWith_type1 (cC (ha pos pins s σ H _ I h) fun us s1 ⟨vs,H1,I1,r1,q1⟩=> ?_) hs rfl));obtain ⟨j,e,q1,q2,q⟩:=q1;subst e;cases r1 with
 | cons r rr=>
   cases rr;obtain ⟨t,rfl⟩:=r;exact call_range_1 (v9 I1 (by omega) (by omega) q1 q2 (by simpa using q))
theorem DR {a b:Expr} {ta:TA} {p pos:Pos} (hg:Gl X "range") (hm:X.mg "range" = none) (ha:PA X [a,b] ta) (hs:starEach [a,b] X.env=[(false,eval a X.env),(false,eval b X.env)]:=by rfl) (hs2:starEach [b] X.env=[(false,eval b X.env)]:=by rfl):
 PI X tg (.Call (.Name "range" p) [a,b] [] pos) (Tg ta):=by
 intro pins s σ H R I h;refine Call_ (lV I hg hm boot_range (PyProof.Rows.callWith_type1 (cC (ha pos pins s σ H _ I h) fun us s1 ⟨vs,H1,I1,r1,q1⟩=> ?_) (by rw [hs,hs2]) (by rw [hs2];rfl)));obtain ⟨i,j,e,⟨q1,q2,q3,q4⟩,q⟩:=q1;subst e;cases r1 with
 | cons r rr=>
   cases rr with
   | cons r' rr=>
     cases rr;obtain ⟨t,rfl⟩:=r;obtain ⟨t',rfl⟩:=r';exact call_range_2 (v9 I1 q1 q2 q3 q4 q)
def Ry (wi:TI) (g:TG) (tb:TS):TS:=fun D σ H=>wi σ H fun J H1=>∃W:Nat->Nat->St->Hp->Prop,(∃m,W 0 m σ H1) /\ ∀i m σ H,W i m σ H ->
 (J.stop i H/\D.nx σ H)\/(J.go i H /\ ∃N:St->Hp->Prop,(∀σ' H',N σ' H' -> ∃m',m'<m/\W (i+1) m' σ' H') /\ ∀x H',J.Mv i H x H'->g x σ H' fun σ2 H2=>tb {D with nx:=N,ct:=N,bk:=D.nx} σ2 H2)
def nH (fp:List Addr) (h:Heap):List (Addr×Obj):=fp.filterMap fun b=>(h.get? b).map fun o=>(b,o)
theorem fX {fp:List Addr} {h:Heap} {b:Addr} {o:Obj} (hb:b∈fp) (e:h.get? b=some o):(b,o)∈nH fp h:=List.mem_filterMap.mpr ⟨b,hb,by rw [e];rfl⟩
theorem Eb {fp:List Addr} {h:Heap} {p:Addr×Obj} (hp:p∈nH fp h):p.1∈fp/\h.get? p.1=some p.2:=by
 obtain ⟨b,hb,e⟩:=List.mem_filterMap.mp hp;cases q:h.get? b with
 | none=>rw [q] at e;cases e
 | some o=>
   rw [q] at e;have e':(b,o)=p:=Option.some.inj e;subst e';exact ⟨hb,q⟩
theorem Inv.pinned {pins:List (Addr×Obj)} {σ:St} {H:Hp} {s:Shared} {fp:List Addr} (I:Inv X pins σ H s) (hf:∀b∈fp,jW X pins H b) (ho:∀b∈fp,∃o,s.heap.get? b=some o /\ ∀v,o.data ≠ .cell v):Inv X (pins++nH fp s.heap) σ H s:=
 I.Br fun p hp=>(List.mem_append.mp hp).elim (fun z=>I.pin p (List.mem_append_right _ z)) fun z=>by
  obtain ⟨hb,e⟩:=Eb z;obtain ⟨f0,f1,f2,_⟩:=hf p.1 hb;obtain ⟨o,e',d⟩:=ho p.1 hb;rw [e] at e';cases e';exact ⟨e,f0,f1,f2,d⟩
theorem Inv.j7 {pins pl:List (Addr×Obj)} {σ:St} {H:Hp} {s:Shared} (I:Inv X (pins++pl) σ H s):Inv X pins σ H s:=I.Br fun p hp=>I.pin p (List.mem_append_right _ (List.mem_append_left _ hp))
theorem dN {iter:Expr} {body:List Stmt} {wi:TI} {g:TG} {tb:TS} {pos:Pos} (hp:PassesOwn (model X.prog X.w) X.A X.env X.xe) (hc:X.calm=true) (hi:PI X tg iter wi) (hg:PG X tg g) (hb:FT X body tb)
 (hs:∀x,foldedSetIterable iter X.env x=pure x:=by intro _;rfl):PS X (.For tg iter body [] pos) (Ry wi g tb):=by
 intro pins s σ H D I h;refine wpAny_For (cC (hi pins s σ H _ I h) fun v s1 h1=>cC h1 fun itv s2 h2=> ?_) hs;obtain ⟨it,fp,tn,J,H2,e,I2,T,st2,f2,W,⟨m0,w0⟩,turn⟩:=h2;subst e;have stat:∀{H':Hp},(∀b∈fp,H' b=none) -> ∀b∈fp,jW X pins H' b:=fun hn b hb=>⟨hn b hb,(f2 b hb).2⟩;refine codeAny_forLoop_any (fun n s'=>∃i σ' H',Inv X pins σ' H' s'/\tn i s'.heap/\(∀b∈fp,H' b=none)/\W i n σ' H') ?_ m0 ⟨0,σ,H2,I2,st2,fun b hb=>(f2 b hb).1,w0⟩;rintro n s3 ⟨i,σ3,H3,I3,st3,Nu,w3⟩;rcases turn i n σ3 H3 w3 with ⟨stop,qn⟩|⟨go,N,hN,step⟩
 ·refine wpAny_passesOwn hp (cC (T.done X rfl rfl rfl hc i pins s3 σ3 H3 X.xe I3 (stat Nu) st3 stop) fun r s4 ⟨hr,I4⟩=> ?_)
  subst hr;exact wpAny_execs_nil ⟨σ3,H3,I4,qn⟩
 ·refine wpAny_passesOwn hp (cC (T.item X rfl rfl rfl hc i pins s3 σ3 H3 X.xe I3 (stat Nu) st3 go) fun r s4 ⟨u,hr,h4⟩=> ?_)
  subst hr;refine wpAny_passesOwn hp (cC h4 fun _ s5 ⟨x,H5,I5,r5,y5,rH,TQ⟩=> ?_);have U3:=I5.pinned (stat TQ) (T.obj _ _ rH);refine wpAny_passesOwn hp (cC (hg _ s5 σ3 H5 x u _ U3 r5 (step x H5 y5)) fun _ s6 ⟨σ6,H6,I6,q6⟩=> ?_);refine wpAny_passesOwn hp (cC (hb _ s6 σ6 H6 _ I6 q6) fun f s7 q7=> ?_)
  have again:∀{σ7:St} {H7:Hp},Inv X (pins++nH fp s5.heap) σ7 H7 s7->N σ7 H7 -> ∃m,m<n /\ ∃i σ' H',Inv X pins σ' H' s7/\tn i s7.heap/\(∀b∈fp,H' b=none)/\W i m σ' H':=fun {σ7 H7} I7 n7=>by
   obtain ⟨m',hm,w7⟩:=hN σ7 H7 n7;refine ⟨m',hm,i+1,σ7,H7,I7.j7,T.keep _ _ _ rH fun b hb o e=>(I7.pin (b,o) (List.mem_append_right _ (List.mem_append_right _ (fX hb e)))).1,fun b hb=> ?_,w7⟩;obtain ⟨o,e,d⟩:=T.obj _ _ rH b hb;exact (I7.pin (b,o) (List.mem_append_right _ (List.mem_append_right _ (fX hb e)))).2.1
  cases f with
  | next=>obtain ⟨σ7,H7,I7,n7⟩:=q7;exact again I7 n7
  | cont=>obtain ⟨σ7,H7,I7,n7⟩:=q7;exact again I7 n7
  | brk=>obtain ⟨σ7,H7,I7,q7⟩:=q7;exact ⟨σ7,H7,I7.j7,q7⟩
  | ret v=>obtain ⟨x7,σ7,H7,I7,r7,q7⟩:=q7;exact ⟨x7,σ7,H7,I7.j7,r7,q7⟩
end
theorem jw {K:PySem.W.Frag} {a:Addr} {xs:List V} {g:TG} {tb:TS} {D:Ends} {σ:St} {H:Hp} (Pv:Nat->St->Hp->Prop) (h0:Pv 0 σ H) (hl:∀i σ H,i<=xs.length->Pv i σ H->bf K H a xs)
 (hs:∀i x σ H,xs[i]? = some x->Pv i σ H->g x σ H fun σ2 H2=>tb {D with nx:=Pv (i+1),ct:=Pv (i+1),bk:=D.nx} σ2 H2) (hd:∀σ H,Pv xs.length σ H->D.nx σ H):
 ∃W:Nat->Nat->St->Hp->Prop,(∃m,W 0 m σ H) /\ ∀i m σ H,W i m σ H ->
  ((N8 K a).stop i H/\D.nx σ H)\/((N8 K a).go i H /\ ∃N:St->Hp->Prop,(∀σ' H',N σ' H' -> ∃m',m'<m/\W (i+1) m' σ' H') /\ ∀x H',(N8 K a).Mv i H x H'->g x σ H' fun σ2 H2=>tb {D with nx:=N,ct:=N,bk:=D.nx} σ2 H2):=by
 refine ⟨fun i m σ H=>m=xs.length - i/\i<=xs.length/\Pv i σ H,⟨xs.length,by simp,Nat.zero_le _,h0⟩, ?_⟩;rintro i m σ H ⟨rfl,hi,p⟩;have q:=hl i σ H hi p
 by_cases hlt:i<xs.length
 ·refine .inr ⟨⟨xs,xs[i],q,by simp [hlt]⟩,Pv (i+1),fun σ' H' p'=>⟨xs.length - (i+1),by omega,rfl,hlt,p'⟩,fun x H' y=> ?_⟩
  obtain ⟨e,y⟩:=y;subst e;exact hs i x σ _ (y xs q) p
 ·have e:i=xs.length:=by omega
  subst e;exact .inl ⟨⟨xs,q,Nat.le_refl _⟩,hd σ H p⟩
theorem ju {lo:Int} {n:Nat} {g:TG} {tb:TS} {D:Ends} {σ:St} {H:Hp} (Pv:Nat->St->Hp->Prop) (h0:Pv 0 σ H)
 (hs:∀i σ H,i<n->Pv i σ H->g (.int (lo+i)) σ H fun σ2 H2=>tb {D with nx:=Pv (i+1),ct:=Pv (i+1),bk:=D.nx} σ2 H2) (hd:∀σ H,Pv n σ H->D.nx σ H):
 ∃W:Nat->Nat->St->Hp->Prop,(∃m,W 0 m σ H) /\ ∀i m σ H,W i m σ H ->
  ((Mr lo n).stop i H/\D.nx σ H)\/((Mr lo n).go i H /\ ∃N:St->Hp->Prop,(∀σ' H',N σ' H' -> ∃m',m'<m/\W (i+1) m' σ' H') /\ ∀x H',(Mr lo n).Mv i H x H'->g x σ H' fun σ2 H2=>tb {D with nx:=N,ct:=N,bk:=D.nx} σ2 H2):=by
 refine ⟨fun i m σ H=>m=n - i/\i<=n/\Pv i σ H,⟨n,by simp,Nat.zero_le _,h0⟩, ?_⟩;rintro i m σ H ⟨rfl,hi,p⟩
 by_cases hlt:i<n
 ·refine .inr ⟨hlt,Pv (i+1),fun σ' H' p'=>⟨n - (i+1),by omega,rfl,hlt,p'⟩,fun x H' y=> ?_⟩
  obtain ⟨e,y⟩:=y;subst e y;exact hs i σ _ hlt p
 ·have e:i=n:=by omega
  subst e;exact .inl ⟨Nat.le_refl _,hd σ H p⟩
end L2
namespace L2
open PySem PySem.Spec PyProof.Rows
abbrev R2:=V->V->Hp->VK->Prop
def o8 (X:Cx) (f:Value->Value->Sem Value) (r:R2):Prop:=
 ∀(pins:List (Addr×Obj)) (s:Shared) (σ:St) (H:Hp) (x y:V) (v u:Value) (Q:VK),Inv X pins σ H s->RelV x v->RelV y u->r x y H Q ->
  wpAny (model X.prog X.w) X.A (f v u) (EP X pins σ Q) X.xe s
def UnR (X:Cx) (f:Value->Sem Value) (r:V->Hp->VK->Prop):Prop:=
 ∀(pins:List (Addr×Obj)) (s:Shared) (σ:St) (H:Hp) (x:V) (v:Value) (Q:VK),Inv X pins σ H s->RelV x v->r x H Q ->
  wpAny (model X.prog X.w) X.A (f v) (EP X pins σ Q) X.xe s
def fO (X:Cx) (f:Value) (r:List V->Hp->VK->Prop):Prop:=
 ∀(pins:List (Addr×Obj)) (s:Shared) (σ:St) (H:Hp) (xs:List V) (us:List Value) (Q:VK),Inv X pins σ H s->Vals xs us->r xs H Q ->
  wpAny (model X.prog X.w) X.A (call f us) (EP X pins σ Q) X.xe s
def uc (r:R2) (ta tb:TE):TE:=fun σ H Q=>ta σ H fun x H1=>tb σ H1 fun y H2=>r x y H2 Q
def tUn (r:V->Hp->VK->Prop) (ta:TE):TE:=fun σ H Q=>ta σ H fun x H1=>r x H1 Q
def rI (C:Int->Int->Prop) (g:Int->Int->V):R2:=fun x y H Q=>∃i j,x = .int i/\y = .int j/\C i j/\Q (g i j) H
def Kd (g:Int->Int->V):R2:=fun x y H Q=>∃i j,x = .int i/\y = .int j/\Q (g i j) H
def rU (g:Int->V):V->Hp->VK->Prop:=fun x H Q=>∃i,x = .int i/\Q (g i) H
section
variable {X:Cx} {a b c:Expr} {ta tb tc:TE} {pos:Pos}
theorem QW (ha:PE X a ta) (hb:PE X b tb) {pins:List (Addr×Obj)} {s:Shared} {σ:St} {H:Hp} {R:V->V->Hp->Prop} (I:Inv X pins σ H s)
 (h:ta σ H fun x H1=>tb σ H1 fun y H2=>R x y H2) {Q:Value->Shared->Prop} {f:Value->Value->Sem Value}
 (hf:∀v u s2 x y H2,Inv X pins σ H2 s2->RelV x v->RelV y u->R x y H2->wpAny (model X.prog X.w) X.A (f v u) Q X.xe s2):
 wpAny (model X.prog X.w) X.A (eval a X.env) (fun v s₁=>wpAny (model X.prog X.w) X.A (eval b X.env) (fun u s₂=>wpAny (model X.prog X.w) X.A (f v u) Q X.xe s₂) X.xe s₁) X.xe s:=by
 refine cC (ha pins s σ H _ I h) fun v s1 ⟨x,H1,I1,r1,q1⟩=> ?_;refine cC (hb pins s1 σ H1 _ I1 q1) fun u s2 ⟨y,H2,I2,r2,q2⟩=> ?_;exact hf v u s2 x y H2 I2 r1 r2 q2
theorem bF {op:Operator} {r:R2} (ho:o8 X (binaryOp op) r) (ha:PE X a ta) (hb:PE X b tb):PE X (.BinOp a op b pos) (uc r ta tb):=by
 intro pins s σ H Q I h;exact wpAny_BinOp (QW ha hb I h fun v u s2 x y H2 I2 rx ry q=>ho pins s2 σ H2 x y v u Q I2 rx ry q)
theorem Nb {op:UnaryOp} {r:V->Hp->VK->Prop} (ho:UnR X (unaryOp op) r) (ha:PE X a ta):PE X (.UnaryOp op a pos) (tUn r ta):=by
 intro pins s σ H Q I h;exact UnaryOp_ (cC (ha pins s σ H _ I h) fun v s1 ⟨x,H1,I1,r1,q1⟩=>ho pins s1 σ H1 x v Q I1 r1 q1)
theorem R8 {f:Value->Value->Sem Value} {C:Int->Int->Prop} {g:Int->Int->Int}
 (rule:∀(i j:Int) (t u:Tok) (s:Shared) (Q:Value->Shared->Prop) (E:Value->Shared->Prop),C i j->Q (.int (g i j) s.toks) {s with toks:=s.toks+1}->wpAny (model X.prog X.w) X.A (f (.int i t) (.int j u)) Q E s):
 o8 X f (rI C fun i j=> .int (g i j)):=by
 intro pins s σ H x y v u Q I rx ry h;obtain ⟨i,j,rfl,rfl,hc,q⟩:=h;obtain ⟨t,rfl⟩:=rx;obtain ⟨t',rfl⟩:=ry;exact rule i j t t' s _ _ hc ⟨.int (g i j),H,I.tok _,⟨_,rfl⟩,q⟩
theorem R7 {f:Value->Value->Sem Value} {g:Int->Int->Int}
 (rule:∀(i j:Int) (t u:Tok) (s:Shared) (Q:Value->Shared->Prop) (E:Value->Shared->Prop),Q (.int (g i j) s.toks) {s with toks:=s.toks+1}->wpAny (model X.prog X.w) X.A (f (.int i t) (.int j u)) Q E s):
 o8 X f (Kd fun i j=> .int (g i j)):=by
 intro pins s σ H x y v u Q I rx ry h;obtain ⟨i,j,rfl,rfl,q⟩:=h;obtain ⟨t,rfl⟩:=rx;obtain ⟨t',rfl⟩:=ry;exact rule i j t t' s _ _ ⟨.int (g i j),H,I.tok _,⟨_,rfl⟩,q⟩
theorem Pu {f:Value->Value->Sem Value} {g:Int->Int->Bool}
 (rule:∀(i j:Int) (t u:Tok) (s:Shared) (Q:Value->Shared->Prop) (E:Value->Shared->Prop),Q (.bool (g i j)) s->wpAny (model X.prog X.w) X.A (f (.int i t) (.int j u)) Q E s):
 o8 X f (Kd fun i j=> .bl (g i j)):=by
 intro pins s σ H x y v u Q I rx ry h;obtain ⟨i,j,rfl,rfl,q⟩:=h;obtain ⟨t,rfl⟩:=rx;obtain ⟨t',rfl⟩:=ry;exact rule i j t t' s _ _ ⟨.bl (g i j),H,I,rfl,q⟩
def U4 (i j:Int):Prop:=0<j/\j<1073741824
def Q9 (i j:Int):Prop:=0<=j/\j<=1000000/\i.natAbs<2 ^ 64
def Q_ (i j:Int):Prop:=(-(2 ^ 64)<i/\i<2 ^ 64)\/(-(2 ^ 64)<j/\j<2 ^ 64)
theorem Q_.ok {i j:Int} (h:Q_ i j):IntMulOk i j:=by
 rcases h with ⟨h1,h2⟩|⟨h1,h2⟩
 ·exact .of_left (intBits_le_64 h1 h2)
 ·exact .of_right (intBits_le_64 h1 h2)
theorem dO:o8 X (binaryOp .Add) (Kd fun i j=> .int (i+j)):=R7 fun _ _ _ _ _ _ _ q=>add_int q
theorem qx:o8 X (binaryOp .Sub) (Kd fun i j=> .int (i - j)):=R7 fun _ _ _ _ _ _ _ q=>sub_int q
theorem uJ:o8 X (binaryOp .Mult) (rI Q_ fun i j=> .int (i*j)):=R8 fun _ _ _ _ _ _ _ hc q=>mul_int q hc.ok
theorem BK:o8 X (binaryOp .FloorDiv) (rI U4 fun i j=> .int (i / j)):=R8 fun i j _ _ _ _ _ hc q=>by
 have h1:(0:Int)<j:=hc.1;have h2:j<1073741824:=hc.2;exact floordiv_int (by omega) (by rw [Int.fdiv_eq_ediv_of_nonneg i (by omega)];exact q) (.inl (PyProof.noPylong_small (by omega)))
theorem je:o8 X (binaryOp .Mod) (rI (fun _ j=>0<j) fun i j=> .int (i % j)):=R8 fun i j _ _ _ _ _ hc q=>by
 have h1:(0:Int)<j:=hc;exact mod_int' (by omega) (by rw [Int.fmod_eq_emod_of_nonneg i (by omega)];exact q)
theorem zN:o8 X (binaryOp .Pow) (rI Q9 fun i j=> .int (i ^ j.toNat)):=R8 fun _ _ _ _ _ _ _ hc q=>pow_int_small hc.1 hc.2.1 hc.2.2 q
theorem unI {f:Value->Sem Value} {g:Int->Int}
 (rule:∀(i:Int) (t:Tok) (s:Shared) (Q:Value->Shared->Prop) (E:Value->Shared->Prop),Q (.int (g i) s.toks) {s with toks:=s.toks+1}->wpAny (model X.prog X.w) X.A (f (.int i t)) Q E s):
 UnR X f (rU fun i=> .int (g i)):=by
 intro pins s σ H x v Q I rx h;obtain ⟨i,rfl,q⟩:=h;obtain ⟨t,rfl⟩:=rx;exact rule i t s _ _ ⟨.int (g i),H,I.tok _,⟨_,rfl⟩,q⟩
theorem Gj:UnR X (unaryOp .USub) (rU fun i=> .int (-i)):=unI fun _ _ _ _ _ q=>neg_int q
end
def RK:V->V->Bool
 | .non,.non=>true | .non,.int _=>true | .int _,.non=>true | .non,.bl _=>true | .bl _,.non=>true | .non,.str _=>true | .str _,.non=>true
 | .int _,.int _=>true | .bl _,.bl _=>true | .str _,.str _=>true | .FP _,.FP _=>true
 | .int _,.str _=>true | .str _,.int _=>true | .bl _,.str _=>true | .str _,.bl _=>true
 | _,_=>false
def rEq:R2:=fun x y H Q=>RK x y=true/\Q (.bl (decide (x=y))) H
def Vc:R2:=fun x y H Q=>RK x y=true/\Q (.bl (!decide (x=y))) H
theorem Cy {i j:Int}:decide (V.int i=V.int j)=(i==j):=by
 rw [Bool.eq_iff_iff];simp
theorem Jc {i j:Bool}:decide (V.bl i=V.bl j)=(i==j):=by
 rw [Bool.eq_iff_iff];simp
theorem Cw {i j:Str}:decide (V.str i=V.str j)=(i==j):=by
 rw [Bool.eq_iff_iff];simp
theorem Cz {i j:Array UInt8}:decide (V.FP i=V.FP j)=(i.toList==j.toList):=by
 rw [Bool.eq_iff_iff];cases i;cases j;simp
section
variable {X:Cx} {a b c:Expr} {ta tb tc:TE} {pos:Pos}
theorem bH {pins:List (Addr×Obj)} {σ:St} {H:Hp} {s:Shared} {Q:VK} {k k':Bool} (I:Inv X pins σ H s) (q:Q (.bl k) H) (e:k=k'):EP X pins σ Q (.bool k') s:=by
 subst e;exact ⟨.bl k,H,I,rfl,q⟩
theorem lH:o8 X (compareOp .Eq) rEq:=by
 intro pins s σ H x y v u Q I rx ry h;obtain ⟨hs,q⟩:=h;cases x with
 | non=>
   cases rx;cases y with
   | non=>cases ry;exact PySem.EqNone.eq_none_none (bH I q (by simp))
   | bl j=>cases ry;exact PySem.EqNone.eq_none_bool (bH I q (by simp))
   | int j=>obtain ⟨t',rfl⟩:=ry;exact PySem.EqNone.eq_none_int (bH I q (by simp))
   | str j=>obtain ⟨t',rfl⟩:=ry;exact PySem.EqNone.eq_none_str (bH I q (by simp))
   | _=>exact absurd (show false=true from hs) Bool.false_ne_true
 | bl i=>
   cases rx;cases y with
   | non=>cases ry;exact PySem.EqNone.eq_bool_none (bH I q (by simp))
   | bl j=>cases ry;exact eq_bool (bH I q Jc)
   | str j=>obtain ⟨t',rfl⟩:=ry;exact PySem.EqMixed.eq_bool_str (bH I q (by simp))
   | _=>exact absurd (show false=true from hs) Bool.false_ne_true
 | int i=>
   obtain ⟨t,rfl⟩:=rx;cases y with
   | non=>cases ry;exact PySem.EqNone.eq_int_none (bH I q (by simp))
   | int j=>obtain ⟨t',rfl⟩:=ry;exact eq_int (bH I q Cy)
   | str j=>obtain ⟨t',rfl⟩:=ry;exact PySem.EqMixed.eq_int_str (bH I q (by simp))
   | _=>exact absurd (show false=true from hs) Bool.false_ne_true
 | str i=>
   obtain ⟨t,rfl⟩:=rx;cases y with
   | non=>cases ry;exact PySem.EqNone.eq_str_none (bH I q (by simp))
   | bl j=>cases ry;exact PySem.EqMixed.eq_str_bool (bH I q (by simp))
   | int j=>obtain ⟨t',rfl⟩:=ry;exact PySem.EqMixed.eq_str_int (bH I q (by simp))
   | str j=>obtain ⟨t',rfl⟩:=ry;exact eq_str (bH I q Cw)
   | _=>exact absurd (show false=true from hs) Bool.false_ne_true
 | FP i=>
   obtain ⟨t,rfl⟩:=rx;cases y with
   | FP j=>obtain ⟨t',rfl⟩:=ry;exact PySem.W.eq_bytes (bH I q Cz)
   | _=>exact absurd (show false=true from hs) Bool.false_ne_true
 | _=>cases y<;>exact absurd (show false=true from hs) Bool.false_ne_true
theorem lG:o8 X (compareOp .NotEq) Vc:=by
 intro pins s σ H x y v u Q I rx ry h;obtain ⟨hs,q⟩:=h;cases x with
 | non=>
   cases rx;cases y with
   | non=>cases ry;exact PySem.EqNone.ne_none_none (bH I q (by simp))
   | bl j=>cases ry;exact PySem.EqNone.ne_none_bool (bH I q (by simp))
   | int j=>obtain ⟨t',rfl⟩:=ry;exact PySem.EqNone.ne_none_int (bH I q (by simp))
   | str j=>obtain ⟨t',rfl⟩:=ry;exact PySem.EqNone.ne_none_str (bH I q (by simp))
   | _=>exact absurd (show false=true from hs) Bool.false_ne_true
 | bl i=>
   cases rx;cases y with
   | non=>cases ry;exact PySem.EqNone.ne_bool_none (bH I q (by simp))
   | bl j=>cases ry;exact ne_bool (bH I q (congrArg not Jc))
   | str j=>obtain ⟨t',rfl⟩:=ry;exact PySem.EqMixed.ne_bool_str (bH I q (by simp))
   | _=>exact absurd (show false=true from hs) Bool.false_ne_true
 | int i=>
   obtain ⟨t,rfl⟩:=rx;cases y with
   | non=>cases ry;exact PySem.EqNone.ne_int_none (bH I q (by simp))
   | int j=>obtain ⟨t',rfl⟩:=ry;exact ne_int (bH I q (congrArg not Cy))
   | str j=>obtain ⟨t',rfl⟩:=ry;exact PySem.EqMixed.ne_int_str (bH I q (by simp))
   | _=>exact absurd (show false=true from hs) Bool.false_ne_true
 | str i=>
   obtain ⟨t,rfl⟩:=rx;cases y with
   | non=>cases ry;exact PySem.EqNone.ne_str_none (bH I q (by simp))
   | bl j=>cases ry;exact PySem.EqMixed.ne_str_bool (bH I q (by simp))
   | int j=>obtain ⟨t',rfl⟩:=ry;exact PySem.EqMixed.ne_str_int (bH I q (by simp))
   | str j=>obtain ⟨t',rfl⟩:=ry;exact ne_str (bH I q (congrArg not Cw))
   | _=>exact absurd (show false=true from hs) Bool.false_ne_true
 | FP i=>
   obtain ⟨t,rfl⟩:=rx;cases y with
   | FP j=>obtain ⟨t',rfl⟩:=ry;exact PySem.W.ne_bytes (bH I q (congrArg not Cz))
   | _=>exact absurd (show false=true from hs) Bool.false_ne_true
 | _=>cases y<;>exact absurd (show false=true from hs) Bool.false_ne_true
theorem Hj:o8 X (compareOp .Lt) (Kd fun i j=> .bl (decide (i<j))):=Pu fun _ _ _ _ _ _ _ q=>lt_int q
theorem Ng:o8 X (compareOp .Gt) (Kd fun i j=> .bl (decide (j<i))):=Pu fun _ _ _ _ _ _ _ q=>gt_int q
theorem BJ:o8 X (compareOp .GtE) (Kd fun i j=> .bl (decide (j<=i))):=Pu fun _ _ _ _ _ _ _ q=>ge_int q
def isObj:HO->Bool
 | .lst _=>true
 | .ins _ _ _=>true
 | _=>false
theorem bG (b:Expr) {op:CmpOp} (h:op ≠ .In:=by decide) (h2:op ≠ .NotIn:=by decide):behindInMarks op b=false:=by
 have e1:(op==CmpOp.In)=false:=by cases op<;>first |rfl|exact absurd rfl h
 have e2:(op==CmpOp.NotIn)=false:=by cases op<;>first |rfl|exact absurd rfl h2
 cases b<;>simp [behindInMarks,e1,e2]
theorem eG {op:CmpOp} {r:R2} (ho:o8 X (compareOp op) r) (ha:PE X a ta) (hb:PE X b tb) (hm:behindInMarks op b=false):PE X (.Compare a [op] [b] pos) (uc r ta tb):=by
 intro pins s σ H Q I h;exact wpAny_Compare1 (QW ha hb I h fun v u s2 x y H2 I2 rx ry q=>ho pins s2 σ H2 x y v u Q I2 rx ry q) hm
def Gk (t:TE):TT:=fun σ H Q=>t σ H fun x H'=>∃k,x = .bl k/\Q k H'
theorem bU {op:CmpOp} {r:R2} (ho:o8 X (compareOp op) r) (ha:PE X a ta) (hb:PE X b tb) (hm:behindInMarks op b=false):PT X (.Compare a [op] [b] pos) (Gk (uc r ta tb)):=by
 intro pins s σ H Q I h
 refine wpAny_isTrue_Compare1 (cC (ha pins s σ H _ I h) fun v s1 ⟨x,H1,I1,r1,q1⟩=>cC (hb pins s1 σ H1 _ I1 q1) fun u s2 ⟨y,H2,I2,r2,q2⟩=>
  cC (ho pins s2 σ H2 x y v u _ I2 r1 r2 q2) fun c s3 ⟨z,H3,I3,r3,k,e,q3⟩=> ?_) hm
 subst e;cases r3;exact wpAny_truthy_bool ⟨H3,I3,q3⟩
theorem uO:(sizeLine:Nat)<2 ^ 63:=by rw [sizeLine_eq];decide
theorem vals1 {x:V} {us:List Value} (r:Vals [x] us):∃u,us=[u]/\RelV x u:=by
 cases r with
 | cons r1 r2=>cases r2;exact ⟨_,rfl,r1⟩
theorem vals2 {x y:V} {us:List Value} (r:Vals [x,y] us):∃u w',us=[u,w']/\RelV x u/\RelV y w':=by
 cases r with
 | cons r1 r2=>
   cases r2 with
   | cons r3 r4=>cases r4;exact ⟨_,_,rfl,r1,r3⟩
theorem xX:fO X (.builtin "abs") (fun xs H Q=>∃i,xs=[.int i]/\Q (.int (if i<0 then -i else i)) H):=by
 intro pins s σ H xs us Q I r h;obtain ⟨i,rfl,q⟩:=h;obtain ⟨u,rfl,t,rfl⟩:=vals1 r;exact call_abs_int fun u tk=>⟨.int (if i<0 then -i else i),H,I.tok _,⟨_,rfl⟩,q⟩
theorem Fj (hc:X.calm=true):fO X (.builtin "max") (fun xs H Q=>∃i j,xs=[.int i,.int j]/\Q (.int (if j>i then j else i)) H):=by
 intro pins s σ H xs us Q I r h;obtain ⟨i,j,rfl,q⟩:=h;obtain ⟨u,w',rfl,⟨t,rfl⟩,⟨t',rfl⟩⟩:=vals2 r;refine max_two_ints (I.ok.hd hc) fun h' tk k=>⟨_,H,I.kept k, ?_,q⟩
 by_cases hj:j>i
 ·rw [if_pos hj,if_pos hj];exact ⟨_,rfl⟩
 ·rw [if_neg hj,if_neg hj];exact ⟨_,rfl⟩
theorem Fi (hc:X.calm=true):fO X (.builtin "min") (fun xs H Q=>∃i j,xs=[.int i,.int j]/\Q (.int (if j<i then j else i)) H):=by
 intro pins s σ H xs us Q I r h;obtain ⟨i,j,rfl,q⟩:=h;obtain ⟨u,w',rfl,⟨t,rfl⟩,⟨t',rfl⟩⟩:=vals2 r;refine min_two_ints (I.ok.hd hc) fun h' tk k=>⟨_,H,I.kept k, ?_,q⟩
 by_cases hj:j<i
 ·rw [if_pos hj,if_pos hj];exact ⟨_,rfl⟩
 ·rw [if_neg hj,if_neg hj];exact ⟨_,rfl⟩
theorem tO:fO X (.type "int") (fun xs H Q=>(∃i,xs=[.int i]/\Q (.int i) H) \/ ∃k,xs=[.bl k]/\Q (.int (if k then 1 else 0)) H):=by
 intro pins s σ H xs us Q I r h;rcases h with ⟨i,rfl,q⟩|⟨k,rfl,q⟩
 ·obtain ⟨u,rfl,t,rfl⟩:=vals1 r
  exact call_int_int ⟨.int i,H,I,⟨_,rfl⟩,q⟩
 ·obtain ⟨u,rfl,r1⟩:=vals1 r
  cases r1;exact call_int_bool ⟨.int (if k then 1 else 0),H,I.tok _,⟨_,rfl⟩,q⟩
end
end L2
namespace L2
open PySem PySem.Spec PyProof.Rows
structure Q5 (h:Heap) (x dx C:Addr) (mA:Str->Option Value):Prop where
 obj:h.get? x=some (PySem.W.instObj C dx)
 ns:h.Ns1 dx mA
 ne:dx≠x
theorem Ek {h:Heap} {dx:Addr} {mA:Str->Option Value} (n:h.Ns1 dx mA):∃od,h.get? dx=some od /\ ∀name,PySem.W.lookIn name od=some (mA name):=by
 obtain ⟨o,es,ep,ho,hd,hk,_,hm⟩:=n;refine ⟨o,ho,fun name=> ?_⟩;have e:=hm name;unfold nsFind findBy at e;rw [←Array.find?_toList] at e;unfold PySem.W.lookIn;rw [hd];dsimp only;split
 ·rename_i y q
  rw [q] at e;exact congrArg some e
 ·rename_i q
  rw [q] at e
  have a:es.toList.any (·.refKey)=false:=by
   rw [List.any_eq_false];intro y hy;obtain ⟨z,t,hkey⟩:=hk y (Array.mem_toList_iff.mp hy);simp [DictEntry.refKey,hkey]
  have a':¬es.toList.any (·.refKey)=true:=by rw [a];exact Bool.false_ne_true
  rw [if_neg a'];exact congrArg some e
theorem Q5.look {h:Heap} {x dx C:Addr} {mA:Str->Option Value} (I:Q5 h x dx C mA):∃od,PySem.W.InstAt h x (PySem.W.instObj C dx) C (some od) /\ ∀name,PySem.W.lookIn name od=some (mA name):=
 let ⟨od,ho,hl⟩:=Ek I.ns
 ⟨od,⟨I.obj,rfl,rfl,ho⟩,hl⟩
section
variable {prog:Program} {w:World} {A:Around} {E:Value->Shared->Prop} {s:Shared} {K:PySem.W.Frag} {x dx C f:Addr} {mA:Str->Option Value} {name:Str} {v:Value}
end
theorem n_.some_of {v:V} {o:Option Value} (r:n_ (some v) o):∃u,o=some u/\RelV v u:=by
 cases o with
 | none=>exact (show False from r).elim
 | some u=>exact ⟨u,rfl,r⟩
section
variable {P:Program} {w:World} {H H':Hp} {h h':Heap} {a C dx:Addr} {fs fs':List (Str×V)}
theorem Li (hok:lB P w H h) (e:H a=some (.ins C dx fs)):∃mA,Q5 h a dx C mA/\(∀f,n_ (fs.lookup f) (mA f))/\PySem.Within mA (fs.map (·.1))/\fs.length<=1000/\H dx=some (.own a):=by
 obtain ⟨d,z,ne,ob,mA,n,r,q⟩:=(show bJ P w H h a (.ins C dx fs) from hok a _ e);exact ⟨mA,⟨ob,n,ne⟩,r,q,z,d⟩
end
structure Cls (K:PySem.W.Frag) (C:Addr):Prop where
 pg:PySem.W.plainGet K C Str.empty=true
 hd:PySem.W.hasDictIn K C=true
 po:PySem.W.plainOver K C=true
 sa:PySem.W.findIn K (.ref C) "__setattr__" = some (some (.builtin "object.__setattr__"))
theorem Cls.get {K:PySem.W.Frag} {C:Addr} (c:Cls K C) (f:Str):PySem.W.plainGet K C f=true:=c.pg
section
variable {X:Cx} {pins:List (Addr×Obj)} {σ:St} {H:Hp} {s:Shared} {a C dx:Addr} {fs:List (Str×V)} {f:Str} {v:V} {A:Around} {E:Value->Shared->Prop}
end
section
variable {X:Cx} {o e value:Expr} {f:Str} {pos pos' tpos:Pos} {ta tv:TE}
end
section
variable {X:Cx} {pins:List (Addr×Obj)} {σ:St} {H:Hp} {s:Shared} {A:Around} {E:Value->Shared->Prop} {Q:Value->Shared->Prop} {c:Value} {b:Bool}
inductive m5 (K:PySem.W.Frag) (H:Hp):V->Value->Prop where
 | non:m5 K H .non (.type "NoneType")
 | bl (x:Bool):m5 K H (.bl x) (.type "bool")
 | int (i:Int):m5 K H (.int i) (.type "int")
 | str (x:Str):m5 K H (.str x) (.type "str")
 | flt (x:UInt64):m5 K H (.flt x) (.type "float")
 | lst {a:Addr} {xs:List V} (e:H a=some (.lst xs)):m5 K H (.ref a) (.type "list")
 | gK {a:Addr} {o:Obj} {xs:List V} (e:H a=some (.gK o (.lst xs))):m5 K H (.ref a) (.type "list")
 | tup {a:Addr} {xs:List V} (e:H a=some (.tup xs)):m5 K H (.ref a) (.type "tuple")
 | dK {a:Addr} {kvs:List (Key×V)} (e:H a=some (.dK kvs)):m5 K H (.ref a) (.type "dict")
 | dT {a:Addr} {kvs:List (List Key×V)} (e:H a=some (.dT kvs)):m5 K H (.ref a) (.type "dict")
 | ins {a C dx:Addr} {fs:List (Str×V)} (e:H a=some (.ins C dx fs)) (cl:Cls K C) (ha:PySem.W.findIn K (.ref C) "__class__" = some (some (.builtin "object.__class__")))
    (hn:PySem.W.specialIn K (.builtin "object.__class__") "__get__" = some (some (.builtin "getset_descriptor.__get__"))) (htk:PySem.W.takesIn K (.builtin "object.__class__")=some true)
    (hm:PySem.W.mroIn K C (.type "object")=some true):m5 K H (.ref a) (.ref C)
theorem Eo {x:V} {u t:Value} (I:Inv X pins σ H s) (rx:RelV x u) (ty:m5 X.K H x t) (e:PySem.W.kitOne X.K t c=some b) (h:∀tk,Q (.bool b) {s with toks:=tk}):
 wpAny (model X.prog X.w) A (call (.builtin "isinstance") [u,c]) Q E s:=by
 cases ty with
 | non=>cases (show u=Value.none from rx);exact PySem.W.kia_one PySem.W.kitx_none I.xg True.intro e (fun z=>nomatch z) h
 | bl y=>cases (show u=Value.bool y from rx);exact PySem.W.kia_one PySem.W.kitx_bool I.xg True.intro e (fun z=>nomatch z) h
 | int i=>obtain ⟨t,q⟩:=(show ∃t,u=Value.int i t from rx);cases q;exact PySem.W.kia_one PySem.W.kitx_int I.xg True.intro e (fun z=>nomatch z) h
 | str y=>obtain ⟨t,q⟩:=(show ∃t,u=Value.str y t from rx);cases q;exact PySem.W.kia_one PySem.W.kitx_str I.xg True.intro e (fun z=>nomatch z) h
 | flt y=>obtain ⟨t,q⟩:=(show ∃t,u=Value.float y t from rx);cases q;exact PySem.W.kia_one PySem.W.kitx_float I.xg True.intro e (fun z=>nomatch z) h
 | @lst a xs ea=>
   cases (show u=Value.ref a from rx);obtain ⟨_,_,n,_,h1⟩:=(show bJ X.prog X.w H s.heap a (.lst xs) from I.hok a _ ea);exact PySem.W.kia_one PySem.W.kitx_list I.xg ⟨_,h1,rfl⟩ e (fun z=>nomatch z) h
 | @gK a ob xs ea=>
   cases (show u=Value.ref a from rx);obtain ⟨_,_,_,n,_,h1⟩:=(show bJ X.prog X.w H s.heap a (.gK ob (.lst xs)) from I.hok a _ ea);exact PySem.W.kia_one PySem.W.kitx_list I.xg ⟨_,h1,rfl⟩ e (fun z=>nomatch z) h
 | @tup a xs ea=>
   cases (show u=Value.ref a from rx);obtain ⟨_,_,_,p⟩:=(show bJ X.prog X.w H s.heap a (.tup xs) from I.hok a _ ea);obtain ⟨o,h1,h2,_⟩:=p;exact PySem.W.kia_one PySem.W.kitx_tuple I.xg ⟨o,h1,h2⟩ e (fun z=>nomatch z) h
 | @dK a kvs ea=>
   cases (show u=Value.ref a from rx);obtain ⟨_,_,vs,_,p⟩:=(show bJ X.prog X.w H s.heap a (.dK kvs) from I.hok a _ ea);obtain ⟨o,es,ep,h1,h2,_⟩:=p;exact PySem.W.kia_one PySem.W.kitx_dict I.xg ⟨o,h1,h2.1⟩ e (fun z=>nomatch z) h
 | @dT a kvs ea=>
   cases (show u=Value.ref a from rx);obtain ⟨_,_,xs,_,o,es,ep,h1,h2,_⟩:=(show bJ X.prog X.w H s.heap a (.dT kvs) from I.hok a _ ea);exact PySem.W.kia_one PySem.W.kitx_dict I.xg ⟨o,h1,h2.1⟩ e (fun z=>nomatch z) h
 | @ins a C dx fs ea cl ha hn htk hm=>
   cases (show u=Value.ref a from rx);obtain ⟨mA,O,_⟩:=Li I.hok ea;obtain ⟨od,J,_⟩:=O.look;exact PySem.W.kia_one (PySem.W.kitx_own (cl.get _) cl.hd ha hn htk hm) I.xg J e (fun z=>nomatch z) h
end
end L2
namespace L2
open PySem PySem.Spec PyProof.Rows
structure jg (k:Nat) (A:Around):Prop where
 hd:A.handled=none
 dp:A.depth+3*k+5<recursionLimit
 un:A.units+16*k+200<cLine
theorem jg.mono {j k:Nat} {A:Around} (r:jg k A) (h:j<=k):jg j A:=⟨r.hd,by have:=r.dp;omega,by have:=r.un;omega⟩
theorem jg.deeper {k:Nat} {A:Around} (r:jg (k+1) A) (env:Env):jg k (A.deeper env):=
 ⟨r.hd,by have:=r.dp;show A.depth+1+3*k+5<_;omega,by have:=r.un;show A.units+3+16*k+200<_;omega⟩
theorem jg.depth {k:Nat} {A:Around} (r:jg k A):A.depth<recursionLimit:=by have:=r.dp;omega
theorem jg.units {k:Nat} {A:Around} (r:jg k A):A.units+64<cLine:=by have:=r.un;omega
def ud:TA:=fun _ H Q=>Q [] H
def jm (ta:TE) (tr:TA):TA:=fun σ H Q=>ta σ H fun x H1=>tr σ H1 fun xs H2=>Q (x::xs) H2
section
variable {X:Cx} {e:Expr} {es:List Expr} {te:TE} {t:TA} {pos:Pos}
theorem ao:PA X [] ud:=fun _ _ _ _ H Q I h=>Calls.spliced_nil ⟨[],H,I,.nil,h⟩
theorem aj (ha:PE X e te) (hr:PA X es t) (hs:starEach (e::es) X.env=(false,eval e X.env)::starEach es X.env:=by rfl):PA X (e::es) (jm te t):=by
 intro pos pins s σ H Q I h;rw [hs];show wpAny _ _ (spliced ((false,eval e X.env)::backTo pos (starEach es X.env))) _ _ s;refine Calls.spliced_cons (cC (ha pins s σ H _ I h) fun u s1 ⟨x,H1,I1,r1,q1⟩=> ?_);exact cC (hr pos pins s1 σ H1 _ I1 q1) fun us s2 ⟨xs,H2,I2,r2,q2⟩=>⟨x::xs,H2,I2,.cons r1 r2,q2⟩
def Rr (t:TA):TE:=fun σ H Q=>t σ H fun xs H1=>xs.length<=sizeLine /\ ∀p,H1 p=none->Q (.ref p) (upd H1 p (.tup xs))
def Rw (t:TA):TE:=fun σ H Q=>t σ H fun xs H1=>xs.length<=sizeLine /\ ∀p,H1 p=none->Q (.ref p) (upd H1 p (.lst xs))
theorem lN {x1} (h:PA X es t):PE X (.Tuple es x1 pos) (Rr t):=by
 intro pins s σ H Q I hq;refine wpAny_Tuple_spliced (cC (h pos pins s σ H _ I hq) fun us s1 ⟨xs,H1,I1,r,z,q⟩=>⟨by rw [←r.length];exact z, ?_⟩);have hf:H1 s1.heap.objs.size=none:=I1.hok.fresh (Nat.le_refl _);refine ⟨.ref s1.heap.objs.size,upd H1 s1.heap.objs.size (.tup xs),I1.laid (t':=s1.toks) (fun b u e=>Heap.get?_push_of_some _ e) (Nat.le_refl _) ?_,rfl,q _ hf⟩;exact ⟨z,us,r,⟨_,Heap.get?_push_size _ rfl,rfl,_,rfl⟩⟩
theorem eN (h:PA X es t):PE X (.List es pos) (Rw t):=by
 intro pins s σ H Q I hq;refine wpAny_List_spliced (cC (h pos pins s σ H _ I hq) fun us s1 ⟨xs,H1,I1,r,z,q⟩=>⟨by rw [←r.length];exact z, ?_⟩);have hf:H1 s1.heap.objs.size=none:=I1.hok.fresh (Nat.le_refl _);refine ⟨.ref s1.heap.objs.size,upd H1 s1.heap.objs.size (.lst xs),I1.laid (t':=s1.toks) (fun b u e=>Heap.get?_push_of_some _ e) (Nat.le_refl _) ?_,rfl,q _ hf⟩;exact ⟨z,us,0,r,Heap.get?_push_size _ rfl⟩
end
abbrev Sp:=List V->Hp->VK->XK->Prop
abbrev JF:=List Env->Hp->Shared->XK->Value->Shared->Prop
structure Mt (P:Program) (w:World) (K:PySem.W.Frag) (mg:Str->Option Value) (base:Heap) (A:Around) (outer:List Env) (s:Shared) (H:Hp):Prop where
 frames:A.frames=some outer
 mod:Mod K mg base
 bs:∀b o,base.get? b=some o->s.heap.get? b=some o/\H b=none
 JM:base.objs.size<=s.heap.objs.size
 qJ:s.heap.FunFrames base outer
 Rj:∀b∈frs outer,H b=none
 hok:lB P w H s.heap
 bare:AllBare s.gens
def CE (outer:List Env) (P:Program) (w:World) (H:Hp) (s:Shared) (Q:VK) (u:Value) (s':Shared):Prop:=
 ∃v H',s'.os=s.os/\AllBare s'.gens/\Un (frs outer) [] H H' s.heap s'.heap/\lB P w H' s'.heap/\RelV v u/\Q v H'
def CR (CX:JF) (outer:List Env) (P:Program) (w:World) (H:Hp) (s:Shared) (Q:VK) (E:XK) (r:Result) (s':Shared):Prop:=
 match r with
 | .ok (.ret u)=>CE outer P w H s Q u s'
 | .ok _=>False
 | .error e=>CX outer H s E e s'
structure dR (P:Program) (w:World) (K:PySem.W.Frag) (mg:Str->Option Value) (base:Heap) (CX:JF) (k:Nat) (f:Addr) (fd:FuncData) (ps:List Str) (sp:Sp):Prop where
 len:∀vs H Q E,sp vs H Q E->vs.length=ps.length
 run:∀(A:Around) (outer:List Env) (s:Shared) (H:Hp) (args:Args) (us:List Value) (vs:List V) (Q:VK) (E:XK),jg k A->Mt P w K mg base A outer s H->BindsTo s fd args (ps.zip us)->Vals vs us->sp vs H Q E ->
  codeAny (model P w) A (.call (.ref f) args) (CR CX outer P w H s Q E) s
section
variable {X:Cx} {pins:List (Addr×Obj)} {σ:St} {H:Hp} {s s':Shared}
theorem Inv.env0 (I:Inv X pins σ H s):Mt X.prog X.w X.K X.mg X.base X.A X.stack s H:=
 ⟨I.ok.frames,I.ok.mod,I.bs,Nat.le_trans I.ok.JM I.sz,I.stack,I.ug,I.hok,I.bare⟩
theorem Inv.after {Q:VK} {u:Value} (I:Inv X pins σ H s) (h:CE X.stack X.prog X.w H s Q u s'):EP X pins σ Q u s':=by
 obtain ⟨v,H',os,bare,un,hok,r,q⟩:=h;obtain ⟨hh,g,d,t,os'⟩:=s';obtain rfl:os'=s.os:=os;exact ⟨v,H',I.call (h':=hh) (g':=g) (d':=d) (t':=t) (ch:=[]) un hok bare (fun b z=>absurd z (by simp)),r,q⟩
end
def vQ (sp:Sp) (Nz:List V) (E:XK) (t:TA):TE:=fun σ H Q=>t σ H fun vs H1=>sp (vs++Nz) H1 Q E
def Binds (K:PySem.W.Frag) (fd:FuncData) (ps:List Str) (ds:List Value):Prop:=
 ∀(s:Shared) (us:List Value),K.In s.heap->(us++ds).length=ps.length->BindsTo s fd ⟨us,[]⟩ (ps.zip (us++ds))
theorem Binds.all {K:PySem.W.Frag} {fd:FuncData} {ps:List Str} (h:∀us:List Value,us.length=ps.length->bindArgs fd ⟨us,[]⟩=pure (ps.zip us)):Binds K fd ps []:=fun s us _ hl=>by
 rw [List.append_nil] at hl ⊢;exact .of_eq (h us hl)
def Passes (CX:JF) (X:Cx) (E:XK):Prop:=∀(pins:List (Addr×Obj)) (σ:St) (H:Hp) (s:Shared) (e:Value) (s':Shared),Inv X pins σ H s->CX X.stack H s E e s'->X.xe e s'
section
variable {X:Cx} {CX:JF} {k:Nat} {f C:Addr} {fd:FuncData} {ps:List Str} {sp:Sp} {Nz:List V} {ds:List Value} {E:XK} {x m:Str} {p pos apos:Pos} {e o:Expr} {es:List Expr} {ta:TE} {t:TA}
theorem OJ {pins:List (Addr×Obj)} {σ:St} {H:Hp} {s:Shared} {Q:VK} {us:List Value} {vs:List V} (F:dR X.prog X.w X.K X.mg X.base CX k f fd ps sp) (hr:jg k X.A) (hb:Binds X.K fd ps ds) (hd:Vals Nz ds) (hx:Passes CX X E)
 (I:Inv X pins σ H s) (r:Vals vs us) (h:sp (vs++Nz) H Q E):wpAny (model X.prog X.w) X.A (call (.ref f) us) (EP X pins σ Q) X.xe s:=by
 have r2:Vals (vs++Nz) (us++ds):=r.append hd;have hl:(us++ds).length=ps.length:=by rw [←r2.length];exact F.len _ _ _ _ h
 refine wpAny_call (codeAny_mono (F.run X.A X.stack s H ⟨us,[]⟩ (us++ds) (vs++Nz) Q E hr I.env0 (hb s us I.xg hl) r2 h) fun r s' hq=> ?_);cases r with
 | error e=>exact hx pins σ H s e s' I hq
 | ok fl=>
   cases fl with
   | ret u=>exact I.after hq
   | next=>exact False.elim hq
   | brk=>exact False.elim hq
   | cont=>exact False.elim hq
theorem Kv (F:dR X.prog X.w X.K X.mg X.base CX k f fd ps sp) (hr:jg k X.A) (hg:Gl X x) (hm:X.mg x=some (.ref f)) (hk:PySem.W.keepIn X.K (.ref f)=true) (hb:Binds X.K fd ps ds) (hd:Vals Nz ds) (hx:Passes CX X E)
 (ha:PA X (e::es) t) (hdb:(x==("__debug__" :Str))=false:=by decide) (he:starEach (e::es) X.env=(false,eval e X.env)::starEach es X.env:=by rfl) (hpl:(backTo pos (starEach es X.env)).any (·.1)=false:=by rfl):
 PE X (.Call (.Name x p) (e::es) [] pos) (vQ sp Nz E t):=by
 intro pins s σ H Q I h;refine wpAny_Call_Name_kw (K8 I hg hm ?_ hdb);refine PySem.W.callWith_K (h₀:=X.base) I.ok.mod.YW hk (cC (ha pos pins s σ H _ I h) fun us s1 ⟨vs,H1,I1,r,q⟩=>⟨I1.xg, ?_⟩) he hpl;exact OJ F hr hb hd hx I1 r q
end
section
variable {X:Cx} {CX:JF} {k:Nat} {f C:Addr} {fd:FuncData} {ps ks:List Str} {sp:Sp} {E:XK} {x m:Str} {p pos apos kpos:Pos} {e o:Expr} {es:List Expr} {kws:List Keyword} {te ta:TE} {t tk:TA} {nm:Option Str}
variable {g:List Value->List Value->List Value} {gV:List V->List V->List V}
end
structure bx (N P:List Str) (sc:Scope):Prop where
 kind:sc.kind = .function
 co:sc.isCoroutine=false
 gen:sc.isGenerator=false
 nd:N.Nodup
 pre:N.take P.length=P
 par:∀x∈P,sc.names.lookup x=some .local\/sc.names.lookup x=some .cell
 PB:∀y∈sc.names,y.2 ≠ .free
theorem tR {kindOf:Str->Option NameKind} {x:Str}:∀{binds:List (Str×Value)} {m:Str->Option Value},(∀v,(x,v)∉binds)->bindL kindOf binds m x=m x
 | [],_,_=>rfl
 | (n,v)::r,m,h=>by
   unfold bindL;rw [tR fun w hw=>h w (List.mem_cons_of_mem _ hw)];split
   ·have:x≠n:=by rintro rfl;exact h v List.mem_cons_self
    simp [this]
   ·rfl
theorem tV {kindOf:Str->Option NameKind} {x:Str}:∀{binds:List (Str×Value)} {m:Str->Option Value},(∀v,(x,v)∉binds)->bindC kindOf binds m x=m x
 | [],_,_=>rfl
 | (n,v)::r,m,h=>by
   unfold bindC;rw [tV fun w hw=>h w (List.mem_cons_of_mem _ hw)];split
   ·rfl
   ·have:x≠n:=by rintro rfl;exact h v List.mem_cons_self
    simp [this]
theorem tU {kindOf:Str->Option NameKind} {x:Str} {v:Value}:∀{P:List Str} {vs:List Value} {i:Nat} {m:Str->Option Value},P.Nodup->P[i]? = some x->vs[i]? = some v->kindOf x=some .local ->
 bindL kindOf (P.zip vs) m x=some v
 | [],_,_,_,_,h,_,_=>by simp at h
 | _::_,[],_,_,_,_,h,_=>by simp at h
 | p::P,w::vs,0,m,nd,h1,h2,hk=>by
   simp at h1 h2;subst h1;subst h2;show bindL kindOf ((p,w)::P.zip vs) m p=_;unfold bindL;rw [tR fun v hv=>(List.nodup_cons.mp nd).1 (List.of_mem_zip hv).1,if_pos hk];simp
 | p::P,w::vs,i+1,m,nd,h1,h2,hk=>by
   show bindL kindOf ((p,w)::P.zip vs) m x=_;unfold bindL;exact tU (i:=i) (List.nodup_cons.mp nd).2 (by simpa using h1) (by simpa using h2) hk
theorem tW {kindOf:Str->Option NameKind} {x:Str} {v:Value}:∀{P:List Str} {vs:List Value} {i:Nat} {m:Str->Option Value},P.Nodup->P[i]? = some x->vs[i]? = some v->kindOf x≠some .local ->
 bindC kindOf (P.zip vs) m x=some v
 | [],_,_,_,_,h,_,_=>by simp at h
 | _::_,[],_,_,_,_,h,_=>by simp at h
 | p::P,w::vs,0,m,nd,h1,h2,hk=>by
   simp at h1 h2;subst h1;subst h2;show bindC kindOf ((p,w)::P.zip vs) m p=_;unfold bindC;rw [tV fun v hv=>(List.nodup_cons.mp nd).1 (List.of_mem_zip hv).1,if_neg hk];simp
 | p::P,w::vs,i+1,m,nd,h1,h2,hk=>by
   show bindC kindOf ((p,w)::P.zip vs) m x=_;unfold bindC;exact tW (i:=i) (List.nodup_cons.mp nd).2 (by simpa using h1) (by simpa using h2) hk
def start (N:List Str) (vs:List V):St:=vs.map some++List.replicate (N.length - vs.length) none
def Ez (CX:JF) (P:Program) (w:World) (K:PySem.W.Frag) (mg:Str->Option Value) (base:Heap) (N:List Str) (qual:Str) (scope:Scope) (f:Addr) (cd:Value) (A:Around) (outer:List Env) (s:Shared) (H:Hp) (E:XK):Cx where
 prog:=P
 w:=w
 K:=K
 mg:=mg
 base:=base
 A:=A.deeper (envOfC qual scope s.heap.objs.size f cd)
 N:=N
 s₀:=s
 H₀:=H
 env:=envOfC qual scope s.heap.objs.size f cd
 outer:=outer
 stack:=envOfC qual scope s.heap.objs.size f cd::outer
 ex:=[]
 calm:=true
 fn:=fun _=>true
 pn:=[]
 xe:=fun e s'=>wpAny (model P w) (A.deeper (envOfC qual scope s.heap.objs.size f cd)) (leaving (envOfC qual scope s.heap.objs.size f cd) e) (fun _ s''=>CX outer H s E e s'') (fun e' s''=>CX outer H s E e' s'') s'
theorem xV {sc:Scope} {n:Nat} {x:Str} (h:sc.names.lookup x=some .cell):∃c,(cellsFrom n sc.names []).lookup x=some c:=by
 have q:=PySem.W.cellsFrom_some sc.names n [] (.inl h);exact Option.isSome_iff_exists.mp q
theorem Ep {CX:JF} {P:Program} {w:World} {K:PySem.W.Frag} {mg:Str->Option Value} {base:Heap} {N ps:List Str} {qual:Str} {scope:Scope} {f:Addr} {cd:Value} {A:Around} {outer:List Env} {s s1:Shared} {H:Hp} {E:XK} {us:List Value} {vs:List V}
 (S:bx N ps scope) (hd:A.handled=none) (e0:Mt P w K mg base A outer s H) (hl:vs.length=ps.length) (r:Vals vs us)
 (x:InCallC s s.heap.objs.size (bindL (envOfC qual scope s.heap.objs.size f cd).kindOf (ps.zip us) fun _=>none) (cellsFrom (s.heap.objs.size+1) scope.names []) (bindC (envOfC qual scope s.heap.objs.size f cd).kindOf (ps.zip us) fun _=>none) s1):
 Inv (Ez CX P w K mg base N qual scope f cd A outer s H E) [] (start N vs) H s1:=by
 have hpl:ps.length<=N.length:=by have:=congrArg List.length S.pre;rw [List.length_take] at this;omega
 obtain ⟨h1,tk,rfl,hk⟩:=x.done;have Sq:∀b:Addr,b∉(Ez CX P w K mg base N qual scope f cd A outer s H E).ex:=fun b z=>absurd (show b∈([]:List Addr) from z) (by simp)
 refine ⟨⟨e0.mod,S.kind,rfl,rfl,Nat.le_refl _,fun y z c h1 h2=> ?_,fun y hy=> ?_,fun y c _ h=> ?_,fun _=>hd,Around.frames_deeper e0.frames,.inr ⟨rfl,rfl⟩,fun b z=>absurd z (Sq b),e0.bs,e0.JM,fun b _ _=>Sq b,fun b z=>absurd z (Sq b),e0.qJ,e0.Rj⟩,
  rfl,e0.bare,Un.kept hk,⟨_,x.toInCall.ns,fun i y v h1 h2 h3=> ?_⟩,fun y c h=>⟨_,x.cell y c h⟩,e0.hok.fresh (Nat.le_refl _),fun y c h=> ?_,fun p hp=>absurd (show p∈([]:List (Addr×Obj)) from hp) (by simp),e0.hok.kept hk, ?_⟩
 ·exact name_of_addr x.apart (PySem.mem_of_lookup h1) (PySem.mem_of_lookup h2)
 ·have hy:scope.names.lookup y=some .cell\/scope.names.lookup y=some .free:=hy
  rcases hy with hy|hy
  ·exact xV hy
  ·exact absurd rfl (S.PB _ (PySem.mem_of_lookup hy))
 ·exact Nat.le_of_lt (x.above y c (PySem.mem_of_lookup h))
 ·have hi:i<vs.length:=by
   unfold start at h2
   by_cases hi:i<vs.length
   ·exact hi
   ·rw [List.getElem?_append_right (by simpa using hi)] at h2
    rw [List.getElem?_replicate] at h2;split at h2<;>cases h2
  have ha:vs[i]? = some v:=by
   unfold start at h2;rw [List.getElem?_append_left (by simpa using hi),List.getElem?_map] at h2;cases e:vs[i]? with
   | none=>rw [e] at h2;cases h2
   | some a=>rw [e] at h2;cases h2;rfl
  obtain ⟨u,hu,rv⟩:=r.get ha
  have hp:ps[i]? = some y:=by
   rw [←S.pre,List.getElem?_take_of_lt (by omega)];exact h1
  have ndP:ps.Nodup:=by rw [←S.pre];exact S.nd.sublist (List.take_sublist _ _)
  refine ⟨u,rv, ?_⟩;rcases S.par y (List.mem_of_getElem? hp) with k|k
  ·exact .inl ⟨k,tU ndP hp hu k⟩
  ·obtain ⟨c,e⟩:=xV (n:=s.heap.objs.size+1) k
   refine .inr ⟨.inl k,c,e, ?_⟩;have q:=x.cell y c e;rw [tW ndP hp hu (by show scope.names.lookup y≠_;rw [k];decide)] at q;exact q
 ·exact e0.hok.fresh (Nat.le_of_lt (x.above y c (PySem.mem_of_lookup h)))
 ·unfold start
  show _=N.length;rw [List.length_append,List.length_map,List.length_replicate];omega
theorem TV {CX:JF} {P:Program} {w:World} {K:PySem.W.Frag} {mg:Str->Option Value} {base:Heap} {k:Nat} {f:Addr} {name qual:Str} {params:Arguments} {body:List Stmt} {scope:Scope} {dV kV doc pm cdv ct oc:Value} {an od:Option Addr}
 {osl:Array (Option Value)} {N ps:List Str} {sp:Sp} (lk:K.lookup f=some ⟨oc,od,.func (PySem.W.fnOf name qual params body scope dV kV doc pm an cdv ct),osl⟩) (hcd:PySem.W.codeIn K cdv qual=true) (S:bx N ps scope)
 (len:∀vs H Q E,sp vs H Q E->vs.length=ps.length)
 (hbody:∀(A:Around) (outer:List Env) (s:Shared) (H:Hp) (vs:List V) (Q:VK) (E:XK),jg k (A.deeper (envOfC qual scope s.heap.objs.size f cdv))->sp vs H Q E ->
   ∃t,FT (Ez CX P w K mg base N qual scope f cdv A outer s H E) body t/\t {nx:=fun _ H'=>Q .non H',rt:=Q} (start N vs) H):
 dR P w K mg base CX (k+1) f (PySem.W.fnOf name qual params body scope dV kV doc pm an cdv ct) ps sp:=by
 refine ⟨len,fun A outer s H args us vs Q E hr e0 hb r hsp=> ?_⟩;have hl:=len _ _ _ _ hsp;have KX:K.In s.heap:=e0.mod.YW.keeps fun b o e=>(e0.bs b o e).1;have lim:s.heap.NoLimit:=e0.mod.nolimit.keeps fun b o e=>(e0.bs b o e).1
 have hkind:∀y∈ps.zip us,scope.names.lookup y.1=some .local\/(scope.names.lookup y.1=some .cell/\((cellsFrom (s.heap.objs.size+1) scope.names []).lookup y.1).isSome=true):=fun ⟨n,v⟩ hy=>by
  rcases S.par n (List.of_mem_zip hy).1 with q|q
  ·exact .inl q
  ·exact .inr ⟨q,PySem.W.cellsFrom_some _ _ _ (.inl q)⟩
 refine codeAny_call_function hr.depth (KX _ _ lk) rfl S.co S.gen rfl (PySem.W.codeRec_of KX hcd) (hb _ _ _ _ ?_);refine wpAny_newFunctionEnv_cells S.kind hkind fun env he s1 x=> ?_;subst he;refine ⟨lim.keeps x.toInCall.keep,codeAny_func ?_⟩;obtain ⟨t,ht,hq⟩:=hbody A outer s H vs Q E (hr.deeper _) hsp;have I:Inv (Ez CX P w K mg base N qual scope f cdv A outer s H E) [] (start N vs) H s1:=Ep S hr.hd e0 hl r x;refine wpAny_mono (ht [] s1 (start N vs) H _ I hq) (fun fl s' hs=> ?_) fun e s' hs=>hs
 have fin:∀{σ':St} {H':Hp} {v:V} {u:Value},Inv (Ez CX P w K mg base N qual scope f cdv A outer s H E) [] σ' H' s'->RelV v u->Q v H'->CE outer P w H s Q u s':=
  fun {σ' H' v u} J rv q=>⟨v,H',J.os,J.bare,J.base,J.hok,rv,q⟩
 cases fl with
 | ret u=>
   obtain ⟨v,σ',H',J,rv,q⟩:=hs;exact fin J rv q
 | next=>
   obtain ⟨σ',H',J,q⟩:=hs;exact fin (v:=V.non) (u:=Value.none) J rfl q
 | brk=>
   obtain ⟨_,_,_,q⟩:=hs;exact False.elim q
 | cont=>
   obtain ⟨_,_,_,q⟩:=hs;exact False.elim q
end L2
namespace L2
open PySem PySem.Spec PyProof.Rows
section
variable {X:Cx} {x:Str} {p pos:Pos} {e:Expr} {es:List Expr} {t:TA} {id T:String} {r:List V->Hp->VK->Prop}
def Wb (r:List V->Hp->VK->Prop) (t:TA):TE:=fun σ H Q=>t σ H fun vs H1=>r vs H1 Q
theorem aU (hc:fO X (.builtin id) r) (hg:Gl X x) (hm:X.mg x=none) (hv:bootBuiltins x=some (.builtin id)) (ha:PA X (e::es) t) (hn:x ≠ "__name__" :=by decide) (hdb:(x==("__debug__" :Str))=false:=by decide)
 (he:starEach (e::es) X.env=(false,eval e X.env)::starEach es X.env:=by rfl) (hpl:(backTo pos (starEach es X.env)).any (·.1)=false:=by rfl):PE X (.Call (.Name x p) (e::es) [] pos) (Wb r t):=by
 intro pins s σ H Q I h;refine wpAny_Call_Name_kw (lV I hg hm hv ?_ hn hdb);exact PyProof.Rows.callWith_builtin1 (cC (ha pos pins s σ H _ I h) fun us s1 ⟨vs,H1,I1,r1,q1⟩=>hc pins s1 σ H1 vs us Q I1 r1 q1) he hpl
theorem fW (hc:fO X (.type T) r) (hg:Gl X x) (hm:X.mg x=none) (hv:bootBuiltins x=some (.type T)) (ha:PA X (e::es) t) (hn:x ≠ "__name__" :=by decide) (hdb:(x==("__debug__" :Str))=false:=by decide)
 (he:starEach (e::es) X.env=(false,eval e X.env)::starEach es X.env:=by rfl) (hpl:(backTo pos (starEach es X.env)).any (·.1)=false:=by rfl):PE X (.Call (.Name x p) (e::es) [] pos) (Wb r t):=by
 intro pins s σ H Q I h;refine wpAny_Call_Name_kw (lV I hg hm hv ?_ hn hdb);exact PyProof.Rows.callWith_type1 (cC (ha pos pins s σ H _ I h) fun us s1 ⟨vs,H1,I1,r1,q1⟩=>hc pins s1 σ H1 vs us Q I1 r1 q1) he hpl
end
end L2
namespace HT
open PySem PyProof.Rows
section
open PySem.SeqAt
open PySem.AutoSeq1 (wpAny_loadPart')
open PySem.MeetsSeq PySem.MeetsSeq2 PySem.MeetsSeq3
end
section
variable {prog:Program} {w:World} {A:Around} {E:Value->Shared->Prop} {s:Shared}
theorem Mf {t b:Addr} {vs ws:List Value} {Q:Value->Shared->Prop} (ht:IsTup s.heap t vs.toArray) (hb:IsTup s.heap b ws.toArray) (hv:vs≠[])
 (h1:ws=[]->Q (.ref t) s) (h2:ws≠[]->Q (.ref s.heap.objs.size) {s with heap:=s.heap.push {cls:= .type "tuple",data:= .seq (vs++ws).toArray}})
 (hsz:vs.length+ws.length<=sizeLine):wpAny (model prog w) A (binaryOp .Add (.ref t) (.ref b)) Q E s:=by
 obtain ⟨⟨cls,dd,data,sl⟩,ho,hc,n,hd⟩:=id ht;obtain ⟨⟨cls2,dd2,data2,sl2⟩,ho2,hc2,n2,hd2⟩:=id hb;simp only at hc hd hc2 hd2;subst hc hd hc2 hd2;have e:vs.toArray++ws.toArray=(vs++ws).toArray:=by simp
 by_cases hw:ws=[]
 ·exact concat_meets ⟨_,ho,rfl⟩ ⟨_,ho2,rfl⟩ noFill_tuple_add seq_tuple_add PySem.F.slot_tuple_add PySem.F.entry_tuple_add (PySem.F.args_tuple_add_2 _ _)
   (tuple_addW1 t b vs.toArray ws.toArray n n2 dd dd2 sl sl2 (by simpa using hv) (by simp [hw])) ⟨ho,ho2,h1 hw⟩
 ·refine concat_meets ⟨_,ho,rfl⟩ ⟨_,ho2,rfl⟩ noFill_tuple_add seq_tuple_add PySem.F.slot_tuple_add PySem.F.entry_tuple_add (PySem.F.args_tuple_add_2 _ _)
   (tuple_addW2 t b vs.toArray ws.toArray n n2 dd dd2 sl sl2 (by simpa using hv) (by simpa using hw) (by rw [List.size_toArray,List.size_toArray];exact hsz)) ⟨ho,ho2, ?_⟩
  rw [e];exact h2 hw
def fM (n d:Nat):Option Int->Nat
 | none=>d
 | some v=>if v<0 then (v+(n:Int)).toNat else min v.toNat n
theorem qe (n d:Nat):fM n d none=d:=rfl
theorem uD (n d k:Nat):fM n d (some (k:Int))=min k n:=by
 show (if (k:Int)<0 then ((k:Int)+(n:Int)).toNat else min (k:Int).toNat n)=min k n;rw [if_neg (by omega),Int.toNat_natCast]
theorem Oz (n d:Nat) (hd:d<=n) (o:Option Int):fM n d o<=n:=by
 cases o with
 | none=>exact hd
 | some v=>
   show (if v<0 then (v+(n:Int)).toNat else min v.toNat n)<=n
   by_cases hv:v<0
   ·rw [if_pos hv];omega
   ·rw [if_neg hv];exact Nat.min_le_right _ _
theorem CN (v:Int) (n d:Nat):(if v<0 then max (v+(n:Int)) 0 else min v (n:Int))=((fM n d (some v):Nat):Int):=by
 show (if v<0 then max (v+(n:Int)) 0 else min v (n:Int))=(((if v<0 then (v+(n:Int)).toNat else min v.toNat n):Nat):Int)
 by_cases hv:v<0
 ·simp only [if_pos hv];omega
 ·simp only [if_neg hv];omega
theorem Al (lo hi:Option Int) (n:Nat):Builtin.Slice.sliceAdjust lo hi 1 (n:Int)=(((fM n 0 lo:Nat):Int),((fM n n hi:Nat):Int)):=by
 have h1:¬((1:Int)<0):=by omega
 unfold Builtin.Slice.sliceAdjust;simp only [h1,if_false];refine Prod.ext ?_ ?_
 ·cases lo with
  | none=>rfl
  | some v=>exact CN v n 0
 ·cases hi with
  | none=>rfl
  | some v=>exact CN v n n
theorem zG (i j:Nat):Builtin.Slice.slicePlaces (i:Int) (j:Int) 1=j - i:=by
 unfold Builtin.Slice.slicePlaces;have h1:(1:Int)>0:=by omega
 simp only [h1,if_true,Int.ediv_one];split<;>omega
theorem p7 {v:Value} {o:Option Int} {Q:Option Int->Shared->Prop} (p:IsPart v o) (h:Q o s):wpAny (model prog w) A (Builtin.Slice.slicePartIndex v) Q E s:=by
 cases p with
 | none=>exact slicePart_none h
 | int i t=>exact slicePart_int h
theorem nA {sl:Addr} {vl vu:Value} {lo hi:Option Int} {n:Nat} {Q:Int×Int×Nat->Shared->Prop} (hs:s.heap.IsSliceOf sl vl vu .none) (pl:IsPart vl lo) (pu:IsPart vu hi)
 (h:Q (((fM n 0 lo:Nat):Int),1,fM n n hi - fM n 0 lo) s):wpAny (model prog w) A (Builtin.Slice.sliceApplied (.ref sl) (pure (n:Int))) Q E s:=by
 obtain ⟨os,hos,hcs,hds⟩:=id hs;unfold Builtin.Slice.sliceApplied Builtin.Slice.sliceFields;refine wpAny_bind (wpAny_bind (wpAny_field hos hds (x:=vl) rfl (wpAny_bind (wpAny_field hos hds (x:=vu) rfl (wpAny_bind (wpAny_field hos hds (x:= .none) rfl (wpAny_pure ?_)))))));refine wpAny_bind (slicePart_none ?_);show wpAny _ _ (if ((1:Int)==0)=true then _ else _) _ _ s;rw [if_neg (by decide)];refine wpAny_bind (p7 pl (wpAny_bind (p7 pu (wpAny_bind (wpAny_pure ?_)))));show wpAny _ _ (match Builtin.Slice.sliceAdjust lo hi 1 (n:Int) with |(lo,hi)=>pure (lo,(1:Int),Builtin.Slice.slicePlaces lo hi 1)) _ _ s;rw [Al lo hi n];show wpAny _ _ (pure (((fM n 0 lo:Nat):Int),(1:Int),Builtin.Slice.slicePlaces ((fM n 0 lo:Nat):Int) ((fM n n hi:Nat):Int) 1)) _ _ s;rw [zG];exact wpAny_pure h
theorem G9 (xs:Array Value) (i k:Nat):((List.range k).filterMap fun (m:Nat)=>xs[((i:Int)+(m:Int)*1).toNat]?).toArray=((xs.toList.drop i).take k).toArray:=by
 have e:(fun (m:Nat)=>xs[((i:Int)+(m:Int)*1).toNat]?)=fun m=>xs[i+m]? :=by
  funext m;have:((i:Int)+(m:Int)*1).toNat=i+m:=by omega
  rw [this]
 rw [e];have:=pick_run xs i k;rw [List.filterMap_map] at this;have e2:((fun x=>xs[x]?)∘fun x=>i+x)=fun m=>xs[i+m]? :=rfl;rw [e2] at this;rw [this]
theorem mR {t sl:Addr} {items:Array Value} {vl vu:Value} {lo hi:Option Int} {Q:Value->Shared->Prop} (ht:IsTup s.heap t items) (hs:s.heap.IsSliceOf sl vl vu .none) (pl:IsPart vl lo) (pu:IsPart vu hi)
 (hw:¬(fM items.size 0 lo=0/\fM items.size items.size hi=items.size))
 (h:Q (.ref s.heap.objs.size) {s with heap:=s.heap.push {cls:= .type "tuple",data:= .seq ((items.toList.drop (fM items.size 0 lo)).take (fM items.size items.size hi - fM items.size 0 lo)).toArray}})
 (hsz:items.size<=sizeLine):wpAny (model prog w) A (getItem (.ref t) (.ref sl)) Q E s:=by
 have Cq:sizeOk (.seq ((items.toList.drop (fM items.size 0 lo)).take (fM items.size items.size hi - fM items.size 0 lo)).toArray):=by
  show ((items.toList.drop (fM items.size 0 lo)).take (fM items.size items.size hi - fM items.size 0 lo)).toArray.size<=sizeLine;rw [List.size_toArray,List.length_take,List.length_drop,Array.length_toList];omega
 have hj:fM items.size items.size hi<=items.size:=Oz _ _ (Nat.le_refl _) hi;obtain ⟨os,hos,hcs,hds⟩:=id hs;have hTs:s.TypeIs (.ref sl) "slice" :=⟨os,hos,hcs⟩;unfold getItem
 try with_reducible refine wpAny_holding ?_
 first |refine wpAny_bind (wpAny_pure ?_)|skip
 refine wpAny_bind (wpAny_sequenceKey ht.typeIs (by decide) ?_)
 refine wpAny_bind (wpAny_callSpecial?_slot (name:=Str.ofString "__getitem__") ht.typeIs PyProof.Rows.slot_tuple_getitem
  (wpAny_call_entry PyProof.Rows.slot_tuple_getitem ht.typeIs entry_tuple_getitem ?_ (args_tuple_getitem _ _)))
 show wpAny _ _ (Builtin.Tuple.tupleItemsOf (.ref t) >>= _) _ _ s;refine wpAny_bind (tupleItemsOf_ ht ?_);refine wpAny_bind (wpAny_typeOf hTs ?_);rw [if_pos (by decide)];refine wpAny_bind (nA hs pl pu ?_)
 have hno:¬((((fM items.size 0 lo:Nat):Int)==0&&(1:Int)==1&&(fM items.size items.size hi - fM items.size 0 lo)==items.size)=true):=by
  intro q;rw [Bool.and_eq_true,Bool.and_eq_true] at q;have q1:((fM items.size 0 lo:Nat):Int)=0:=eq_of_beq q.1.1;have q2:fM items.size items.size hi - fM items.size 0 lo=items.size:=eq_of_beq q.2;exact hw ⟨by omega,by omega⟩
 show wpAny _ _ (if (((fM items.size 0 lo:Nat):Int)==0&&(1:Int)==1&&(fM items.size items.size hi - fM items.size 0 lo)==items.size)=true then _ else _) _ _ s;rw [if_neg hno,G9]
 first
  | exact wpAny_bind (m:=Builtin.Tuple.tupleExact _) (wpAny_newObj_type (wpAny_pure ⟨_,rfl,wpAny_pure h⟩) Cq)
  | exact wpAny_bind (m:=Builtin.Tuple.tupleExact _) (wpAny_newObj_type (wpAny_bind (wpAny_pure (wpAny_pure ⟨_,rfl,wpAny_pure h⟩))) Cq)
  | exact wpAny_bind (wpAny_bind (m:=Builtin.Tuple.tupleExact _) (wpAny_newObj_type (wpAny_pure (wpAny_pure ⟨_,rfl,wpAny_pure h⟩)) Cq))
  | exact wpAny_bind (wpAny_bind (m:=Builtin.Tuple.tupleExact _) (wpAny_newObj_type (wpAny_pure ⟨_,rfl,wpAny_pure h⟩) Cq))
end
end HT
namespace L2
open PySem PySem.Spec PyProof.Rows
abbrev TO:=St->Hp->(Option Int->Hp->Prop)->Prop
def PO (X:Cx) (e:Option Expr) (t:TO):Prop:=
 ∀(pins:List (Addr×Obj)) (s:Shared) (σ:St) (H:Hp) (Q:Option Int->Hp->Prop),Inv X pins σ H s->t σ H Q ->
  wpAny (model X.prog X.w) X.A (evalPart e X.env) (fun u s'=>∃o H',Inv X pins σ H' s'/\IsPart u o/\Q o H') X.xe s
def JX:TO:=fun _ H Q=>Q none H
def Rt (t:TE):TO:=fun σ H Q=>t σ H fun x H1=>∃i,x = .int i/\Q (some i) H1
section
variable {X:Cx} {e:Expr} {te:TE} {lo hi:Option Expr} {tl th:TO} {pos p2:Pos}
theorem gA:PO X none JX:=by
 intro pins s σ H Q I h;rw [evalPart_none];exact wpAny_pure ⟨none,H,I,.none,h⟩
theorem gq (h:PE X e te):PO X (some e) (Rt te):=by
 intro pins s σ H Q I hw;rw [evalPart_some];refine cC (h pins s σ H _ I hw) fun u s1 ⟨x,H1,I1,r1,q1⟩=> ?_;obtain ⟨i,rfl,q⟩:=q1;obtain ⟨t,rfl⟩:=r1;exact ⟨some i,H1,I1,.int i t,q⟩
def Uy (X:Cx) (r:V->Option Int->Option Int->Hp->VK->Prop):Prop:=
 ∀(pins:List (Addr×Obj)) (s:Shared) (σ:St) (H:Hp) (x:V) (v vl vu:Value) (lo hi:Option Int) (sl:Addr) (Q:VK),Inv X pins σ H s->RelV x v->s.heap.IsSliceOf sl vl vu .none->IsPart vl lo->IsPart vu hi->r x lo hi H Q ->
  ∃T id,typeLookup (.type T) "__getitem__" = pure (some (.builtin id))/\s.TypeIs v T/\wpAny (model X.prog X.w) X.A (getItem v (.ref sl)) (EP X pins σ Q) X.xe s
def tSl (r:V->Option Int->Option Int->Hp->VK->Prop) (te:TE) (tl th:TO):TE:=fun σ H Q=>te σ H fun x H1=>tl σ H1 fun l H2=>th σ H2 fun u H3=>r x l u H3 Q
theorem d9 {r:V->Option Int->Option Int->Hp->VK->Prop} (hr:Uy X r) (he:PE X e te) (hl:PO X lo tl) (hu:PO X hi th):PE X (.Subscript e (.Slice lo hi none p2) pos) (tSl r te tl th):=by
 intro pins s σ H Q I h;refine Subscript_ (cC (he pins s σ H _ I h) fun v s1 ⟨x,H1,I1,r1,q1⟩=> ?_);refine wpAny_Slice (cC (hl pins s1 σ H1 _ I1 q1) fun vl s2 ⟨l,H2,I2,pl,q2⟩=>cC (hu pins s2 σ H2 _ I2 q2) fun vu s3 ⟨u,H3,I3,pu,q3⟩=> ?_);rw [evalPart_none];refine wpAny_pure ?_;have I4:Inv X pins σ H3 {s3 with heap:=s3.heap.push {cls:= .type "slice",data:= .fields #[vl,vu,.none]}}:=I3.kept (t':=s3.toks) fun b ob q=>Heap.get?_push_of_some _ q;obtain ⟨T,id,hT,ht,hg⟩:=hr pins {s3 with heap:=s3.heap.push {cls:= .type "slice",data:= .fields #[vl,vu,.none]}} σ H3 x v vl vu l u s3.heap.objs.size Q I4 r1 (Heap.IsSliceOf.new ..) pl pu q3;show wpAny (model X.prog X.w) X.A (subscriptTail e (.Slice lo hi none p2) v (.ref s3.heap.objs.size)) (EP X pins σ Q) X.xe {s3 with heap:=s3.heap.push {cls:= .type "slice",data:= .fields #[vl,vu,.none]}};exact tail_any (ops:=[.ref s3.heap.objs.size,v]) ht hT hg (by with_unfolding_all rfl)
def jz (xs:List V) (lo hi:Option Int):List V:=(xs.drop (HT.fM xs.length 0 lo)).take (HT.fM xs.length xs.length hi - HT.fM xs.length 0 lo)
theorem oM (xs:List V) (lo hi:Option Int):(jz xs lo hi).length<=xs.length:=by
 unfold jz;rw [List.length_take,List.length_drop];omega
def RP (K:PySem.W.Frag):V->Option Int->Option Int->Hp->VK->Prop:=fun x lo hi H Q=>∃a xs,x = .ref a/\dG K H a xs /\
 ¬(HT.fM xs.length 0 lo=0/\HT.fM xs.length xs.length hi=xs.length) /\ ∀p,H p=none->Q (.ref p) (upd H p (.tup (jz xs lo hi)))
theorem Ov:Uy X (RP X.K):=by
 intro pins s σ H x v vl vu lo hi sl Q I rx hs pl pu h;obtain ⟨a,xs,rfl,hx,hw,q⟩:=h;cases rx;obtain ⟨its,r,ht,hz⟩:=I.tuple hx;have hlen:its.toArray.size=xs.length:=by rw [List.size_toArray];exact r.length.symm
 refine ⟨"tuple",_,PyProof.Rows.slot_tuple_getitem.lookup,ht.typeIs, ?_⟩;refine HT.mR ht hs pl pu (by rw [hlen];exact hw) ?_ (by rw [hlen];exact hz);rw [hlen];refine ⟨.ref s.heap.objs.size,_,I.laid (t':=s.toks) (o:= .tup (jz xs lo hi)) (fun b ob q=>Heap.get?_push_of_some _ q) (Nat.le_refl _) ?_,rfl,q _ (I.hok.fresh (Nat.le_refl _))⟩;exact ⟨Nat.le_trans (oM xs lo hi) hz,_,(r.drop (HT.fM xs.length 0 lo)).take (HT.fM xs.length xs.length hi - HT.fM xs.length 0 lo),IsTup.new _ _⟩
def M_ (K:PySem.W.Frag):R2:=fun x y H Q=>∃a b xs ys,x = .ref a/\y = .ref b/\dG K H a xs/\dG K H b ys/\xs≠[]/\xs.length+ys.length<=sizeLine /\
 (ys=[]->Q (.ref a) H)/\(ys≠[] -> ∀p,H p=none->Q (.ref p) (upd H p (.tup (xs++ys))))
theorem Vals.uM {xs:List V} {us:List Value} (r:Vals xs us):us=[]↔xs=[]:=by
 cases r with
 | nil=>simp
 | cons _ _=>simp
theorem KH:o8 X (binaryOp .Add) (M_ X.K):=by
 intro pins s σ H x y v u Q I rx ry h;obtain ⟨a,b,xs,ys,rfl,rfl,ha,hb,hx,hz,q1,q2⟩:=h;cases rx;cases ry;obtain ⟨its,r1,p1,_⟩:=I.tuple ha;obtain ⟨its2,r2,p2,_⟩:=I.tuple hb;refine HT.Mf p1 p2 (fun z=>hx (r1.uM.mp z)) (fun z=>⟨.ref a,H,I,rfl,q1 (r2.uM.mp z)⟩) (fun z=> ?_) (by rw [←r1.length,←r2.length];exact hz);refine ⟨.ref s.heap.objs.size,_,I.laid (t':=s.toks) (o:= .tup (xs++ys)) (fun b ob q=>Heap.get?_push_of_some _ q) (Nat.le_refl _) ?_,rfl,q2 (fun w=>z (r2.uM.mpr w)) _ (I.hok.fresh (Nat.le_refl _))⟩;exact ⟨by rw [List.length_append];exact hz,_,r1.append r2,IsTup.new _ _⟩
end
end L2
namespace L2
open PySem PySem.Spec PyProof.Rows
def Lf (n:Nat) (i:Int):Option Nat:=if 0<=i then (if i<n then some i.toNat else none) else if -(n:Int)<=i then some (i+n).toNat else none
def C_ {α:Type} (xs:List α) (i:Int):Option α:=(Lf xs.length i).bind fun j=>xs[j]?
theorem uR {n:Nat} {i:Int} {j:Nat} (h:Lf n i=some j):seqIndex? i n=some j/\j<n /\ -(n:Int)<=i/\i<n:=by
 unfold Lf at h
 by_cases h0:0<=i
 ·rw [if_pos h0] at h
  by_cases h1:i<n
  ·rw [if_pos h1] at h
   have e:i.toNat=j:=Option.some.inj h;exact ⟨by rw [seqIndex_of h0 h1,e],by omega,by omega,h1⟩
  ·rw [if_neg h1] at h;cases h
 ·rw [if_neg h0] at h
  by_cases h1: -(n:Int)<=i
  ·rw [if_pos h1] at h
   have e:(i+n).toNat=j:=Option.some.inj h;exact ⟨by rw [seqIndex_neg (by omega) h1,e],by omega,h1,by omega⟩
  ·rw [if_neg h1] at h;cases h
theorem CZ {α:Type} {xs:List α} {i:Int} {v:α} (h:C_ xs i=some v):∃j,seqIndex? i xs.length=some j/\xs[j]? = some v/\j<xs.length /\ -(xs.length:Int)<=i/\i<xs.length:=by
 unfold C_ at h;cases e:Lf xs.length i with
 | none=>rw [e] at h;cases h
 | some j=>
   rw [e] at h;obtain ⟨h1,h2,h3,h4⟩:=uR e;exact ⟨j,h1,h,h2,h3,h4⟩
theorem cO {α:Type} {xs:List α} {j:Nat} {v:α} (h:xs[j]? = some v):C_ xs (j:Int)=some v:=by
 have hj:j<xs.length:=(List.getElem?_eq_some_iff.mp h).1
 have e:Lf xs.length (j:Int)=some j:=by
  unfold Lf;rw [if_pos (by omega),if_pos (by omega)];simp
 unfold C_;rw [e];exact h
def Mq (b:Expr):Prop:=∀o i,subscripted b false o i=operate [o,i] (getItem o i)
def UW (X:Cx) (r:R2):Prop:=
 ∀(value slice:Expr) (pins:List (Addr×Obj)) (s:Shared) (σ:St) (H:Hp) (x y:V) (v u:Value) (Q:VK),Inv X pins σ H s->RelV x v->RelV y u->r x y H Q ->
  subscripted slice false v u=operate [v,u] (getItem v u)->wpAny (model X.prog X.w) X.A (subscriptTail value slice v u) (EP X pins σ Q) X.xe s
def MtR (X:Cx) (id:String) (r:V->List V->Hp->VK->Prop):Prop:=
 ∀(pins:List (Addr×Obj)) (s:Shared) (σ:St) (H:Hp) (x:V) (xs:List V) (v:Value) (us:List Value) (Q:VK),Inv X pins σ H s->RelV x v->Vals xs us->r x xs H Q ->
  wpAny (model X.prog X.w) X.A (call (.builtin id) (v::us)) (EP X pins σ Q) X.xe s
section
variable {X:Cx} {a b:Expr} {ta tb:TE} {pos:Pos}
theorem aM {r:R2} (hr:UW X r) (ha:PE X a ta) (hb:PE X b tb) (hs:Mq b):PE X (.Subscript a b pos) (uc r ta tb):=by
 intro pins s σ H Q I h;exact Subscript_ (QW ha hb I h fun v u s2 x y H2 I2 rx ry q=>hr a b pins s2 σ H2 x y v u Q I2 rx ry q (hs _ _))
def Pa (K:PySem.W.Frag):R2:=fun x y H Q=>∃p xs i v,x = .ref p/\y = .int i/\bf K H p xs/\C_ xs i=some v/\Q v H
def wj (K:PySem.W.Frag):R2:=fun x y H Q=>∃p xs i v,x = .ref p/\y = .int i/\dG K H p xs/\C_ xs i=some v/\Q v H
theorem Ld:UW X (Pa X.K):=by
 intro value slice pins s σ H x y v u Q I rx ry h hs;obtain ⟨p,xs,i,z,rfl,rfl,hq,he,q⟩:=h;cases rx;obtain ⟨t,rfl⟩:=ry;obtain ⟨its,r,pl,hz⟩:=I.list hq;obtain ⟨j,h1,h2,h3,h4,h5⟩:=CZ he;obtain ⟨w,ew,rw'⟩:=r.get h2;have hl:=r.length;have hn:=uO;have fin:EP X pins σ Q w s:=⟨z,H,I,rw',q⟩
 by_cases h0:0<=i
 ·have hj:i.toNat=j:=by
   rw [seqIndex_of h0 h5] at h1;exact Option.some.inj h1
  exact item_listR pl.isList h0 (by omega) (by rw [hj];simpa using ew) fin hs
 ·have hj:(i+(its.toArray.size:Int)).toNat=j:=by
   rw [seqIndex_neg (by omega) h4] at h1;rw [List.size_toArray,←hl];exact Option.some.inj h1
  exact subscriptTail_builtinR (x:=w) pl.isList.typeIs slot_list_getitem.lookup
   (wpAny_getItem_list_neg (Q:=fun r s'=>r=w/\EP X pins σ Q r s') pl.isList (by omega) (by rw [List.size_toArray]<;>omega) (by omega) (by rw [hj];simpa using ew) ⟨rfl,fin⟩) hs
theorem Qk:UW X (wj X.K):=by
 intro value slice pins s σ H x y v u Q I rx ry h hs;obtain ⟨p,xs,i,z,rfl,rfl,hq,he,q⟩:=h;cases rx;obtain ⟨t,rfl⟩:=ry;obtain ⟨its,r,pl,hz⟩:=I.tuple hq;obtain ⟨j,h1,h2,h3,h4,h5⟩:=CZ he;obtain ⟨w,ew,rw'⟩:=r.get h2;have hl:=r.length;have hn:=uO;have fin:EP X pins σ Q w s:=⟨z,H,I,rw',q⟩
 exact subscriptTail_builtinR (x:=w) pl.typeIs slot_tuple_getitem.lookup
  (getItem_tuple (j:=j) (Q:=fun r s'=>r=w/\EP X pins σ Q r s') pl (by omega) (by omega) (by rw [List.size_toArray,←hl];exact h1) (by simpa using ew) ⟨rfl,fin⟩) hs
theorem zY (its:List Value) (n j:Nat) (u:Value):Obj.mapSeq (·.setIfInBounds j u) {cls:= .type "list",data:= .seq its.toArray n}={cls:= .type "list",data:= .seq (its.set j u).toArray n}:=by
 simp [Obj.mapSeq]
theorem Inv.lst {pins:List (Addr×Obj)} {σ:St} {H:Hp} {s:Shared} {p:Addr} {xs:List V} (I:Inv X pins σ H s) (h:H p=some (.lst xs)):
 ∃(its:List Value) (n:Nat),Vals xs its/\s.heap.get? p=some {cls:= .type "list",data:= .seq its.toArray n}/\xs.length<=sizeLine:=by
 obtain ⟨z,its,n,r,e⟩:=I.hok p _ h;exact ⟨its,n,r,e,z⟩
theorem Inv.P0 {pins:List (Addr×Obj)} {σ:St} {H:Hp} {s:Shared} {p:Addr} {xs ys:List V} {its its':List Value} {n n':Nat} {f:Obj->Obj} (I:Inv X pins σ H s) (h:H p=some (.lst xs))
 (ho:s.heap.get? p=some {cls:= .type "list",data:= .seq its.toArray n}) (hf:f {cls:= .type "list",data:= .seq its.toArray n}={cls:= .type "list",data:= .seq its'.toArray n'}) (r:Vals ys its') (hz:ys.length<=sizeLine) (t:Nat):
 Inv X pins σ (upd H p (.lst ys)) {s with heap:=s.heap.update p f,toks:=t}:=by
 have e:(s.heap.update p f).get? p=some {cls:= .type "list",data:= .seq its'.toArray n'}:=by
  rw [Heap.get?_update_self f ho (by rw [hf]<;>rfl),hf]
 refine I.write (x:=p) (e:=p) (by rw [h];trivial) (.inl rfl) (fun b u hb q=>(Heap.get?_update_other _ _ (Ne.symm hb)).trans q) ⟨_,e⟩ ?_;exact ⟨hz,its',n',r,e⟩
def RV:V->V->V->Hp->(Hp->Prop)->Prop:=fun o i v H Q=>∃p xs k j,o = .ref p/\i = .int k/\H p=some (.lst xs)/\Lf xs.length k=some j/\Q (upd H p (.lst (xs.set j v)))
theorem set_list:Uz X RV:=by
 intro pins s σ H o i v ov iv u Q I ro ri rv h;obtain ⟨p,xs,k,j,rfl,rfl,hp,hj,q⟩:=h;cases ro;obtain ⟨t,rfl⟩:=ri;obtain ⟨its,n,r,ho,hz⟩:=I.lst hp;obtain ⟨h1,h2,h3,h4⟩:=uR hj;have hl:=r.length;have hn:=uO
 have I':Inv X pins σ (upd H p (.lst (xs.set j v))) {s with heap:=s.heap.update p (Obj.mapSeq (·.setIfInBounds j u))}:=
  I.P0 hp ho (zY its n j u) (r.set rv j) (by rw [List.length_set];exact hz) s.toks
 by_cases h0:0<=k
 ·have hk:k.toNat=j:=by
   rw [seqIndex_of h0 h4] at h1;exact Option.some.inj h1
  exact PySem.W.ki_setAt ho h0 (by omega) (by rw [List.size_toArray,←hl];exact h4) (by rw [hk];exact ⟨_,I',q⟩)
 ·have hk:(k+(its.toArray.size:Int)).toNat=j:=by
   rw [seqIndex_neg (by omega) h3] at h1;rw [List.size_toArray,←hl];exact Option.some.inj h1
  exact PySem.W.ki_setBack ho (by omega) (by rw [List.size_toArray,←hl];exact h3) (by omega) (by rw [hk];exact ⟨_,I',q⟩)
theorem uy (lo hi:Option Int) (n:Nat):(sliceBounds lo hi none n).1=((HT.fM n 0 lo:Nat):Int)/\(sliceBounds lo hi none n).2.1=((HT.fM n n hi:Nat):Int)/\(sliceBounds lo hi none n).2.2=1:=by
 refine ⟨?_, ?_,rfl⟩
 ·cases lo with
  | none=>simp [sliceBounds,HT.fM]
  | some i=>
    simp only [sliceBounds,HT.fM,Option.getD_none,show (1:Int)>0 by decide,if_true]
    by_cases h:i<0
    ·simp only [h,if_true]<;>omega
    ·simp only [h,if_false]<;>omega
 ·cases hi with
  | none=>simp [sliceBounds,HT.fM]
  | some i=>
    simp only [sliceBounds,HT.fM,Option.getD_none,show (1:Int)>0 by decide,if_true]
    by_cases h:i<0
    ·simp only [h,if_true]<;>omega
    ·simp only [h,if_false]<;>omega
theorem rK (its:List Value) (lo hi:Option Int):slicePick its.toArray lo hi none=((its.drop (HT.fM its.length 0 lo)).take (HT.fM its.length its.length hi - HT.fM its.length 0 lo)).toArray:=by
 obtain ⟨h1,h2,h3⟩:=uy lo hi its.toArray.size;unfold slicePick;rw [h1,h2,h3];simp only [sliceRange_one,pick_run,List.size_toArray]<;>rfl
def RQ (K:PySem.W.Frag):V->Option Int->Option Int->Hp->VK->Prop:=fun x lo hi H Q=>∃a xs,x = .ref a/\bf K H a xs /\ ∀p,H p=none->Q (.ref p) (upd H p (.lst (jz xs lo hi)))
theorem J6:Uy X (RQ X.K):=by
 intro pins s σ H x v vl vu lo hi sl Q I rx hs pl pu h;obtain ⟨a,xs,rfl,hx,q⟩:=h;cases rx;obtain ⟨its,r,ht,hz⟩:=I.list hx;have hlen:=r.length;refine ⟨"list",_,slot_list_getitem.lookup,ht.isList.typeIs, ?_⟩;refine wpAny_getItem_list_slice ht.isList hs pl pu .none (by simp) ?_ (by rw [List.size_toArray]<;>omega);rw [rK,←hlen];refine ⟨.ref s.heap.objs.size,_,I.laid (t':=s.toks) (o:= .lst (jz xs lo hi)) (fun b ob q=>Heap.get?_push_of_some _ q) (Nat.le_refl _) ?_,rfl,q _ (I.hok.fresh (Nat.le_refl _))⟩;exact ⟨Nat.le_trans (oM xs lo hi) hz,_,0,(r.drop (HT.fM xs.length 0 lo)).take (HT.fM xs.length xs.length hi - HT.fM xs.length 0 lo),Heap.get?_push_size _ rfl⟩
theorem u_:fO X (.builtin "len") (fun xs H Q=>∃p ys,xs=[.ref p]/\(bf X.K H p ys\/dG X.K H p ys)/\Q (.int ys.length) H):=by
 intro pins s σ H xs us Q I r h;obtain ⟨p,ys,rfl,hq,q⟩:=h;obtain ⟨u,rfl,rx⟩:=vals1 r;cases rx;have hn:=uO;rcases hq with hq|hq
 ·obtain ⟨its,r',pl,hz⟩:=I.list hq
  have hlen:=r'.length;exact Calls.call_len_list pl.isList (by simp only [List.size_toArray]<;>omega) ⟨.int ys.length,H,I.tok _,⟨s.toks+1,by rw [List.size_toArray,hlen]⟩,q⟩
 ·obtain ⟨its,r',pl,hz⟩:=I.tuple hq
  have hlen:=r'.length;exact len_tuple pl (by simp only [List.size_toArray]<;>omega) ⟨.int ys.length,H,I.tok _,⟨s.toks+1,by rw [List.size_toArray,hlen]⟩,q⟩
theorem u9:fO X (.type "list") (fun xs H Q=>∃p ys,xs=[.ref p]/\(bf X.K H p ys\/dG X.K H p ys) /\ ∀l,H l=none->Q (.ref l) (upd H l (.lst ys))):=by
 intro pins s σ H xs us Q I r h;obtain ⟨p,ys,rfl,hq,q⟩:=h;obtain ⟨u,rfl,rx⟩:=vals1 r;cases rx
 have fin:∀(its:List Value),Vals ys its->ys.length<=sizeLine -> ∀(h':Heap) (c':Nat),(∀b o',s.heap.get? b=some o'->h'.get? b=some o') ->
  h'.get? s.heap.objs.size=some {cls:= .type "list",dict:=none,data:= .seq its.toArray c',slots:= #[]}->EP X pins σ Q (.ref s.heap.objs.size) {s with heap:=h'}:=fun its r' hz h' c' kp e=>
  ⟨.ref s.heap.objs.size,_,I.laid (t':=s.toks) kp (Nat.le_refl _) (show bJ X.prog X.w _ h' _ (.lst ys) from ⟨hz,its,c',r',e⟩),rfl,q _ (I.hok.fresh (Nat.le_refl _))⟩
 rcases hq with hq|hq
 ·obtain ⟨its,r',pl,hz⟩:=I.list hq
  have hlen:=r'.length;obtain ⟨o,ho,hc,n,hd⟩:=pl.isList;exact call_list_seq p (.inl rfl) ho hc hd (fun h' c' kp e=>fin its r' hz h' c' kp e) (by simp only [List.size_toArray]<;>omega)
 ·obtain ⟨its,r',pl,hz⟩:=I.tuple hq
  have hlen:=r'.length;obtain ⟨o,ho,hc,n,hd⟩:=pl;exact call_list_seq p (.inr rfl) ho hc hd (fun h' c' kp e=>fin its r' hz h' c' kp e) (by simp only [List.size_toArray]<;>omega)
def tyV (K:PySem.W.Frag) (T:String) (x:V) (H:Hp):Prop:=match x with
 | .str _=>T = "str"
 | .int _=>T = "int"
 | .ref p=>(T = "list" /\ ∃xs,bf K H p xs)\/(T = "tuple" /\ ∃o,K.lookup p=some o/\o.cls = .type "tuple" /\ o.dict=none) \/
    (T = "dict" /\ ((∃kvs,H p=some (.dK kvs)) \/ ∃kvs,H p=some (.dT kvs)))\/(T = "set" /\ ∃S n,H p=some (.set S n))
 | _=>False
theorem Ob {pins:List (Addr×Obj)} {σ:St} {H:Hp} {s:Shared} {T:String} {x:V} {v:Value} (I:Inv X pins σ H s) (r:RelV x v) (ty:tyV X.K T x H):
 s.TypeIs v T /\ ∀a,v = .ref a -> ∃ob,s.heap.get? a=some ob/\ob.dict=none:=by
 cases x with
 | str z=>
   obtain ⟨t,rfl⟩:=r;cases (show T = "str" from ty);exact ⟨typeIs_str s z t,fun _ e=>nomatch e⟩
 | int i=>
   obtain ⟨t,rfl⟩:=r;cases (show T = "int" from ty);exact ⟨typeIs_int s i t,fun _ e=>nomatch e⟩
 | ref p=>
   cases r;rcases ty with ⟨rfl,xs,hq⟩|⟨rfl,o,hk,hc,hd⟩|⟨rfl,hk⟩|⟨rfl,S,n,hk⟩
   ·obtain ⟨its,_,pl,_⟩:=I.list hq
    refine ⟨pl.isList.typeIs,fun a e=> ?_⟩;cases e;obtain ⟨o,n,e,c,hd,_⟩:=pl;exact ⟨o,e,hd⟩
   ·refine ⟨⟨o,I.xg p o hk,hc⟩,fun a e=> ?_⟩
    cases e;exact ⟨o,I.xg _ o hk,hd⟩
   ·have z:∃o,s.heap.get? p=some o/\o.ExactDict:=by
     rcases hk with ⟨kvs,hk⟩|⟨kvs,hk⟩
     ·obtain ⟨_,_,_,_,o,_,_,e,ex,_⟩:=I.hok p _ hk
      exact ⟨o,e,ex⟩
     ·obtain ⟨_,_,_,_,o,_,_,e,ex,_⟩:=I.hok p _ hk
      exact ⟨o,e,ex⟩
    obtain ⟨o,e,ex⟩:=z;refine ⟨⟨o,e,ex.1⟩,fun a e2=> ?_⟩;cases e2;exact ⟨o,e,ex.2.1⟩
   ·obtain ⟨o,_,_,_,e,ex,_⟩:=I.hok p _ hk
    refine ⟨⟨o,e,ex.1⟩,fun a e2=> ?_⟩;cases e2;exact ⟨o,e,ex.2.1⟩
 | _=>exact False.elim ty
def U7 (K:PySem.W.Frag) (T:String) (r:V->List V->Hp->VK->Prop) (to:TE) (t:TA):TE:=fun σ H Q=>to σ H fun x H1=>tyV K T x H1/\t σ H1 fun xs H2=>r x xs H2 Q
variable {o e:Expr} {es:List Expr} {to:TE} {t:TA} {name:Str} {apos cpos:Pos} {T id:String} {r:V->List V->Hp->VK->Prop}
theorem Nf (pa:PlainAttrs T) (slot:Slot T name id) (hty:typeOf (.builtin id)=pure (.type "method_descriptor")) (hm:MtR X id r) (ho:PE X o to) (ha:PA X (e::es) t)
 (hbase:attributeBase o name X.env (eval o X.env)=eval o X.env:=by rfl)
 (hfew:((backTo cpos (starEach (e::es) X.env)).all (fun x=> !x.1)&&(backToKw cpos (keywordEach [] X.env)).all (fun x=>x.1.isSome)
   && decide ((e::es).length+([]:List Keyword).length+(if ([]:List Keyword).isEmpty then 0 else 1)<30))=true:=by rfl)
 (hline:(apos.endLine==cpos.line)=true:=by rfl) (hs:starEach (e::es) X.env=(false,eval e X.env)::starEach es X.env:=by rfl) (hplain:(backTo cpos (starEach es X.env)).any (·.1)=false:=by rfl):
 PE X (.Call (.Attribute o name apos) (e::es) [] cpos) (U7 X.K T r to t):=by
 intro pins s σ H Q I h;refine wpAny_Call_method_late hbase hfew hline rfl (cC (ho pins s σ H _ I h) fun v s1 ⟨x,H1,I1,r1,ty,q1⟩=> ?_);obtain ⟨h1,h2⟩:=Ob I1 r1 ty;refine ⟨T,id,pa,slot,hty,h1,h2, ?_⟩;have hA:=ha cpos pins s1 σ H1 _ I1 q1;rw [hs] at hA ⊢;refine Calls.callWith_builtin (by show (false||(backTo cpos (starEach es X.env)).any (·.1))=false;rw [hplain]<;>rfl) (Calls.evalArgs_plain ?_);exact cC hA fun us s2 ⟨vs,H2,I2,r2,q2⟩=>hm pins s2 σ H2 x vs v us Q I2 r1 r2 q2
end
end L2
namespace L2
open PySem PySem.Spec PyProof.Rows
def MtM (X:Cx) (id:String) (r:V->List V->Hp->VK->Prop):Prop:=
 ∀(pins:List (Addr×Obj)) (s:Shared) (σ:St) (H:Hp) (x:V) (xs:List V) (v:Value) (us:List Value) (Q:VK),Inv X pins σ H s->RelV x v->Vals xs us->r x xs H Q ->
  wpAny (model X.prog X.w) X.A (call (.builtin id) (v::us)) (EP X pins σ Q) X.xe s
theorem Vals.one {x:V} {us:List Value} (h:Vals [x] us):∃u,us=[u]/\RelV x u:=by
 cases h with
 | cons r t=>cases t;exact ⟨_,rfl,r⟩
theorem Vals.eraseIdx:∀{xs:List V} {us:List Value} (i:Nat),Vals xs us->Vals (xs.eraseIdx i) (us.eraseIdx i)
 | _,_,_,.nil=> .nil
 | _,_,0,.cons _ t=>t
 | _,_,i+1,.cons r t=> .cons r (Vals.eraseIdx i t)
theorem sY {α:Type}:∀(l:List α) (i:Nat),(l.eraseIdx i).length<=l.length
 | [],_=>Nat.le_refl _
 | _::_,0=>Nat.le_succ _
 | _::r,i+1=>Nat.succ_le_succ (sY r i)
section
variable {X:Cx} {pins:List (Addr×Obj)} {σ:St} {H:Hp} {s:Shared} {l b:Addr} {xs ys zs:List V}
theorem Inv.P_ {its its':List Value} {n:Nat} {f:Array Value->Array Value} {t':Nat} (I:Inv X pins σ H s) (hH:H l=some (.lst xs))
 (e:s.heap.get? l=some {cls:= .type "list",data:= .seq its.toArray n}) (hf:f its.toArray=its'.toArray) (hv:Vals ys its') (hz:ys.length<=sizeLine):
 Inv X pins σ (upd H l (.lst ys)) {s with heap:=s.heap.update l (Obj.mapSeq f),toks:=t'}:=by
 have q:=PySem.IsL.update e f;rw [hf] at q;refine I.write (x:=l) (e:=l) (by rw [hH];exact trivial) (.inl rfl) (fun b' u hb hu=>(Heap.get?_update_other s.heap (Obj.mapSeq f) (Ne.symm hb)).trans hu) ⟨_,q⟩ ?_;exact ⟨hz,its',_,hv,q⟩
theorem Inv.K7 (I:Inv X pins σ H s) (hH:H l=some (.lst xs)):xs.length<=sizeLine /\ ∃(its:List Value) (n:Nat),Vals xs its/\xs.length=its.length/\s.heap.get? l=some {cls:= .type "list",data:= .seq its.toArray n}:=by
 obtain ⟨z,its,n,r,e⟩:=I.hok l _ hH;exact ⟨z,its,n,r,r.length,e⟩
theorem HB {n:Nat} (h:n<=sizeLine):Builtin.List.listTooLong n=false:=by
 unfold Builtin.List.listTooLong;exact decide_eq_false (by omega)
end
section
variable {X:Cx}
def uE:V->List V->Hp->VK->Prop:=fun x vs H Q=>∃l xs y,x = .ref l/\vs=[y]/\H l=some (.lst xs)/\xs.length<sizeLine/\Q .non (upd H l (.lst (xs++[y])))
theorem nM:MtM X "list.append" uE:=by
 intro pins s σ H x vs v us Q I rx rv h;obtain ⟨l,xs,y,rfl,rfl,hH,hz,q⟩:=h;cases rx;obtain ⟨u,rfl,ru⟩:=rv.one;obtain ⟨z,its,n,r,hl,e⟩:=I.K7 hH;refine call_meets F.slot_list_append ⟨_,e,rfl⟩ F.entry_list_append (F.args_list_append_2 _ _) (PySem.list_append l its.toArray n u (by rw [List.size_toArray];omega)) ⟨e, ?_⟩;refine ⟨.non,_,I.P_ (its':=its++[u]) hH e (by simp) (r.append (.cons ru .nil)) ?_,rfl,q⟩;rw [List.length_append,List.length_singleton];omega
def Ke:V->List V->Hp->VK->Prop:=fun x vs H Q=>∃l b xs zs,x = .ref l/\vs=[.ref b]/\H l=some (.lst xs)/\H b=some (.lst zs)/\xs.length+zs.length<=sizeLine/\Q .non (upd H l (.lst (xs++zs)))
theorem sW:MtM X "list.extend" Ke:=by
 intro pins s σ H x vs v us Q I rx rv h;obtain ⟨l,b,xs,zs,rfl,rfl,hH,hB,hz,q⟩:=h;cases rx;obtain ⟨u,rfl,ru⟩:=rv.one;cases ru;obtain ⟨z,its,n,r,hl,e⟩:=I.K7 hH;obtain ⟨z2,its2,n2,r2,hl2,e2⟩:=I.K7 hB;have hsz:its.toArray.size+its2.toArray.size<=sizeLine:=by rw [List.size_toArray,List.size_toArray];omega
 have Tt:¬(!its.toArray.isEmpty&&Builtin.List.listTooLong (its.toArray.size+its2.toArray.size))=true:=by
  rw [HB hsz,Bool.and_false];exact Bool.false_ne_true
 refine call_meets F.slot_list_extend ⟨_,e,rfl⟩ F.entry_list_extend (F.args_list_extend_2 _ _)
  (AutoSeq1.list_extend_list_list_0 l its.toArray n b its2.toArray n2 Tt (by rw [List.size_toArray];omega) (by omega)) ⟨e,e2, ?_⟩
 refine ⟨.non,_,I.P_ (its':=its++its2) hH e (by simp) (r.append r2) ?_,rfl,q⟩;rw [List.length_append];omega
def O_:V->List V->Hp->VK->Prop:=fun x vs H Q=>∃l xs i k y,x = .ref l/\vs=[.int i]/\H l=some (.lst xs) /\ -(2 ^ 63)<=i/\i<2 ^ 63/\seqIndex? i xs.length=some k/\xs[k]? = some y/\Q y (upd H l (.lst (xs.eraseIdx k)))
theorem HS:MtM X "list.pop" O_:=by
 intro pins s σ H x vs v us Q I rx rv h;obtain ⟨l,xs,i,k,y,rfl,rfl,hH,h1,h2,hk,hy,q⟩:=h;cases rx;obtain ⟨u,rfl,ru⟩:=rv.one;obtain ⟨t,rfl⟩:=ru;obtain ⟨z,its,n,r,hl,e⟩:=I.K7 hH;obtain ⟨w,hw,rw'⟩:=r.get hy
 refine call_meets F.slot_list_pop ⟨_,e,rfl⟩ F.entry_list_pop (F.args_list_pop_2 _ _)
  (MeetsSeq.list_pop_at l its.toArray n i t k w (fitsIndex_both h1 h2) (by rw [List.size_toArray,←hl];exact hk) (by rw [←Array.getElem?_toList];exact hw) (by rw [List.size_toArray];omega)) ⟨e, ?_⟩
 refine ⟨y,_,I.P_ (its':=its.eraseIdx k) hH e ?_ (r.eraseIdx k) ?_,rw',q⟩
 ·show its.toArray.eraseIdxIfInBounds k=(its.eraseIdx k).toArray
  rw [List.eraseIdxIfInBounds_toArray]
 ·have:=sY xs k
  omega
end
section
variable {prog:Program} {w:World} {A:Around} {E:Value->Shared->Prop} {s:Shared}
end
section
variable {X:Cx}
end
end L2
namespace L2
open PySem PySem.Spec PyProof.Rows
section
variable {κ:Type} [DecidableEq κ]
def fL (kvs:List (κ×V)) (k:κ):Option V:=(kvs.find? fun kv=>decide (kv.1=k)).map (·.2)
def putK (kvs:List (κ×V)) (k:κ) (v:V):List (κ×V):=
 if (kvs.any fun kv=>decide (kv.1=k))=true then kvs.map (fun kv=>if kv.1=k then (kv.1,v) else kv) else kvs++[(k,v)]
theorem dj {p:κ×V} {r:List (κ×V)} {k:κ} (e:p.1=k):fL (p::r) k=some p.2:=by simp [fL,List.find?_cons,e]
theorem dz {p:κ×V} {r:List (κ×V)} {k:κ} (e:¬p.1=k):fL (p::r) k=fL r k:=by simp [fL,List.find?_cons,e]
theorem jk (k:κ):∀kvs:List (κ×V),(kvs.any fun kv=>decide (kv.1=k))=(fL kvs k).isSome
 | []=>rfl
 | p::r=>by
   rw [List.any_cons]
   by_cases e:p.1=k
   ·simp only [dj e,decide_eq_true e,Bool.true_or,Option.isSome_some]
   ·rw [dz e,decide_eq_false e,Bool.false_or];exact jk k r
theorem vK (k j:κ) (y:V):∀kvs:List (κ×V),fL (kvs.map fun kv=>if kv.1=k then (kv.1,y) else kv) j=(fL kvs j).map fun x=>if j=k then y else x
 | []=>rfl
 | p::r=>by
   have ih:=vK k j y r;rw [List.map_cons]
   by_cases h:p.1=k
   ·rw [if_pos h]
    by_cases e:p.1=j
    ·rw [dj (p:=(p.1,y)) e,dj e,Option.map_some,if_pos (e.symm.trans h)]
    ·rw [dz (p:=(p.1,y)) e,dz e,ih]
   ·rw [if_neg h]
    by_cases e:p.1=j
    ·rw [dj (p:=p) e,dj e,Option.map_some,if_neg (fun z=>h (e.trans z))]
    ·rw [dz (p:=p) e,dz e,ih]
theorem rW (k j:κ) (y:V):∀kvs:List (κ×V),fL kvs k=none->fL (kvs++[(k,y)]) j=if j=k then some y else fL kvs j
 | [],_=>by
   by_cases e:k=j
   ·rw [if_pos e.symm];exact dj (p:=(k,y)) e
   ·rw [if_neg (fun z=>e z.symm)];exact dz (p:=(k,y)) e
 | p::r,hn=>by
   rw [List.cons_append];have hk:¬p.1=k:=fun z=>by rw [dj z] at hn;cases hn
   rw [dz hk] at hn;have ih:=rW k j y r hn
   by_cases e:p.1=j
   ·rw [dj e,dj e,if_neg (fun z=>hk (e.trans z))]
   ·rw [dz e,dz e,ih]
theorem pP (kvs:List (κ×V)) (k j:κ) (y:V):fL (putK kvs k y) j=if j=k then some y else fL kvs j:=by
 unfold putK
 by_cases a:(kvs.any fun kv=>decide (kv.1=k))=true
 ·rw [if_pos a,vK]
  rw [jk] at a
  by_cases e:j=k
  ·obtain ⟨x,hx⟩:=Option.isSome_iff_exists.mp a
   rw [if_pos e,e,hx,Option.map_some,if_pos rfl]
  ·rw [if_neg e]
   cases fL kvs j with
   | none=>rfl
   | some x=>rw [Option.map_some,if_neg e]
 ·rw [if_neg a]
  refine rW k j y kvs ?_;rw [jk] at a;cases q:fL kvs k with
  | none=>rfl
  | some x=>rw [q] at a;exact (a rfl).elim
theorem gF (kvs:List (κ×V)) (k:κ) (v:V):(putK kvs k v).length<=kvs.length+1:=by
 unfold putK;split
 ·rw [List.length_map];omega
 ·rw [List.length_append,List.length_cons,List.length_nil];omega
theorem n_.nP {o:Option V} {u:Option Value} (r:n_ o u):o.isSome=u.isSome:=by
 cases o with
 | none=>cases u with
   | none=>rfl
   | some _=>exact (show False from r).elim
 | some _=>cases u with
   | none=>exact (show False from r).elim
   | some _=>rfl
theorem n_.getD {o:Option V} {u:Option Value} {d:V} {d':Value} (r:n_ o u) (rd:RelV d d'):RelV (o.getD d) (u.getD d'):=by
 cases o with
 | none=>cases u with
   | none=>exact rd
   | some _=>exact (show False from r).elim
 | some _=>cases u with
   | none=>exact (show False from r).elim
   | some _=>exact r
theorem KV.val {kvs:List (κ×V)} {vs:List (κ×Value)} (r:KV kvs vs) (k:κ):n_ (fL kvs k) (valueAt vs k):=by
 unfold KV at r
 induction r with
 | nil=>exact True.intro
 | @cons p q ps qs h t ih=>
   obtain ⟨h1,h2⟩:=h
   by_cases e:p.1=k
   ·have e':q.1=k:=h1.symm.trans e
    have b:valueAt (q::qs) k=some q.2:=by simp [valueAt,List.find?_cons,e']
    rw [dj e,b];exact h2
   ·have e':¬q.1=k:=fun z=>e (h1.trans z)
    have b:valueAt (q::qs) k=valueAt qs k:=by simp [valueAt,List.find?_cons,e']
    rw [dz e,b];exact ih
theorem KV.any {kvs:List (κ×V)} {vs:List (κ×Value)} (r:KV kvs vs) (k:κ):(kvs.any fun kv=>decide (kv.1=k))=vs.any fun kv=>decide (kv.1=k):=by
 unfold KV at r
 induction r with
 | nil=>rfl
 | cons h t ih=>rw [List.any_cons,List.any_cons,ih,h.1]
theorem KV.repl {kvs:List (κ×V)} {vs:List (κ×Value)} (r:KV kvs vs) (k:κ) {y:V} {u:Value} (ry:RelV y u):
 KV (kvs.map fun kv=>if kv.1=k then (kv.1,y) else kv) (vs.map fun kv=>if kv.1=k then (kv.1,u) else kv):=by
 unfold KV at r ⊢
 induction r with
 | nil=>exact .nil
 | @cons p q ps qs h t ih=>
   rw [List.map_cons,List.map_cons];refine .cons ?_ ih;obtain ⟨h1,h2⟩:=h
   by_cases e:p.1=k
   ·rw [if_pos e,if_pos (h1.symm.trans e)];exact ⟨h1,ry⟩
   ·rw [if_neg e,if_neg (fun z=>e (h1.trans z))];exact ⟨h1,h2⟩
theorem KV.put {kvs:List (κ×V)} {vs:List (κ×Value)} (r:KV kvs vs) (k:κ) {y:V} {u:Value} (ry:RelV y u):KV (putK kvs k y) (stored vs k u):=by
 unfold putK stored;rw [r.any k]
 by_cases e:(vs.any fun kv=>decide (kv.1=k))=true
 ·rw [if_pos e,if_pos e];exact r.repl k ry
 ·rw [if_neg e,if_neg e];exact Paired.snoc r ⟨rfl,ry⟩
theorem KV.length {kvs:List (κ×V)} {vs:List (κ×Value)} (r:KV kvs vs):kvs.length=vs.length:=Paired.length r
end
theorem sZ {P:Program} {w:World} {k:Key} {u:Value} (r:RelV (kV k) u):(bO P w).is k u=true:=by
 cases k with
 | inl i=>obtain ⟨t,e⟩:=(show ∃t,u=Value.int i t from r);subst e;exact wN P w i t
 | inr x=>obtain ⟨t,e⟩:=(show ∃t,u=Value.str x t from r);subst e;exact wM P w x t
theorem tu {P:Program} {w:World}:∀{ks:List Key} {us:List Value},Vals (ks.map kV) us->ItemsAre (bO P w) ks us
 | [],_,r=>by rw [List.map_nil] at r;cases r;exact .nil
 | k::ks,_,r=>by
   rw [List.map_cons] at r;cases r with
   | cons h t=>exact .cons (sZ h) (tu t)
abbrev KT (H:Hp):List (List Key×V)->List (List Key×Addr×Value)->Prop:=Paired fun p q=>p.1=q.1/\H q.2.1=some (.tup (p.1.map kV))/\RelV p.2 q.2.2
theorem KT.val {H:Hp} {kvs:List (List Key×V)} {xs:List (List Key×Addr×Value)} (r:KT H kvs xs) (k:List Key):n_ (fL kvs k) ((atKey xs k).map (·.2)):=by
 induction r with
 | nil=>exact True.intro
 | @cons p q ps qs h t ih=>
   obtain ⟨h1,_,h2⟩:=h
   by_cases e:p.1=k
   ·have e':q.1=k:=h1.symm.trans e
    have b:atKey (q::qs) k=some q.2:=by simp [atKey,List.find?_cons,e']
    rw [dj e,b];exact h2
   ·have e':¬q.1=k:=fun z=>e (h1.trans z)
    have b:atKey (q::qs) k=atKey qs k:=by simp [atKey,List.find?_cons,e']
    rw [dz e,b];exact ih
theorem KT.repl {H:Hp} {kvs:List (List Key×V)} {xs:List (List Key×Addr×Value)} (r:KT H kvs xs) (k:List Key) {y:V} {u:Value} (ry:RelV y u):
 KT H (kvs.map fun kv=>if kv.1=k then (kv.1,y) else kv) (xs.map (putAt k u)):=by
 induction r with
 | nil=>exact .nil
 | @cons p q ps qs h t ih=>
   rw [List.map_cons,List.map_cons];refine .cons ?_ ih;obtain ⟨h1,h2,h3⟩:=h;unfold putAt
   by_cases e:p.1=k
   ·rw [if_pos e,if_pos (h1.symm.trans e)];exact ⟨h1,h2,ry⟩
   ·rw [if_neg e,if_neg (fun z=>e (h1.trans z))];exact ⟨h1,h2,h3⟩
theorem KT.put {H:Hp} {kvs:List (List Key×V)} {xs:List (List Key×Addr×Value)} (r:KT H kvs xs) (k:List Key) {b:Addr} {y:V} {u:Value} (hb:H b=some (.tup (k.map kV))) (ry:RelV y u):
 KT H (putK kvs k y) (storedH xs k b u):=by
 have e:(kvs.any fun kv=>decide (kv.1=k))=(atKey xs k).isSome:=by
  rw [jk,(r.val k).nP,Option.isSome_map]
 unfold putK storedH;rw [e]
 by_cases q:(atKey xs k).isSome=true
 ·rw [if_pos q,if_pos q];exact r.repl k ry
 ·rw [if_neg q,if_neg q];exact Paired.snoc r ⟨rfl,hb,ry⟩
theorem KT.keeps {H H':Hp} {kvs:List (List Key×V)} {xs:List (List Key×Addr×Value)} (r:KT H kvs xs) (ht:∀b ys,H b=some (.tup ys)->H' b=some (.tup ys)):KT H' kvs xs:=
 Paired.PX r fun _ _ z=>⟨z.1,ht _ _ z.2.1,z.2.2⟩
section
variable {P:Program} {w:World} {H:Hp} {h:Heap} {a:Addr}
theorem MP {u:HO} (ok:lB P w H h) (e:Rd H a u):bJ P w H h a u:=e.ok ok
theorem tK {kvs:List (Key×V)} (ok:lB P w H h) (e:Rd H a (.dK kvs)):kvs.length<=sizeLine/\(a==sysModules)=false /\ ∃vs,KV kvs vs/\h.DictOf (bO P w) a vs:=
 show bJ P w H h a (.dK kvs) from MP ok e
theorem Ja {kvs:List (Key×V)} (ok:lB P w H h) (e:H a=some (.dK kvs)):kvs.length<=sizeLine/\(a==sysModules)=false /\ ∃vs,KV kvs vs/\h.DictOf (bO P w) a vs:=tK ok (.inl e)
theorem qG {ks:List Key} (ok:lB P w H h) (e:H a=some (.tup (ks.map kV))):(tupleKind (bO P w)).is h ks a:=by
 obtain ⟨_,its,r,o,h1,h2,n,h3⟩:=(show bJ P w H h a (.tup (ks.map kV)) from ok a _ e);exact ⟨o,its.toArray,n,h1,h2,h3,by simpa using tu r⟩
theorem tH {kvs:List (List Key×V)} (ok:lB P w H h) (e:Rd H a (.dT kvs)):kvs.length<=sizeLine/\(a==sysModules)=false /\
 ∃xs,KT H kvs xs/\h.DictOfH (tupleKind (bO P w)) a xs:=by
 obtain ⟨z,y,xs,r,o,es,ep,h1,h2,h3,h4,h5⟩:=(show bJ P w H h a (.dT kvs) from MP ok e);refine ⟨z,y,xs,r,o,es,ep,h1,h2,h3,h4,fun x hx=> ?_,h5⟩
 have all:∀{l:List (List Key×V)} {m:List (List Key×Addr×Value)},KT H l m -> ∀x∈m,(tupleKind (bO P w)).is h x.1 x.2.1:=by
  intro l m q
  induction q with
  | nil=>intro x hx;exact nomatch hx
  | @cons p q ps qs hq t ih=>
    intro x hx;rcases List.mem_cons.mp hx with e|hx
    ·subst e
     exact qG ok (by rw [←hq.1];exact hq.2.1)
    ·exact ih x hx
 exact all r x hx
theorem T6 {kvs:List (List Key×V)} (ok:lB P w H h) (e:H a=some (.dT kvs)):kvs.length<=sizeLine/\(a==sysModules)=false /\
 ∃xs,KT H kvs xs/\h.DictOfH (tupleKind (bO P w)) a xs:=tH ok (.inl e)
end
def jh (H:Hp) (a:Addr) (y:V) (r:Option V):Prop:=
 (∃kvs k,Rd H a (.dK kvs)/\y=kV k/\r=fL kvs k) \/ ∃kvs k b,Rd H a (.dT kvs)/\y = .ref b/\H b=some (.tup (k.map kV))/\r=fL kvs k
def vq (H:Hp) (a:Addr) (y v:V) (H':Hp):Prop:=
 (∃kvs k,H a=some (.dK kvs)/\y=kV k/\kvs.length<sizeLine/\H'=upd H a (.dK (putK kvs k v))) \/
 ∃kvs k b,H a=some (.dT kvs)/\y = .ref b/\H b=some (.tup (k.map kV))/\kvs.length<sizeLine/\H'=upd H a (.dT (putK kvs k v))
theorem jh.k {H:Hp} {a:Addr} {kvs:List (Key×V)} {k:Key} (e:H a=some (.dK kvs)):jh H a (kV k) (fL kvs k):= .inl ⟨kvs,k,.inl e,rfl,rfl⟩
theorem jh.t {H:Hp} {a b:Addr} {kvs:List (List Key×V)} {k:List Key} (e:H a=some (.dT kvs)) (eb:H b=some (.tup (k.map kV))):jh H a (.ref b) (fL kvs k):= .inr ⟨kvs,k,b,.inl e,rfl,eb,rfl⟩
theorem vq.k {H:Hp} {a:Addr} {kvs:List (Key×V)} {k:Key} {v:V} (e:H a=some (.dK kvs)) (hl:kvs.length<sizeLine):vq H a (kV k) v (upd H a (.dK (putK kvs k v))):= .inl ⟨kvs,k,e,rfl,hl,rfl⟩
theorem vq.t {H:Hp} {a b:Addr} {kvs:List (List Key×V)} {k:List Key} {v:V} (e:H a=some (.dT kvs)) (eb:H b=some (.tup (k.map kV))) (hl:kvs.length<sizeLine):
 vq H a (.ref b) v (upd H a (.dT (putK kvs k v))):= .inr ⟨kvs,k,b,e,rfl,eb,hl,rfl⟩
section
variable {X:Cx} {pins:List (Addr×Obj)} {σ:St} {H:Hp} {s:Shared} {a:Addr} {y v:V} {u r:Value} {o:Option V} {A:Around} {E:Value->Shared->Prop}
theorem Inv.big (I:Inv X pins σ H s):sysModules<s.heap.objs.size:=by
 have h:mainGlobals<s.heap.objs.size:=(I.mod.glob.keeps I.bk).lt;exact Nat.lt_trans (by decide) h
theorem Ey {Q:Value->Shared->Prop} (hu:A.units+1<cLine) (I:Inv X pins σ H s) (g:jh H a y (some v)) (ry:RelV y u) (h:∀w' s',Inv X pins σ H s'->RelV v w'->Q w' s'):
 wpAny (model X.prog X.w) A (getItem (.ref a) u) Q E s:=by
 rcases g with ⟨kvs,k,e,ey,l⟩|⟨kvs,k,b,e,ey,eb,l⟩
 ·subst ey
  obtain ⟨z,hd,vs,rel,dd⟩:=tK I.hok e;obtain ⟨w',hw,rw'⟩:=n_.some_of (v:=v) (o:=valueAt vs k) (by rw [l];exact rel.val k);exact wpAny_getItem_of (sZ ry) dd.mapOf hw (h w' _ (I.tok _) rw')
 ·subst ey
  cases (show u=Value.ref b from ry);obtain ⟨z,hd,xs,rel,dd⟩:=tH I.hok e;obtain ⟨w',hw,rw'⟩:=n_.some_of (v:=v) (o:=(atKey xs k).map (·.2)) (by rw [l];exact rel.val k);obtain ⟨p,hp,hp2⟩:=Option.map_eq_some_iff.mp hw;refine wpAny_getItem_heap (tupleKind_room_in1 hu) (qG I.hok eb) dd hp ?_;rw [hp2];exact h w' _ (I.tok _) rw'
theorem LQ {Q:Value->Shared->Prop} (hu:A.units+1<cLine) (I:Inv X pins σ H s) (g:jh H a y o) (ry:RelV y u) (h:∀s',Inv X pins σ H s'->Q (.bool (!o.isSome)) s'):
 wpAny (model X.prog X.w) A (compareOp .NotIn u (.ref a)) Q E s:=by
 rcases g with ⟨kvs,k,e,ey,l⟩|⟨kvs,k,b,e,ey,eb,l⟩
 ·subst ey
  obtain ⟨z,hd,vs,rel,dd⟩:=tK I.hok e;refine wpAny_notIn_of (sZ ry) hd dd.mapOf ?_;rw [←(rel.val k).nP,←l];exact h _ (I.tok _)
 ·subst ey
  cases (show u=Value.ref b from ry);obtain ⟨z,hd,xs,rel,dd⟩:=tH I.hok e;refine wpAny_notIn_heap (tupleKind_room_in1 hu) (qG I.hok eb) hd dd ?_;have q:=(rel.val k).nP;rw [Option.isSome_map] at q;rw [←q,←l];exact h _ (I.tok _)
theorem u0 {h':Heap} {t':Nat} {ob:HO} (I:Inv X pins σ H s) (mu:UJ (H a)) (hs:Heap.SameBut a s.heap h') (he:∃q,h'.get? a=some q) (new:bJ X.prog X.w (upd H a ob) h' a ob):
 Inv X pins σ (upd H a ob) {s with heap:=h',toks:=t'}:=
 I.write (x:=a) (e:=a) mu (.inl rfl) (fun b q hb z=>(hs.2 b hb).trans z) he new
theorem Jb {P:Program} {w:World} {H':Hp} {h':Heap} {kvs:List (Key×V)} {vs:List (Key×Value)} (z:kvs.length<=sizeLine) (hd:(a==sysModules)=false) (rel:KV kvs vs) (dd:h'.DictOf (bO P w) a vs):
 bJ P w H' h' a (.dK kvs):=⟨z,hd,vs,rel,dd⟩
theorem Ew {H':Hp} {Q:Unit->Shared->Prop} (hu:A.units+1<cLine) (I:Inv X pins σ H s) (g:vq H a y v H') (ry:RelV y u) (rv:RelV v r) (h:∀s',Inv X pins σ H' s'->Q () s'):
 wpAny (model X.prog X.w) A (setItem (.ref a) u r) Q E s:=by
 rcases g with ⟨kvs,k,e,ey,l,eH⟩|⟨kvs,k,b,e,ey,eb,l,eH⟩
 ·subst ey eH
  obtain ⟨z,hd,vs,rel,dd⟩:=Ja I.hok e;have hz:vs.length<=sizeLine:=by rw [←rel.length];exact z
  have hl:(putK kvs k v).length<=sizeLine:=by have:=gF kvs k v;omega
  refine wpAny_setItem_pairs (hsz:=hz) (sZ ry) dd fun h' QJ hs=>h _ ?_;have he:∃q,h'.get? a=some q:=let ⟨q,_,_,hq,_⟩:=QJ;⟨q,hq⟩
  exact u0 I (by rw [e];exact True.intro) hs he (Jb hl hd (rel.put k rv) QJ)
 ·subst ey eH
  cases (show u=Value.ref b from ry);obtain ⟨z,hd,xs,rel,dd⟩:=T6 I.hok e;have hz:xs.length<=sizeLine:=by rw [←Paired.length rel];exact z
  have hl:(putK kvs k v).length<=sizeLine:=by have:=gF kvs k v;omega
  refine wpAny_setItem_heap (hsz:=hz) (tupleKind_room_in1 hu) (qG I.hok eb) dd fun h' QJ hs=>h _ ?_;obtain ⟨q,es,ep,hq,h2,h3,h4,_,h5⟩:=QJ;refine u0 I (by rw [e];exact True.intro) hs ⟨q,hq⟩ ⟨hl,hd,_,(rel.put k eb rv).keeps fun c ys ec=> ?_,q,es,ep,hq,h2,h3,h4,h5⟩;rw [aP (iY ec e (fun z=>nomatch z))];exact ec
end
section
variable {X:Cx} {pins:List (Addr×Obj)} {σ:St} {H:Hp} {s:Shared} {a:Addr} {kvs:List (Key×V)} {k:Key} {u:Value} {A:Around} {E:Value->Shared->Prop}
end
def UG (i:Expr):Prop:=∀ov iv,subscripted i false ov iv=operate [ov,iv] (getItem ov iv)
theorem J1 {prog:Program} {w:World} {A:Around} {E:Value->Shared->Prop} {s:Shared} {env:Env} {value slice:Expr} {pos:Pos} {T id:String} {Q:Value->Shared->Prop}
 (hl:typeLookup (.type T) "__getitem__" = pure (some (.builtin id))) (hs:UG slice)
 (h:wpAny (model prog w) A (eval value env) (fun o s₁=>wpAny (model prog w) A (eval slice env) (fun i s₂=>s₂.TypeIs o T/\wpAny (model prog w) A (getItem o i) Q E s₂) E s₁) E s):
 wpAny (model prog w) A (eval (.Subscript value slice pos) env) Q E s:=by
 refine Subscript_ (wpAny_mono h (fun o s₁ h₁=>wpAny_mono h₁ (fun i s₂ h₂=> ?_) fun _ _ x=>x) fun _ _ x=>x);obtain ⟨hT,h₂⟩:=h₂;unfold subscriptTail;refine wpAny_bind ?_;rw [getitemInPython_of_ne hT.not_modules];refine wpAny_bind (wpAny_specialOf hT hl ?_)
 have fin:wpAny (model prog w) A (subscripted slice false o i) (fun r s₃=>wpAny (model prog w) A (letTemporaryGo value o r >>= fun _=>pure r) Q E s₃) E s₂:=by
  rw [hs o i];exact wpAny_operating (wpAny_mono h₂ (fun r s₃ h₃=>wpAny_bind (wpAny_letTemporaryGo (wpAny_pure h₃))) fun _ _ x=>x)
 first
  | exact wpAny_pure (wpAny_bind fin)
  | exact wpAny_bind (wpAny_pure (wpAny_bind fin))
  | exact wpAny_bind fin
theorem xO {X:Cx} {pins:List (Addr×Obj)} {σ:St} {H:Hp} {s:Shared} {a:Addr} {y:V} {o:Option V} (I:Inv X pins σ H s) (g:jh H a y o):s.TypeIs (.ref a) "dict" :=by
 rcases g with ⟨kvs,k,e,_,_⟩|⟨kvs,k,b,e,_,_,_⟩
 ·obtain ⟨_,_,vs,_,dd⟩:=tK I.hok e
  exact dd.typeIs
 ·obtain ⟨_,_,xs,_,dd⟩:=tH I.hok e
  exact dd.typeIs
def RB (td ty:TE):TE:=fun σ H Q=>td σ H fun x H1=>ty σ H1 fun y H2=>∃a v,x = .ref a/\jh H2 a y (some v)/\Q v H2
def JZ (ty td:TE):TE:=fun σ H Q=>ty σ H fun y H1=>td σ H1 fun x H2=>∃a o,x = .ref a/\jh H2 a y o/\Q (.bl (!o.isSome)) H2
def RM (td ty tv:TE):TS:=fun D σ H=>tv σ H fun v H1=>td σ H1 fun x H2=>ty σ H2 fun y H3=>∃a H4,x = .ref a/\vq H3 a y v H4/\D.nx σ H4
section
variable {X:Cx} {o i e value:Expr} {pos pos' tpos:Pos} {td ty tv:TE}
theorem jM (hu:X.A.units+1<cLine) (ho:PE X o td) (hi:PE X i ty) (hs:UG i):PE X (.Subscript o i pos) (RB td ty):=by
 intro pins s σ H Q I h;refine J1 PySem.F.slot_dict_getitem.lookup hs (cC (ho pins s σ H _ I h) fun u s1 ⟨x,H1,I1,rx,q1⟩=>cC (hi pins s1 σ H1 _ I1 q1) fun iv s2 ⟨y,H2,I2,ry,a,v,ex,g,q2⟩=> ?_);subst ex;obtain rfl:u=Value.ref a:=rx;exact ⟨xO I2 g,Ey hu I2 g ry fun w' s3 I3 rw'=>⟨v,H2,I3,rw',q2⟩⟩
theorem sU (hu:X.A.units+1<cLine) (hi:PE X i ty) (ho:PE X o td):PC X .NotIn i o (JZ ty td):=by
 intro pins s σ H Q I h;refine cC (hi pins s σ H _ I h) fun iv s1 ⟨y,H1,I1,ry,q1⟩=>cC (ho pins s1 σ H1 _ I1 q1) fun u s2 ⟨x,H2,I2,rx,a,ov,ex,g,q2⟩=> ?_;subst ex;obtain rfl:u=Value.ref a:=rx;exact LQ hu I2 g ry fun s3 I3=>⟨.bl (!ov.isSome),H2,I3,rfl,q2⟩
theorem uG (hu:X.A.units+1<cLine) (ho:PE X o td) (hi:PE X i ty) (hv:PE X value tv) (hs:swapsWith value (some (.Subscript o i pos')) pos.line X.env=pure false):
 PS X (.Assign [.Subscript o i pos'] value pos) (RM td ty tv):=by
 intro pins s σ H D I h;refine wpAny_Assign_Subscript (cC (hv pins s σ H _ I h) fun r s1 ⟨v,H1,I1,rv,q1⟩=>cC (ho pins s1 σ H1 _ I1 q1) fun u s2 ⟨x,H2,I2,rx,q2⟩=>cC (hi pins s2 σ H2 _ I2 q2) fun iv s3 ⟨y,H3,I3,ry,a,H4,ex,g,q3⟩=> ?_) hs;subst ex;obtain rfl:u=Value.ref a:=rx;exact Ew hu I3 g ry rv fun s4 I4=>⟨σ,H4,I4,q3⟩
end
theorem xM {P:Program} {w:World} {H:Hp} (h:Heap) (hb:sysModules<h.objs.size):bJ P w H (h.push {cls:= .type "dict",data:= .dict #[]}) h.objs.size (.dK []):=
 ⟨Nat.zero_le _,beq_eq_false_iff_ne.mpr (Ne.symm (Nat.ne_of_lt hb)),[],.nil,Heap.DictOf.new h⟩
theorem I_ {P:Program} {w:World} {H:Hp} (h:Heap) (hb:sysModules<h.objs.size):bJ P w H (h.push {cls:= .type "dict",data:= .dict #[]}) h.objs.size (.dT []):=
 ⟨Nat.zero_le _,beq_eq_false_iff_ne.mpr (Ne.symm (Nat.ne_of_lt hb)),[],.nil,_, #[],0,Heap.get?_push_size _ rfl,⟨rfl,rfl,rfl⟩,rfl,rfl,List.nodup_nil⟩
def Oe:TE:=fun _ H Q=>∀p,H p=none->Q (.ref p) (upd H p (.dK []))
def Od:TE:=fun _ H Q=>∀p,H p=none->Q (.ref p) (upd H p (.dT []))
section
variable {X:Cx} {pos:Pos}
theorem wA:PE X (.Dict [] [] pos) Oe:=fun pins s σ H Q I h=>
 wpAny_Dict_empty ⟨.ref s.heap.objs.size,_,I.laid (a:=s.heap.objs.size) (o:= .dK []) (t':=s.toks) (fun _ _ q=>Heap.get?_push_of_some _ q) (Nat.le_refl _) (xM s.heap I.big),rfl,h _ (I.hok.fresh (Nat.le_refl _))⟩
theorem Hh:PE X (.Dict [] [] pos) Od:=fun pins s σ H Q I h=>
 wpAny_Dict_empty ⟨.ref s.heap.objs.size,_,I.laid (a:=s.heap.objs.size) (o:= .dT []) (t':=s.toks) (fun _ _ q=>Heap.get?_push_of_some _ q) (Nat.le_refl _) (I_ s.heap I.big),rfl,h _ (I.hok.fresh (Nat.le_refl _))⟩
end
def yU:List (TE×TE)->St->Hp->(List (V×V)->Hp->Prop)->Prop
 | [],_,H,Q=>Q [] H
 | (tk,tv)::r,σ,H,Q=>tk σ H fun x H1=>tv σ H1 fun y H2=>yU r σ H2 fun ps H3=>Q ((x,y)::ps) H3
abbrev VV:List (V×V)->List (Value×Value)->Prop:=Paired fun p q=>RelV p.1 q.1/\RelV p.2 q.2
def V2 (X:Cx) (pos:Pos) (keys:List (Option Expr)) (values:List Expr) (JV:List (TE×TE)):Prop:=
 ∀(pins:List (Addr×Obj)) (s:Shared) (σ:St) (H:Hp) (Q:List (V×V)->Hp->Prop),Inv X pins σ H s->yU JV σ H Q ->
  wpAny (model X.prog X.w) X.A (evalPairs (pairTrees keys values X.env pos)) (fun vs s'=>∃ps H',Inv X pins σ H' s'/\VV ps vs/\Q ps H') X.xe s
theorem Bq {X:Cx} {pos:Pos}:V2 X pos [] [] []:=fun pins s σ H Q I h=>pairTrees_nil_walk ⟨[],H,I,.nil,h⟩
theorem wu {X:Cx} {pos:Pos} {k v:Expr} {ks:List (Option Expr)} {vs:List Expr} {tk tv:TE} {JV:List (TE×TE)} (hk:PE X k tk) (hv:PE X v tv) (hr:V2 X pos ks vs JV):
 V2 X pos (some k::ks) (v::vs) ((tk,tv)::JV):=fun pins s σ H Q I h=>
 pairTrees_cons_walk (cC (hk pins s σ H _ I h) fun u s1 ⟨x,H1,I1,rx,q1⟩=>cC (hv pins s1 σ H1 _ I1 q1) fun w2 s2 ⟨y,H2,I2,ry,q2⟩=>
  cC (hr pins s2 σ H2 _ I2 q2) fun ws s3 ⟨ps,H3,I3,rel,q3⟩=>⟨(x,y)::ps,H3,I3,.cons ⟨rx,ry⟩ rel,q3⟩)
def lQ (kvs more:List (Key×V)):List (Key×V):=more.foldl (fun acc kv=>putK acc kv.1 kv.2) kvs
theorem KV.merge:∀{more:List (Key×V)} {rs:List (Key×Value)} {kvs:List (Key×V)} {vs:List (Key×Value)},KV more rs->KV kvs vs->KV (lQ kvs more) (merged vs rs):=by
 intro more rs kvs vs r;unfold KV at r
 induction r generalizing kvs vs with
 | nil=>intro q;exact q
 | @cons p q ps qs h t ih=>
   intro r0
   have e:KV (putK kvs p.1 p.2) (stored vs q.1 q.2):=by
    have:=r0.put p.1 h.2;rw [←h.1];exact this
   exact ih e
theorem lK:∀(more kvs:List (Key×V)),(lQ kvs more).length<=kvs.length+more.length
 | [],kvs=>by show kvs.length<=kvs.length+0;omega
 | p::r,kvs=>by
   have h1:=lK r (putK kvs p.1 p.2);have h2:=gF kvs p.1 p.2;show (lQ (putK kvs p.1 p.2) r).length<=_;rw [List.length_cons];omega
theorem qX {P:Program} {w:World}:∀{kvs:List (Key×V)} {ws:List (Value×Value)},VV (kvs.map fun kv=>(kV kv.1,kv.2)) ws -> ∃rs,Carries (bO P w) ws rs/\KV kvs rs
 | [],_,r=>by rw [List.map_nil] at r;cases r;exact ⟨[],True.intro,.nil⟩
 | p::kvs,_,r=>by
   rw [List.map_cons] at r;cases r with
   | @cons a b as bs h t=>
     obtain ⟨rs,c,q⟩:=qX (P:=P) (w:=w) t;obtain ⟨b1,b2⟩:=b;exact ⟨(p.1,b2)::rs,⟨sZ h.1,rfl,c⟩,.cons ⟨rfl,h.2⟩ q⟩
def Rz (JV:List (TE×TE)):TE:=fun σ H Q=>∀p,H p=none->yU JV σ (upd H p (.dK [])) fun ps H2=>H2 p=some (.dK []) /\ ∃kvs:List (Key×V),ps=kvs.map (fun kv=>(kV kv.1,kv.2))/\kvs.length<=15/\Q (.ref p) (upd H2 p (.dK (lQ [] kvs)))
theorem Bw {X:Cx} {pos:Pos} {keys:List (Option Expr)} {values:List Expr} {JV:List (TE×TE)} (h:V2 X pos keys values JV) (hall:keys.all (·.isSome)=true) (hl:keys.length=values.length) (h0:keys≠[])
 (h15:keys.length<=15):PE X (.Dict keys values pos) (Rz JV):=by
 intro pins s σ H Q I q;have hn:=I.hok.fresh (Nat.le_refl s.heap.objs.size);have I1:=I.laid (a:=s.heap.objs.size) (o:= .dK []) (h':=s.heap.push {cls:= .type "dict",data:= .dict #[]}) (t':=s.toks) (fun _ _ q=>Heap.get?_push_of_some _ q) (Nat.le_refl _) (xM s.heap I.big);refine wpAny_Dict_walk (knd:=bO X.prog X.w) hall hl h0 h15 (cC (h pins _ σ _ _ I1 (q _ hn)) fun ws s2 ⟨ps,H2,I2,rel,e,kvs,ep,lk,q2⟩=> ?_);subst ep;obtain ⟨rs,c,rk⟩:=qX (P:=X.prog) (w:=X.w) rel;obtain ⟨z,hd,vs0,r0,dd⟩:=Ja I2.hok e;cases r0;refine ⟨rs,c,dd,fun h' QJ hs=>⟨.ref s.heap.objs.size,_, ?_,rfl,q2⟩⟩
 have hz:(lQ [] kvs).length<=sizeLine:=by
  have h1:=lK kvs [];rw [List.length_nil] at h1;rw [sizeLine_eq];omega
 have he:∃q,h'.get? s.heap.objs.size=some q:=let ⟨q,_,_,hq,_⟩:=QJ;⟨q,hq⟩
 exact u0 I2 (by rw [e];exact True.intro) hs he (Jb hz hd (rk.merge .nil) QJ)
structure M2 (X:Cx) (o:Expr) (m:Str) (apos:Pos) (e f:Expr) (cpos:Pos):Prop where
 base:attributeBase o m X.env (eval o X.env)=eval o X.env
 few:((backTo cpos (starEach [e,f] X.env)).all (fun x=> !x.1)&&(backToKw cpos (keywordEach [] X.env)).all (fun x=>x.1.isSome)
  && decide (([e,f]:List Expr).length+([]:List Keyword).length+(if ([]:List Keyword).isEmpty then 0 else 1)<30))=true
 line:(apos.endLine==cpos.line)=true
 trees:backTo cpos (starEach [e,f] X.env)=[(false,eval e X.env),(false,eval f X.env)]
def IsD (H:Hp) (a:Addr):Prop:=(∃kvs,Rd H a (.dK kvs)) \/ ∃kvs,Rd H a (.dT kvs)
theorem Ql {X:Cx} {pins:List (Addr×Obj)} {σ:St} {H:Hp} {s:Shared} {a:Addr} (I:Inv X pins σ H s) (d:IsD H a):
 s.TypeIs (.ref a) "dict" /\ (∀b,Value.ref a = .ref b -> ∃ob,s.heap.get? b=some ob/\ob.dict=none)/\(a==sysModules)=false:=by
 rcases d with ⟨kvs,e⟩|⟨kvs,e⟩
 ·obtain ⟨_,hd,vs,_,dd⟩:=tK I.hok e
  refine ⟨dd.typeIs,fun b q=> ?_,hd⟩;cases q;obtain ⟨ob,_,_,h1,h2,_⟩:=dd;exact ⟨ob,h1,h2.2.1⟩
 ·obtain ⟨_,hd,xs,_,dd⟩:=tH I.hok e
  refine ⟨dd.typeIs,fun b q=> ?_,hd⟩;cases q;obtain ⟨ob,_,_,h1,h2,_⟩:=dd;exact ⟨ob,h1,h2.2.1⟩
section
variable {X:Cx} {pins:List (Addr×Obj)} {σ:St} {H:Hp} {s:Shared} {a:Addr} {y d:V} {u r:Value} {o:Option V} {A:Around} {E:Value->Shared->Prop}
theorem QK {Q:Value->Shared->Prop} (hu:A.units+1<cLine) (I:Inv X pins σ H s) (g:jh H a y o) (ry:RelV y u) (rd:RelV d r) (h:∀w' s',Inv X pins σ H s'->RelV (o.getD d) w'->Q w' s'):
 wpAny (model X.prog X.w) A (call (.builtin "dict.get") [.ref a,u,r]) Q E s:=by
 rcases g with ⟨kvs,k,e,ey,l⟩|⟨kvs,k,b,e,ey,eb,l⟩
 ·subst ey
  obtain ⟨z,hd,vs,rel,dd⟩:=tK I.hok e;refine call_meetsIn PySem.F.slot_dict_get dd.typeIs PySem.F.entry_dict_get (PySem.F.args_dict_get_3 _ _ _) (meets_dict_get_default (bO X.prog X.w) a (sZ ry) hd r) ⟨_,dd.mapOf,h _ _ (I.tok _) ?_⟩;rw [l];exact (rel.val k).getD rd
 ·subst ey
  cases (show u=Value.ref b from ry);obtain ⟨z,hd,xs,rel,dd⟩:=tH I.hok e;refine call_meetsIn PySem.F.slot_dict_get dd.typeIs PySem.F.entry_dict_get (PySem.F.args_dict_get_3 _ _ _) (meetsH_dict_get_default (tupleKind (bO X.prog X.w)) a b hd r) ⟨tupleKind_room_in1 hu,k,xs,qG I.hok eb,dd,h _ _ (I.tok _) ?_⟩;rw [l];exact (rel.val k).getD rd
end
def Og (td ty tx:TE):TE:=fun σ H Q=>td σ H fun x H1=>∃a,x = .ref a/\IsD H1 a/\ty σ H1 fun y H2=>tx σ H2 fun z H3=>∃o,jh H3 a y o/\Q (o.getD z) H3
section
variable {X:Cx} {o e f:Expr} {apos cpos:Pos} {td ty tx:TE}
theorem qw (hu:X.A.units+1<cLine) (ho:PE X o td) (he:PE X e ty) (hf:PE X f tx) (m:M2 X o "get" apos e f cpos):PE X (.Call (.Attribute o "get" apos) [e,f] [] cpos) (Og td ty tx):=by
 intro pins s σ H Q I h;refine wpAny_Call_method m.base m.few m.line PySem.F.plainAttrs_dict PySem.F.slot_dict_get PySem.F.type_dict_get (cC (ho pins s σ H _ I h) fun u s1 ⟨x,H1,I1,rx,a,ex,d,q1⟩=> ?_);subst ex;obtain rfl:u=Value.ref a:=rx;obtain ⟨t1,t2,_⟩:=Ql I1 d;refine ⟨t1,t2, ?_⟩;rw [m.trees]
 refine Calls.callWith_builtin rfl (Calls.evalArgs_plain (Calls.spliced_cons (cC (he pins s1 σ H1 _ I1 q1) fun iv s2 ⟨y,H2,I2,ry,q2⟩=>
  Calls.spliced_cons (cC (hf pins s2 σ H2 _ I2 q2) fun fv s3 ⟨z,H3,I3,rz,ov,g,q3⟩=>Calls.spliced_nil ?_))))
 exact QK hu I3 g ry rz fun w' s4 I4 rw'=>⟨_,H3,I4,rw',q3⟩
end
section
variable {X:Cx} {pins:List (Addr×Obj)} {σ:St} {H:Hp} {s:Shared} {a:Addr} {kvs:List (Key×V)} {A:Around} {E:Value->Shared->Prop}
end
section
variable {X:Cx} {pins:List (Addr×Obj)} {σ:St} {H:Hp} {s:Shared} {a:Addr} {y:V} {u:Value} {A:Around} {E:Value->Shared->Prop}
end
end L2
namespace Att
open PySem PySem.W PySem.Calls PyProof.Rows
theorem oY {P:Params} {h:Heap}:∀(ns:List Int) (vs:List Value),WellAll P h vs (ns.map WData.int)->IntsAre vs ns:=by
 intro ns
 induction ns with
 | nil=>
   intro vs w;rw [List.map_nil] at w;cases w;exact .nil
 | cons n ns ih=>
   intro vs w;rw [List.map_cons] at w;cases w with
   | cons a b=>
     cases a;exact .cons _ _ (ih _ b)
theorem Dv {l:OpenLaw} {n:Nat} (hn:l.most=some n) {P:Params} {h:Heap} {args:List WData} {vals:List Value}
 (hpre:l.row.toRowW.claim.pre args=true) (hwl:WellAll P h vals args):
 ∃a vs ns,vals=[Value.ref a]/\args=[WData.list (ns.map WData.int)]/\h.get? a=some {cls:= .type "list",data:= .seq vs.toArray}/\IntsAre vs ns/\ns.length<=n:=by
 have hsh:WShape.hasAll [] args [.list .int]=true:=(pre_splitW hpre).1;have hc:l.pre.holds [] {args:=args}=true:=(pre_splitW hpre).2;obtain ⟨d,r,rfl,h1,h2⟩:=hasAllW_cons hsh;obtain rfl:=hasAllW_nil h2;obtain ⟨xs,rfl,h3⟩:=hasW_list h1;obtain ⟨ns,rfl⟩:=items_int h3
 have hlen:ns.length<=n:=by
  unfold OpenLaw.pre at hc
  have h4:(WTm.not (.lt (.lit (.int (n:Int))) (.len (.arg 0)))).holds [] {args:=[.list (ns.map .int)]}=true:=by
   have h4:=(holds_andW hc).1;rw [hn] at h4;exact h4
  have h5:=condW_of h4 (w_not (w_lt w_lit (w_len_list (w_arg rfl))));rw [List.length_map] at h5;refine Nat.le_of_not_lt fun q=> ?_;have q':(n:Int)<((ns.length:Nat):Int):=by omega
  first
   | (rw [decide_eq_true q'] at h5;exact absurd h5 (by decide))
   | (simp at h5;omega)
 cases hwl with
 | cons w1 w2=>
   cases w2;cases w1 with
   | list ho hall=>exact ⟨_,_,ns,rfl,rfl,ho,oY ns _ hall,hlen⟩
theorem DN (l:OpenLaw) (args:List WData):l.row.toRowW.claim.post args (.bool true) args=true:=
 postW_of (r:=l.row.toRowW) (X:=(true==true))
  (show WShape.has [] (.bool true) .bool=true by first |rfl|decide|simp [WShape.has,WShape.arms,WShape.armsAll])
  (show (WTm.eq .res (.lit (.bool true))).value [] {args:=args,res:=some (.bool true),after:=args}=some (.bool (true==true)) from w_eq_bool (w_res rfl) w_lit) rfl
theorem yt {l:OpenLaw} {n:Nat} {q:Program} {loose:List Str} {XP:(Str->Option Value)->Heap->Prop} {YP:World->Heap->Prop} {d:DefRec}
 (hn:l.most=some n) (hdf:d.params.defaults=[])
 (call:∀(w:World) (s₀ s₁:Shared) (mg mb:Str->Option Value) (fa:Addr) (o:Obj) (pm cd doc:Value) (a:Addr) (vs:List Value) (ns:List Int),
   Ground q loose [] XP w s₀ mg mb s₁.heap->YP w s₁.heap ->
   s₁.heap.get? fa=some o->o.data = .func (docDef d.name d.params d.body d.scope pm cd doc)->s₁.heap.CodeRec cd d.name->mg d.name=some (.ref fa) ->
   s₁.heap.get? a=some {cls:= .type "list",data:= .seq vs.toArray}->IntsAre vs ns->ns.length<=n->s₁.gens = #[] ->
   codeAny (model l.prog w) callerA (.call (.ref fa) ⟨[.ref a],[]⟩) (fun r s'=>r = .ok (.ret (.bool true))/\OldK s₁.heap s'.heap/\s'.os=s₁.os/\AllBare s'.gens) s₁):
 WalkO q loose XP YP l.row.toRowW d [] (fun f vs=>PySem.call f vs):=by
 intro w s₀ s₁ mg mb G Y fa o pm cd doc dV kV ho hd hcd hD hmg hg args vals as hpre hlay hrd hwl hlo;obtain rfl:dV = .none:=Dflts.none hD hdf;obtain rfl:kV = .none:=Dflts.noKw hD;obtain ⟨a,vs,ns,rfl,rfl,hobj,hints,hlen⟩:=Dv hn hpre hwl;refine enter_call (codeAny_mono (call w s₀ s₁ mg mb fa o pm cd doc a vs ns G Y ho (fd_plain hd) hcd hmg hobj hints hlen hg) fun r s' hq=> ?_);obtain ⟨rfl,h2,h3,h4⟩:=hq;exact ⟨.inl ⟨.bool true,.bool true,[],rfl,fun _=>rfl,.bool true,DN l _,fun _=>⟨List.Pairwise.nil,fun _ hm=>(nomatch hm)⟩⟩,h2,h3,h4⟩
section
variable {prog:Program} {w:World} {A:Around} {E:Value->Shared->Prop} {s:Shared} {K:Frag}
def ledger (h:Heap) (L d:Addr):List (Addr×Obj):=(List.range h.objs.size).filterMap fun a=>if a=L\/a=d then none else (h.get? a).map fun o=>(a,o)
end
end Att
namespace L2
open PySem PySem.Spec PyProof.Rows
theorem Dj {vs:List Value} {ns:List Int} (h:IntsAre vs ns):Vals (ns.map V.int) vs:=by
 induction h with
 | nil=>exact .nil
 | cons n t h ih=>exact .cons ⟨t,rfl⟩ ih
def Only (H:Hp):Prop:=∀b,H b=none \/ ∃o xs,H b=some (.gK o (.lst xs))
theorem Ib {P:Program} {w:World} {K:PySem.W.Frag} {mg mb:Str->Option Value} {CX:JF} {k:Nat} {fa a:Addr} {fd:FuncData} {x:Str} {sp:Sp} {s₁:Shared} {vs:List Value} {ns:List Int}
 (KX:K.In s₁.heap) (hns:s₁.heap.Ns mainGlobals mg) (hb:s₁.heap.Ns builtinsNs mb) (hbb:∀x:Str,x ≠ "__name__" -> mb x=bootBuiltins x) (hlim:s₁.heap.NoLimit) (hg:s₁.gens = #[])
 (ha:s₁.heap.get? a=some {cls:= .type "list",data:= .seq vs.toArray}) (hi:IntsAre vs ns) (hl:ns.length<=sizeLine) (hr:jg k callerA)
 (F:∀base:Heap,K.In base->base.Ns mainGlobals mg->dR P w K mg base CX k fa fd [x] sp) (hbind:∀(s:Shared) (u:Value),BindsTo s fd ⟨[u],[]⟩ [(x,u)])
 (hsp:∀H:Hp,Only H->bf K H a (ns.map V.int)->sp [.ref a] H (fun v _=>v = .bl true) fun _ _ _=>False)
 (ZC:∀H e s',CX [] H s₁ (fun _ _ _=>False) e s'->False):
 codeAny (model P w) callerA (.call (.ref fa) ⟨[.ref a],[]⟩) (fun r s'=>r = .ok (.ret (.bool true))/\OldK s₁.heap s'.heap/\s'.os=s₁.os/\AllBare s'.gens) s₁:=by
 have rv:=Dj hi;have lenV:=hi.length
 have core:∀H:Hp,Only H->bf K H a (ns.map V.int)->lB P w H s₁.heap->(∀b,H b≠none->b=a)->(H a≠none->K.lookup a=none) ->
  codeAny (model P w) callerA (.call (.ref fa) ⟨[.ref a],[]⟩) (fun r s'=>r = .ok (.ret (.bool true))/\OldK s₁.heap s'.heap/\s'.os=s₁.os/\AllBare s'.gens) s₁:=by
  intro H hO hS hok hA hK;have CT:∀{b:Addr} {o:Obj},s₁.heap.get? b=some o->H b=none->(uX s₁.heap H).get? b=some o:=fun e n=>Iv e n
  have Sq:∀{b:Addr} {o:Obj} {es:Array DictEntry} {ep:Nat},s₁.heap.get? b=some o->o.data = .dict es ep->H b=none:=fun {b o es ep} e d=>by
   cases q:H b with
   | none=>rfl
   | some u=>
     have e':b=a:=hA b (by rw [q];simp);subst e';rw [ha] at e;cases e;have d':Data.seq vs.toArray _=Data.dict es ep:=d;cases d'
  have Vf:∀{b:Addr} {m:Str->Option Value},s₁.heap.Ns b m->(uX s₁.heap H).Ns b m:=fun {b m} ⟨o,es,ep,e,d,r⟩=>⟨o,es,ep,CT e (Sq e d),d,r⟩
  have hKb:K.In (uX s₁.heap H):=fun b o e=>CT (KX b o e) (by
   cases q:H b with
   | none=>rfl
   | some u=>
     have e':b=a:=hA b (by rw [q];simp);subst e';rw [hK (by rw [q];simp)] at e;cases e)
  have hM:Mod K mg (uX s₁.heap H):=⟨hKb,Vf hns,⟨mb,Vf hb,hbb⟩,let ⟨mc,h1,h2⟩:=hlim;⟨mc,Vf h1,h2⟩⟩;have e0:Mt P w K mg (uX s₁.heap H) callerA [] s₁ H:=⟨rfl,hM,fun b o e=>KR e,Nat.le_of_eq (Et _ _),trivial,fun b hb=>absurd (show b∈([]:List Addr) from hb) (by simp),hok,.of_eq hg⟩;refine codeAny_mono ((F _ hKb (Vf hns)).run callerA [] s₁ H ⟨[.ref a],[]⟩ [.ref a] [.ref a] _ _ hr e0 (hbind s₁ (.ref a)) (.cons rfl .nil) (hsp H hO hS)) fun r s' h=> ?_;cases r with
  | error e=>exact (ZC H e s' h).elim
  | ok fl=>
    cases fl with
    | next=>exact False.elim h
    | brk=>exact False.elim h
    | cont=>exact False.elim h
    | ret u=>
      obtain ⟨v,H',os,bare,un,hok',r',q⟩:=h;have q':v = .bl true:=q;subst q';obtain rfl:u=Value.bool true:=r';refine ⟨rfl,OldK.of_keep fun b o e=> ?_,os,bare⟩;cases q:H b with
      | none=>exact un.keep b o e q (by intro z;exact absurd (show b∈([]:List Addr) from z) (by simp)) (by simp)
      | some u=>
        rcases hO b with z|⟨ob,xs,z⟩
        ·rw [q] at z;cases z
        ·have z2:=un.mU b ob _ z
         obtain ⟨e1,_⟩:=hok b _ z;obtain ⟨e2,_⟩:=hok' b _ z2;rw [e] at e1;cases e1;exact e2
 cases hk:K.lookup a with
 | some o=>
   have e:=KX a o hk;rw [ha] at e;cases e;refine core (fun _=>none) (fun _=> .inl rfl) (.inr ⟨_,vs.toArray,_,hk,rfl,rfl,rfl,by rw [List.size_toArray,lenV];exact hl,by simpa using rv⟩) (fun b u z=>by have z':(none:Option HO)=some u:=z;cases z') (fun b z=>absurd rfl z) fun z=>absurd rfl z
 | none=>
   refine core (fun b=>if b=a then some (.gK {cls:= .type "list",data:= .seq vs.toArray} (.lst (ns.map V.int))) else none) (fun b=> ?_) (.inl (.inr ⟨{cls:= .type "list",data:= .seq vs.toArray},if_pos rfl⟩)) (fun b u z=> ?_) (fun b z=> ?_) fun _=>hk
   ·by_cases hb:b=a
    ·exact .inr ⟨_,_,if_pos hb⟩
    ·exact .inl (if_neg hb)
   ·by_cases hb:b=a
    ·have z':=(if_pos hb).symm.trans z
     cases z';subst hb;exact ⟨ha,by rw [List.length_map];exact hl,vs,_,rv,ha⟩
    ·have z':=(if_neg hb).symm.trans z
     cases z'
   ·by_cases hb:b=a
    ·exact hb
    ·exact absurd (if_neg hb) z
end L2
namespace L2
open PySem PySem.Spec PyProof.Rows
abbrev KOf {K:PySem.W.Frag} {h:Heap} (_:K.In h):PySem.W.Frag:=K
theorem JT {l:PySem.W.OpenLaw} {n k:Nat} {q:Program} {loose:List Str} {XP:(Str->Option Value)->Heap->Prop} {YP:World->Heap->Prop} {d:DefRec} {K:Params->PySem.W.Frag} {CX:World->JF} {sp:World->Sp} {x:Str}
 (hn:l.most=some n) (hn2:n<=sizeLine) (hdf:d.params.defaults=[]) (hr:jg k callerA)
 (hY:∀(w:World) (h:Heap),YP w h->(K w.params).In h)
 (F:∀(w:World) (mg:Str->Option Value) (fa:Addr) (h:Heap),(K w.params).In h->h.Ns mainGlobals mg->mg d.name=some (.ref fa) ->
   ∃fd:FuncData,(∀(s:Shared) (u:Value),BindsTo s fd ⟨[u],[]⟩ [(x,u)]) /\
    ∀base:Heap,(K w.params).In base->base.Ns mainGlobals mg->dR l.prog w (K w.params) mg base (CX w) k fa fd [x] (sp w))
 (hsp:∀(w:World) (H:Hp) (a:Addr) (ns:List Int),ns.length<=n->Only H->bf (K w.params) H a (ns.map V.int)->sp w [.ref a] H (fun v _=>v = .bl true) fun _ _ _=>False)
 (ZC:∀(w:World) (H:Hp) (s:Shared) (e:Value) (s':Shared),CX w [] H s (fun _ _ _=>False) e s'->False):
 PySem.W.WalkO q loose XP YP l.row.toRowW d [] (fun f vs=>PySem.call f vs):=by
 refine Att.yt hn hdf fun w s₀ s₁ mg mb fa o pm cd doc a vs ns G Y ho hd hcd hmg hobj hints hlen hg=> ?_;have KX:=hY w _ Y;obtain ⟨fd,hb,hF⟩:=F w mg fa _ KX G.T.g hmg;exact Ib KX G.T.g G.T.b G.T.builtins G.T.nolimit hg hobj hints (Nat.le_trans hlen hn2) hr hF hb (fun H hO hS=>hsp w H a ns hlen hO hS) fun H e s'=>ZC w H s₁ e s'
end L2
namespace L2
open PySem PySem.Spec PyProof.Rows
def inClass (s:Stmt) (j:Nat):Stmt:=match s with
 | .ClassDef _ _ _ body _ _ _ _ _ _ _=>body.getD j (.Pass ⟨0,0,0,0⟩)
 | _=> .Pass ⟨0,0,0,0⟩
def aH (s:Stmt):Arguments:=match s with
 | .FunctionDef _ a _ _ _ _ _ _ _ _=>a
 | _=>{posonlyargs:=[],args:=[],vararg:=none,kwonlyargs:=[],kw_defaults:=[],kwarg:=none,defaults:=[]}
def aG (s:Stmt):List Stmt:=match s with
 | .FunctionDef _ _ b _ _ _ _ _ _ _=>b
 | _=>[]
def aq (s:Stmt):Scope:=match s with
 | .FunctionDef _ _ _ _ _ _ sc _ _ _=>sc
 | _=>{kind:= .function,names:=[],isGenerator:=false,isCoroutine:=false}
abbrev lC:JF:=fun _ _ _ _ _ _=>False
abbrev E0:XK:=fun _ _ _=>False
theorem R4 {X:Cx}:Passes lC X E0:=fun _ _ _ _ _ _ _ h=>h.elim
structure lW (K:PySem.W.Frag) (x qual:Str) (st:Stmt) (f:Addr) (fd:FuncData):Prop where
 ex:∃(oc:Value) (od:Option Addr) (kV doc pm:Value) (an:Option Addr) (cdv ct:Value) (osl:Array (Option Value)),
  fd=PySem.W.fnOf x qual (aH st) (aG st) (aq st) .none kV doc pm an cdv ct/\K.lookup f=some ⟨oc,od,.func fd,osl⟩/\PySem.W.codeIn K cdv qual=true
 kp:PySem.W.keepIn K (.ref f)=true
section
variable {P:Program} {w:World} {K:PySem.W.Frag} {mg:Str->Option Value} {base:Heap}
theorem lW.ok {x qual:Str} {st:Stmt} {f:Addr} {fd:FuncData} {N ps:List Str} {k:Nat} {sp:Sp} (F:lW K x qual st f fd) (S:bx N ps (aq st)) (len:∀vs H Q E,sp vs H Q E->vs.length=ps.length)
 (hbody:∀(cdv:Value) (A:Around) (outer:List Env) (s:Shared) (H:Hp) (vs:List V) (Q:VK) (E:XK),jg k (A.deeper (envOfC qual (aq st) s.heap.objs.size f cdv))->sp vs H Q E ->
   ∃t,FT (Ez lC P w K mg base N qual (aq st) f cdv A outer s H E).Vg (aG st) t/\t {nx:=fun _ H'=>Q .non H',rt:=Q} (start N vs) H):dR P w K mg base lC (k+1) f fd ps sp:=by
 obtain ⟨oc,od,kV,doc,pm,an,cdv,ct,osl,rfl,lk,hcd⟩:=F.ex;refine TV lk hcd S len fun A outer s H vs Q E hr hsp=> ?_;obtain ⟨t,h,q⟩:=hbody cdv A outer s H vs Q E hr hsp;exact ⟨t,h.Vg,q⟩
theorem lW.binds {x qual:Str} {st:Stmt} {f:Addr} {fd:FuncData} {ps:List Str} (F:lW K x qual st f fd)
 (h:∀(kV doc pm:Value) (an:Option Addr) (cdv ct:Value) (us:List Value),us.length=ps.length->bindArgs (PySem.W.fnOf x qual (aH st) (aG st) (aq st) .none kV doc pm an cdv ct) ⟨us,[]⟩=pure (ps.zip us)):Binds K fd ps []:=by
 obtain ⟨oc,od,kV,doc,pm,an,cdv,ct,osl,rfl,lk,hcd⟩:=F.ex;exact .all (h kV doc pm an cdv ct)
theorem bR {x qual:Str} {st:Stmt} {f:Addr} {oc:Value} {od an:Option Addr} {osl:Array (Option Value)} {kV doc pm cdv ct:Value} (l:K.lookup f=some ⟨oc,od,.func (PySem.W.fnOf x qual (aH st) (aG st) (aq st) .none kV doc pm an cdv ct),osl⟩)
 (c:PySem.W.codeIn K cdv qual=true) (k:PySem.W.keepIn K (.ref f)=true):lW K x qual st f (PySem.W.fnOf x qual (aH st) (aG st) (aq st) .none kV doc pm an cdv ct):=⟨⟨oc,od,kV,doc,pm,an,cdv,ct,osl,rfl,l,c⟩,k⟩
end
theorem lM {A:Around} {k:Nat} (hr:jg k A):A.units+1<cLine:=Nat.lt_of_le_of_lt (Nat.add_le_add_left (by decide:1<=64) _) hr.units
theorem Ds {n:Nat} (h:n<=1000):n<sizeLine:=Nat.lt_of_le_of_lt h (by decide)
section
variable {X:Cx}
theorem pv (i:Nat) {x:Str} {pos:Pos} (hN:X.N[i]? = some x:=by rfl) (hv:Vis X.env.scope x:=by first |exact Or.inl rfl|exact Or.inr (Or.inl rfl)|exact Or.inr (Or.inr rfl)) (hd:(x==("__debug__" :Str))=false:=by decide)
 (hcd:(x==("__classdict__" :Str))=false:=by decide):PE X (.Name x pos) (iK i):=Pj hN hv hd hcd
end
theorem gG {A B:Prop} (h:B):if false=true then A else B:=by
 rw [if_neg Bool.false_ne_true];exact h
theorem fY {A B:Prop} (h:A):if true=true then A else B:=by
 rw [if_pos rfl];exact h
theorem Io {c A B:Prop} [Decidable c] (h1:c->A) (h2:¬c->B):if c then A else B:=by
 by_cases h:c
 ·rw [if_pos h]
  exact h1 h
 ·rw [if_neg h]
  exact h2 h
theorem mL {c A B:Prop} [Decidable c] (hc:c) (h:B):if (!decide c)=true then A else B:=by
 rw [decide_eq_true hc];exact gG h
def Same (H H':Hp):Prop:=∀b o,H b=some o->H' b=some o
theorem Same.refl (H:Hp):Same H H:=fun _ _ h=>h
theorem Same.trans {H H1 H2:Hp} (a:Same H H1) (b:Same H1 H2):Same H H2:=fun c o h=>b c o (a c o h)
theorem Same.free {H H':Hp} (e:Same H H') {l:Addr} (h:H' l=Option.none):H l=Option.none:=by
 cases q:H l with
 | none=>rfl
 | some o=>
   rw [e l o q] at h;cases h
theorem Same.seq {K:PySem.W.Frag} {H H':Hp} {a:Addr} {xs:List V} (e:Same H H') (h:bf K H a xs):bf K H' a xs:=by
 rcases h with (h|⟨o,h⟩)|h
 ·exact .inl (.inl (e _ _ h))
 ·exact .inl (.inr ⟨o,e _ _ h⟩)
 ·exact .inr h
section
variable {κ:Type} [DecidableEq κ]
end
end L2
set_option Elab.async false
set_option linter.all false
set_option maxRecDepth 100000
set_option maxHeartbeats 4000000
namespace L2
open PySem PySem.Spec PyProof.Rows
theorem iZ {a n:Addr} (h:a<n): @LT.lt Nat _ a n:=h
def iI (env:Env):List (Str×NameKind)->List (Str×Addr)->List (Str×Addr)
 | [],acc=>acc
 | (n,k)::r,acc=>if k == .free then iI env r ((n,(env.cells.lookup n).getD 0)::acc) else iI env r acc
theorem qU {env:Env} {scope:Scope} (h:∀y∈scope.names,y.2 = .free->(env.cells.lookup y.1).isSome=true):closureFor scope env=pure (iI env scope.names []):=by
 have go:∀(ns:List (Str×NameKind)) (acc:List (Str×Addr)),(∀y∈ns,y.2 = .free->(env.cells.lookup y.1).isSome=true) ->
  (forIn ns acc (fun x cs=>match x with |(name,kind)=>if (kind == .free)=true then do let c ←cellOf env name;pure (ForInStep.yield ((name,c)::cs)) else pure (ForInStep.yield cs)):Sem (List (Str×Addr)))=pure (iI env ns acc):=by
  intro ns
  induction ns with
  | nil=>intro acc _;rfl
  | cons y r ih=>
    intro acc hy;obtain ⟨n,k⟩:=y;rw [List.forIn_cons]
    by_cases hk:k = .free
    ·subst hk
     have hs:=hy (n,.free) List.mem_cons_self rfl;obtain ⟨c,hc⟩:=Option.isSome_iff_exists.mp hs;have e:cellOf env n=pure c:=by unfold cellOf;rw [hc]
     show _=pure (iI env r ((n,(env.cells.lookup n).getD 0)::acc));rw [←ih _ fun y hm=>hy y (List.mem_cons_of_mem _ hm)];simp only [beq_self_eq_true,if_true,e,pure_bind,hc,Option.getD_some]
    ·have hb:(k==NameKind.free)=false:=by simpa using hk
     have hc:iI env ((n,k)::r) acc=iI env r acc:=by
      show (if (k==NameKind.free)=true then _ else _)=_;rw [if_neg (by rw [hb];decide)]
     rw [hc,←ih _ fun y hm=>hy y (List.mem_cons_of_mem _ hm)];simp only [hb,Bool.false_eq_true,if_false,pure_bind]
 have q:=go scope.names [] h;unfold closureFor;show (forIn scope.names [] _ >>= fun r=>pure r)=_;rw [bind_pure];exact q
theorem cR {env:Env}:∀(ns:List (Str×NameKind)) (acc:List (Str×Addr)) (x:Str),(∀y∈ns,y.2 = .free->(env.cells.lookup y.1).isSome=true) ->
 (iI env ns acc).lookup x=if (x,NameKind.free)∈ns then env.cells.lookup x else acc.lookup x
 | [],acc,x,_=>by simp [iI]
 | (n,k)::r,acc,x,h=>by
   have hr:∀y∈r,y.2 = .free->(env.cells.lookup y.1).isSome=true:=fun y hm=>h y (List.mem_cons_of_mem _ hm)
   by_cases hk:k = .free
   ·subst hk
    show (iI env r ((n,(env.cells.lookup n).getD 0)::acc)).lookup x=_;rw [cR r _ x hr];obtain ⟨c,hc⟩:=Option.isSome_iff_exists.mp (h (n,.free) List.mem_cons_self rfl);have hc:env.cells.lookup n=some c:=hc
    by_cases hm:(x,NameKind.free)∈r
    ·rw [if_pos hm,if_pos (List.mem_cons_of_mem _ hm)]
    ·rw [if_neg hm]
     by_cases e:x=n
     ·subst e
      rw [if_pos List.mem_cons_self,List.lookup_cons,hc];simp
     ·rw [if_neg (fun z=>(List.mem_cons.mp z).elim (fun q=>e (congrArg Prod.fst q)) hm),List.lookup_cons]
      have:(x==n)=false:=by simpa using e
      rw [this]
   ·have hb:(k==NameKind.free)=false:=by simpa using hk
    have hc:iI env ((n,k)::r) acc=iI env r acc:=by
     show (if (k==NameKind.free)=true then _ else _)=_;rw [if_neg (by rw [hb];decide)]
    rw [hc,cR r acc x hr]
    have:((x,NameKind.free)∈(n,k)::r)↔(x,NameKind.free)∈r:=by
     constructor
     ·intro z
      rcases List.mem_cons.mp z with q|q
      ·exact absurd (congrArg Prod.snd q).symm hk
      ·exact q
     ·exact List.mem_cons_of_mem _
    simp only [this]
theorem dM (env:Env):∀(ns:List (Str×NameKind)) (x:Str),
 (ns.map fun (n,k)=>if (k == .free&&env.scope.kind == .function&&env.kindOf n==some .cell) then (n,NameKind.cell) else (n,k)).lookup x =
   (ns.lookup x).map fun k=>if (k == .free&&env.scope.kind == .function&&env.kindOf x==some .cell)=true then NameKind.cell else k
 | [],x=>rfl
 | (n,k)::r,x=>by
   show List.lookup x ((if (k==NameKind.free&&env.scope.kind == .function&&env.kindOf n==some .cell)=true then (n,NameKind.cell) else (n,k))::_)=_;cases hx:x==n with
   | true=>
     have e:x=n:=by simpa using hx
     subst e
     by_cases hc:(k==NameKind.free&&env.scope.kind == .function&&env.kindOf x==some .cell)=true
     ·rw [if_pos hc];simp only [List.lookup_cons,hx,Option.map_some,if_pos hc]
     ·rw [if_neg hc];simp only [List.lookup_cons,hx,Option.map_some,if_neg hc]
   | false=>
     have ih:=dM env r x
     by_cases hc:(k==NameKind.free&&env.scope.kind == .function&&env.kindOf n==some .cell)=true
     ·rw [if_pos hc];simp only [List.lookup_cons,hx];exact ih
     ·rw [if_neg hc];simp only [List.lookup_cons,hx];exact ih
structure aR (N own:List Str) (caps:List Nat) (XN:List Str) (outer scope:Scope):Prop where
 kind:scope.kind = .function
 HF:∀y∈scope.names,y.2 ≠ .cell
 names:∀y∈scope.names,y.2 = .local->scope.names.lookup y.1=some .local
 free:∀y∈scope.names,y.2 = .free->outer.names.lookup y.1=some .cell\/outer.names.lookup y.1=some .free
 nd:N.Nodup
 len:N.length=own.length+caps.length
 cap:∀(j:Nat),j<caps.length->N[own.length+j]? = XN[caps.getD j 0]? /\ ∃x,N[own.length+j]? = some x/\(x,NameKind.free)∈scope.names/\scope.names.lookup x=some .free
def st0 (own:List Str) (caps:List Nat) (σ:St):St:=own.map (fun _=>none)++caps.map (fun i=>(σ[i]?).join)
def dD (X:Cx) (scope:Scope) (C:Addr) (N:List Str) (s:Shared) (H:Hp) (fp:List Addr):Cx:=
 {X with N:=N,s₀:=s,H₀:=H,env:=compEnvC scope (iI X.env scope.names []) C X.env,outer:=X.stack,ex:=fp,fn:=fun _=>false,pn:=[],xe:=fun _ _=>False}
section
variable {X:Cx} {pins:List (Addr×Obj)} {σ:St} {H:Hp} {s:Shared} {scope:Scope} {N own:List Str} {caps:List Nat} {fp:List Addr} {C:Nat}
theorem aR.qQ (S:aR N own caps X.N X.env.scope scope) (ok:X.Ok):∀y∈scope.names,y.2 = .free->(X.env.cells.lookup y.1).isSome=true:=fun y hy hf=>by
 obtain ⟨c,e⟩:=ok.has y.1 (S.free y hy hf);rw [e];rfl
theorem aR.csub (S:aR N own caps X.N X.env.scope scope) (ok:X.Ok) {x:Str} {c:Addr} (h:(iI X.env scope.names []).lookup x=some c):X.env.cells.lookup x=some c:=by
 rw [cR _ _ _ (S.qQ ok)] at h;split at h
 ·exact h
 ·simp at h
theorem aR.qF {S:aR N own caps X.N X.env.scope scope} {x:Str} (h:(relabel scope X.env).names.lookup x=some .cell\/(relabel scope X.env).names.lookup x=some .free):(x,NameKind.free)∈scope.names:=by
 have e:=dM X.env scope.names x;have e':(relabel scope X.env).names.lookup x=(scope.names.lookup x).map fun k=>if (k == .free&&X.env.scope.kind == .function&&X.env.kindOf x==some .cell)=true then NameKind.cell else k:=e;rw [e'] at h;cases q:scope.names.lookup x with
 | none=>rw [q] at h;simp at h
 | some k=>
   have hm:=PySem.mem_of_lookup q
   by_cases hk:k = .free
   ·subst hk;exact hm
   ·rw [q] at h
    have hb:(k==NameKind.free)=false:=by simpa using hk
    simp only [Option.map_some,hb,Bool.false_and,Bool.false_eq_true,if_false] at h;rcases h with h|h
    ·exact absurd (Option.some.inj h) (S.HF _ hm)
    ·exact absurd (Option.some.inj h) hk
theorem Inv.comp {h1:Heap} {D:Nat} (I:Inv X pins σ H s) (S:aR N own caps X.N X.env.scope scope) (hfp:∀b∈fp,jW X pins H b) (hfo:∀b∈fp,∃o,s.heap.get? b=some o)
 (hD:D=s.heap.objs.size) (hC:C=s.heap.objs.size+1) (old:∀b o,s.heap.get? b=some o->h1.get? b=some o) (hns:h1.Ns C (fun _=>none)) (hl:h1.get? D=some {cls:= .type "list",data:= .seq #[]}) {t:Nat}:
 Inv (dD X scope C N s H fp) [] (st0 own caps σ) (upd H D (.lst [])) {s with heap:=h1,toks:=t}:=by
 have some':=S.qQ I.ok;have sub:∀{x c},(iI X.env scope.names []).lookup x=some c->X.env.cells.lookup x=some c:=fun h=>S.csub I.ok h;have freshD:H D=none:=I.hok.fresh (by rw [hD];exact Nat.le_refl _);have z7:H C=none:=I.hok.fresh (by rw [hC];exact Nat.le_succ _)
 have qW:∀x c,X.env.cells.lookup x=some c->c<s.heap.objs.size:=fun x c e=>by
  obtain ⟨v,z⟩:=I.cell x c e;exact z.lt
 have Lx:∀b∈fp,b<s.heap.objs.size:=fun b hb=>by
  obtain ⟨o,e⟩:=hfo b hb;exact Heap.lt_size e
 have DC:D≠C:=by omega
 refine ⟨⟨I.ok.mod,S.kind,I.ok.glob,I.ok.blt,by show s.heap.objs.size<=C;omega,fun x y c e1 e2=>I.ok.inj x y c (sub e1) (sub e2),fun x h=> ?_,fun x c h=>(by cases h),I.ok.hd,I.ok.frames,Or.inl rfl,fun b hb=>⟨?_,fun x c e=> ?_⟩,I.bs,Nat.le_trans I.ok.JM I.sz,fun b o e hb=> ?_,fun b hb z=> ?_,I.stack,I.ug⟩,
  rfl,I.bare,Un.laid old (by show s.heap.objs.size<=D;omega) freshD,⟨_,hns,fun j x v e1 e2 e3=> ?_⟩,fun x c e=> ?_, ?_,fun x c e=> ?_,fun p hp=> ?_,I.hok.laid old (by omega) ?_, ?_⟩
 ·have hm:=aR.qF (S:=S) (X:=X) h
  obtain ⟨c,e⟩:=Option.isSome_iff_exists.mp (some' _ hm rfl);exact ⟨c,by show (iI X.env scope.names []).lookup x=_;rw [cR _ _ _ some',if_pos hm];exact e⟩
 ·exact Nat.ne_of_lt (show @LT.lt Nat _ b C by have:=iZ (Lx b hb);omega)
 ·exact (hfp b hb).2.2.2.2.1 x c (sub e)
 ·rcases (hfp b hb).2.2.2.1 with z|z
  ·exact I.ok.Ef b o e z
  ·exact absurd (Nat.lt_of_lt_of_le (Heap.lt_size e) (Nat.le_trans I.ok.JM z)) (Nat.lt_irrefl _)
 ·rcases List.mem_cons.mp (I.m_ b z) with q|q
  ·exact (hfp b hb).2.1 q
  ·exact (hfp b hb).2.2.1 q
 ·have e1:N[j]? = some x:=e1
  have hj:own.length<=j:=by
   by_cases q:own.length<=j
   ·exact q
   ·exfalso
    unfold st0 at e2;rw [List.getElem?_append_left (by simp;omega),List.getElem?_map] at e2;cases r:own[j]? with
    | none=>rw [r] at e2;cases e2
    | some a=>rw [r] at e2;cases e2
  have hjl:j<N.length:=(List.getElem?_eq_some_iff.mp e1).1;have Zx:j - own.length<caps.length:=by have:=S.len;omega
  obtain ⟨c1,x',c2,c3,c4⟩:=S.cap (j - own.length) Zx;rw [show own.length+(j - own.length)=j by omega] at c1 c2;rw [e1] at c2;cases c2
  have e2':(σ[caps.getD (j - own.length) 0]?).join=some v:=by
   unfold st0 at e2;rw [List.getElem?_append_right (by simp;omega),List.getElem?_map,List.length_map] at e2;rw [List.getD_eq_getElem?_getD];cases r:caps[j - own.length]? with
   | none=>rw [r] at e2;cases e2
   | some a=>rw [r] at e2;exact Option.some.inj e2
  have QH:σ[caps.getD (j - own.length) 0]? = some (some v):=by
   cases r:σ[caps.getD (j - own.length) 0]? with
   | none=>rw [r] at e2';cases e2'
   | some a=>rw [r] at e2';exact congrArg Option.some e2'
  have kx:X.env.kindOf x=some .cell\/X.env.kindOf x=some .free:=S.free _ c3 rfl;obtain ⟨m,hn,hl'⟩:=I.loc;obtain ⟨u,r,l⟩:=hl' _ x v (by rw [←c1];exact e1) QH (by rcases kx with z|z;exact .inr (.inl z);exact .inr (.inr z));refine ⟨u,r,.inr ⟨?_, ?_⟩⟩
  ·show (relabel scope X.env).names.lookup x=some .cell\/(relabel scope X.env).names.lookup x=some .free
   have e:(relabel scope X.env).names.lookup x=(scope.names.lookup x).map fun k=>if (k == .free&&X.env.scope.kind == .function&&X.env.kindOf x==some .cell)=true then NameKind.cell else k:=dM X.env scope.names x;rw [e,c4,Option.map_some];split
   ·exact .inl rfl
   ·exact .inr rfl
  ·rcases l with ⟨hk,_⟩|⟨_,c,hc,z⟩
   ·rcases kx with q|q<;>rw [hk] at q<;>cases q
   ·refine ⟨c, ?_, ?_⟩
    ·show (iI X.env scope.names []).lookup x=_
     rw [cR _ _ _ some',if_pos c3];exact hc
    ·obtain ⟨o,ho,hd⟩:=z
     exact ⟨o,old c o ho,hd⟩
 ·obtain ⟨v,o,ho,hd⟩:=I.cell x c (sub e)
  exact ⟨v,o,old c o ho,hd⟩
 ·show upd H D (.lst []) C=none
  rw [aP DC.symm];exact z7
 ·show upd H D (.lst []) c=none
  rw [aP (Nat.ne_of_lt (by have:=iZ (qW x c (sub e));omega))];exact I.jt x c (sub e)
 ·cases hp
 ·exact ⟨Nat.zero_le _,[],0,.nil,hl⟩
 ·show (own.map (fun _=>none)++caps.map _).length=N.length
  rw [List.length_append,List.length_map,List.length_map,S.len]
theorem Inv.Gi {sO:List (Addr×Obj)} {σ':St} {H':Hp} {s':Shared} {h':Heap} (I:Inv X pins σ H s) (hfp:∀b∈fp,jW X pins H b) (hC:s.heap.objs.size<=C) (J:Inv (dD X scope C N s H fp) sO σ' H' s') (hs:Heap.SameBut C s'.heap h'):
 Inv X pins σ H' {s' with heap:=h'}:=by
 have nC:∀b o,s.heap.get? b=some o->b≠C:=fun b o e=>Nat.ne_of_lt (by have:=iZ (Heap.lt_size e);omega);have u:=J.base;have frC:H' C=none:=J.free;refine I.call' (ch:=fp) (s':={s' with heap:=h'}) J.os ⟨fun b o e n hb hx=> ?_,fun b o e n hb hx=> ?_,u.free,fun b o e hx=> ?_,u.tups,u.mU,u.pQ⟩ (fun a o e=>(J.hok a o e).stay (fun b v hb q=> ?_) (fun _ q=>q) fun _ _ q=>q) J.bare fun b hb=> ?_
 ·exact (hs.2 b (nC b o e)).trans (u.keep b o e n hb hx)
 ·obtain ⟨sl,q⟩:=u.slot b o e n hb hx
  exact ⟨sl,(hs.2 b (nC b o e)).trans q⟩
 ·obtain ⟨o',q⟩:=u.there b o e hx
  exact ⟨o',(hs.2 b (nC b o e)).trans q⟩
 ·refine (hs.2 b ?_).trans q
  intro z;subst z;rcases hb with z|z
  ·subst z;rw [frC] at e;cases e
  ·rw [frC] at z;cases z
 ·exact ⟨(hfp b hb).2.2.2.1,(hfp b hb).2.1,(hfp b hb).2.2.2.2.1,(hfp b hb).2.2.2.2.2⟩
end
section
variable {prog:Program} {w:World} {A:Around} {R:Result->Shared->Prop} {s:Shared}
theorem mY {elt target iter:Expr} {ifs:List Expr} {scope:Scope} {pos:Pos} {it acc:Value} {env:Env} (I:Nat->Shared->Prop)
 (turn:∀n s,I n s->wpAny (model prog w) A (pyNext it) (fun r s1=>match r with
   | none=>R (.ok .next) s1
   | some v=>wpAny (model prog w) A (letOwnedTupleGo target it v) (fun _ s1'=>wpAny (model prog w) A (assign target env v) (fun _ s2=>
      wpAny (model prog w) A (forIn ifs true fun c r=>if r=true then do let ok ←isTrue c env (eval c env);pure (ForInStep.yield ok) else pure (ForInStep.yield r)) (fun ok s3=>
       if ok=true then wpAny (model prog w) A (eval elt env) (fun x s4=>
        wpAny (model prog w) A (call (.builtin "list.append") [acc,x]) (fun _ s5=>∃m,m<n/\I m s5) (fun _ _=>False) s4) (fun _ _=>False) s3
       else ∃m,m<n/\I m s3) (fun _ _=>False) s2) (fun _ _=>False) s1') (fun _ _=>False) s1) (fun _ _=>False) s)
 (n:Nat) (h:I n s):
 codeAny (model prog w) A (.compLoop (.ListComp elt [⟨target,iter,ifs,0⟩] scope pos) 0 it acc env) R s:=by
 refine codeAny_loop rfl I (fun n s hI=> ?_) n h;show wpAny _ A ((compTurn (.ListComp elt [⟨target,iter,ifs,0⟩] scope pos) 0 it acc env).onRaise (fun x=>do noteFrame x env;theTreesLotGoes x)) _ _ s;refine wpAny_noted ?_;rw [compTurn_list];refine wpAny_bind (wpAny_standAt (wpAny_bind (wpAny_mono (turn n s hI) (fun r s1 h1=> ?_) fun _ _ h'=>h'.elim)));cases r with
 | none=>exact wpAny_pure h1
 | some v=>
   refine wpAny_bind (wpAny_mono h1 (fun _ s1' h1'=> ?_) fun _ _ h'=>h'.elim);refine wpAny_bind (wpAny_mono h1' (fun _ s2 h2=>wpAny_bind (wpAny_mono h2 (fun ok s3 h3=> ?_) fun _ _ h'=>h'.elim)) fun _ _ h'=>h'.elim);cases ok with
   | false=>exact wpAny_pure ⟨rfl,h3⟩
   | true=>
     exact wpAny_bind (wpAny_bind (wpAny_mono h3 (fun x s4 h4=>wpAny_bind (wpAny_mono h4 (fun _ s5 h5=>wpAny_pure (wpAny_pure ⟨rfl,h5⟩)) fun _ _ h'=>h'.elim)) fun _ _ h'=>h'.elim))
end
def Q0 (X:Cx) (ifs:List Expr) (t:TT):Prop:=
 ∀(pins:List (Addr×Obj)) (s:Shared) (σ:St) (H:Hp) (Q:Bool->Hp->Prop),Inv X pins σ H s->t σ H Q ->
  wpAny (model X.prog X.w) X.A (forIn ifs true fun c r=>if r=true then do let ok ←isTrue c X.env (eval c X.env);pure (ForInStep.yield ok) else pure (ForInStep.yield r)) (TP X pins σ Q) X.xe s
def Wd:TT:=fun _ H Q=>Q true H
theorem iT {X:Cx}:Q0 X [] Wd:=fun _ _ _ H _ I h=>wpAny_tests_nil ⟨H,I,h⟩
theorem kO {X:Cx} {c:Expr} {t:TT} (h:PT X c t):Q0 X [c] t:=fun pins s σ H Q I q=>wpAny_tests_one (h pins s σ H Q I q)
def m7 (J:It) (g:TG) (tc:TT) (te:TE) (Q:VK) (D:Addr) (σ0:St) (H1:Hp):Prop:=
 ∃W:Nat->Nat->St->Hp->Prop,(∃m,W 0 m σ0 (upd H1 D (.lst []))) /\ ∀i m σ H,W i m σ H ->
  (J.stop i H/\Q (.ref D) H)\/(J.go i H /\ ∃N:St->Hp->Prop,(∀σ' H',N σ' H' -> ∃m',m'<m/\W (i+1) m' σ' H') /\ ∀x H',J.Mv i H x H'->g x σ H' fun σ2 H2=>tc σ2 H2 fun b H3=>
    if b=true then te σ2 H3 fun y H4=>∃acc,H4 D=some (.lst acc)/\acc.length<sizeLine/\N σ2 (upd H4 D (.lst (acc++[y]))) else N σ2 H3)
def vP (own:List Str) (caps:List Nat) (wi:TI) (g:TG) (tc:TT) (te:TE):TE:=fun σ H Q=>wi σ H fun J H1=>∀D,H1 D=none->m7 J g tc te Q D (st0 own caps σ) H1
section
variable {X:Cx} {elt tg iter:Expr} {ifs:List Expr} {scope:Scope} {pos:Pos} {N own:List Str} {caps:List Nat} {wi:TI} {g:TG} {tc:TT} {te:TE}
theorem xU {use:Option (Value->Sem Unit)} {Qv:Value->Shared->Prop} {pins:List (Addr×Obj)} {σ:St} {H:Hp} {s:Shared} {Q:VK} (hc:X.calm=true) (S:aR N own caps X.N X.env.scope scope)
 (hg:∀C s H fp,PG (dD X scope C N s H fp) tg g) (hcs:∀C s H fp,Q0 (dD X scope C N s H fp) ifs tc) (he:∀C s H fp,PE (dD X scope C N s H fp) elt te)
 (hi:PI X tg iter wi) (hs:∀x,foldedSetIterable iter X.env x=pure x)
 (I:Inv X pins σ H s) (h:vP own caps wi g tc te σ H Q)
 (fin:∀(D C:Addr) (H':Hp) (s':Shared),(∃m,s'.heap.Ns C m)->Inv X pins σ H' s'->(∀h',Heap.SameBut C s'.heap h'->Inv X pins σ H' {s' with heap:=h'})->jW X pins H' C->Q (.ref D) H' ->
   compPost (model X.prog X.w) X.A X.xe use Qv (.ref D) C (.ok .next) s'):
 wpAny (model X.prog X.w) X.A (comprehension (.ListComp elt [⟨tg,iter,ifs,0⟩] scope pos) scope X.env (firstIterPos [⟨tg,iter,ifs,0⟩] pos) (newList []) false (eval iter X.env) use) Qv X.xe s:=by
 refine wpAny_comprehension_free (use:=use) rfl hs (qU (S.qQ I.ok)) S.kind S.names (cC (hi pins s σ H _ I h) fun xv s1 h1=>cC h1 fun itv s2 h2=> ?_);obtain ⟨it,fp,tn,J,H2,e,I2,T,st2,f2,q2⟩:=h2;subst e;refine wpAny_newList ?_;refine wpAny_newFunctionEnv S.HF (by intro y hy;simp at hy) (fun h1 Lq hsb1=> ?_) S.kind;dsimp only at Lq hsb1 ⊢;have hD:H2 s2.heap.objs.size=none:=I2.hok.fresh (Nat.le_refl _);have hsz:(s2.heap.push {cls:= .type "list",data:= .seq ([]:List Value).toArray}).objs.size=s2.heap.objs.size+1:=Heap.size_push ..
 have old:∀b o,s2.heap.get? b=some o->h1.get? b=some o:=fun b o e=>by
  refine hsb1.extBut b o (Nat.ne_of_lt (by have:=iZ (Heap.lt_size e);rw [hsz];omega)) (Heap.get?_push_of_some _ (Heap.get?_push_of_some _ e))
 have hl:h1.get? s2.heap.objs.size=some {cls:= .type "list",data:= .seq #[]}:=
  hsb1.extBut _ _ (Nat.ne_of_lt (by rw [hsz];omega)) (Heap.get?_push_of_some _ (Heap.get?_push_size _ rfl))
 have hfo:∀b∈fp,∃o,s2.heap.get? b=some o:=fun b hb=>let ⟨o,e,_⟩:=T.obj _ _ st2 b hb;⟨o,e⟩
 have I4:=Inv.comp (C:=(s2.heap.push {cls:= .type "list",data:= .seq ([]:List Value).toArray}).objs.size) (t:=s2.toks+([]:List (Str×Value)).length) I2 S f2 hfo rfl hsz old Lq hl;obtain ⟨W,⟨m0,w0⟩,turn⟩:=q2 _ hD;generalize hCe:(s2.heap.push {cls:= .type "list",data:= .seq ([]:List Value).toArray}).objs.size=C at *;generalize hDe:s2.heap.objs.size=D at *;have hDC:D≠C:=by omega
 have loop:∀s3:Shared,s3={s2 with heap:=h1,toks:=s2.toks+([]:List (Str×Value)).length} ->
  codeAny (model X.prog X.w) X.A (.compLoop (.ListComp elt [⟨tg,iter,ifs,0⟩] scope pos) 0 (.ref it) (.ref D) (dD X scope C N s2 H2 fp).env) (compPost (model X.prog X.w) X.A X.xe use Qv (.ref D) C) s3:=by
  rintro s3 rfl
  have gK:∀b∈fp,(upd H2 D (.lst [])) b=none:=fun b hb=>by
   obtain ⟨o,e⟩:=hfo b hb;rw [aP (Nat.ne_of_lt (by have:=iZ (Heap.lt_size e);omega))];exact (f2 b hb).1
  have stat:∀{H':Hp},(∀b∈fp,H' b=none) -> ∀b∈fp,jW (dD X scope C N s2 H2 fp) [] H' b:=fun hn b hb=>by
   obtain ⟨o,e⟩:=hfo b hb;have hlt:=iZ (Heap.lt_size e);refine ⟨hn b hb, ?_,fun z=> ?_,.inl hb,fun x c e'=>(f2 b hb).2.2.2.2.1 x c (S.csub I2.ok e'),fun p hp=>(by cases hp)⟩
   ·exact Nat.ne_of_lt (show @LT.lt Nat _ b C by omega)
   ·rcases List.mem_cons.mp (I2.m_ b z) with q|q
    ·exact (f2 b hb).2.1 q
    ·exact (f2 b hb).2.2.1 q
  refine mY (fun n s'=>∃i σ' H',Inv (dD X scope C N s2 H2 fp) [] σ' H' s'/\tn i s'.heap/\(∀b∈fp,H' b=none)/\W i n σ' H') ?_ m0
   ⟨0,_,_,I4,T.keep _ _ _ st2 fun b _ o e=>old b o e,gK,w0⟩
  rintro n s3 ⟨i,σ3,H3,I3,st3,Nu,w3⟩;rcases turn i n σ3 H3 w3 with ⟨stop,qn⟩|⟨go,Nx,Zz,step⟩
  ·refine cC (T.done (dD X scope C N s2 H2 fp) rfl rfl rfl hc i [] s3 σ3 H3 _ I3 (stat Nu) st3 stop) fun r s4 ⟨hr,J4⟩=> ?_
   subst hr;obtain ⟨m4,Vw,_⟩:=J4.loc;exact fin D C H3 s4 ⟨m4,Vw⟩ (I2.Gi f2 (by omega) J4 (Heap.SameBut.refl _ _)) (fun h' hs'=>I2.Gi f2 (by omega) J4 hs') (I2.qK (show s2.heap.objs.size<=C by omega) J4.free) qn
  ·refine cC (T.item (dD X scope C N s2 H2 fp) rfl rfl rfl hc i [] s3 σ3 H3 _ I3 (stat Nu) st3 go) fun r s4 ⟨u,hr,h4⟩=> ?_
   subst hr;refine cC h4 fun _ s5 ⟨x,H5,I5,r5,y5,rH,TQ⟩=> ?_;have U3:=I5.pinned (stat TQ) (T.obj _ _ rH);refine cC (hg C s2 H2 fp _ s5 σ3 H5 x u _ U3 r5 (step x H5 y5)) fun _ s6 ⟨σ6,H6,I6,q6⟩=> ?_;refine cC (hcs C s2 H2 fp _ s6 σ6 H6 _ I6 q6) fun ok s7 ⟨H7,I7,q7⟩=> ?_
   have again:∀{σ8:St} {H8:Hp} {s8:Shared},Inv (dD X scope C N s2 H2 fp) ([]++nH fp s5.heap) σ8 H8 s8->Nx σ8 H8 -> ∃m,m<n /\ ∃i σ' H',Inv (dD X scope C N s2 H2 fp) [] σ' H' s8/\tn i s8.heap/\(∀b∈fp,H' b=none)/\W i m σ' H':=fun {σ8 H8 s8} I8 n8=>by
    obtain ⟨m',hm,w8⟩:=Zz _ _ n8;refine ⟨m',hm,i+1,σ8,H8,I8.j7,T.keep _ _ _ rH fun b hb o e=>(I8.pin (b,o) (List.mem_append_right _ (List.mem_append_right _ (fX hb e)))).1,fun b hb=> ?_,w8⟩;obtain ⟨o,e,d⟩:=T.obj _ _ rH b hb;exact (I8.pin (b,o) (List.mem_append_right _ (List.mem_append_right _ (fX hb e)))).2.1
   cases ok with
   | false=>
     rw [if_neg (by decide)] at q7;exact again I7 q7
   | true=>
     rw [if_pos rfl] at q7;refine cC (he C s2 H2 fp _ s7 σ6 H7 _ I7 q7) fun y s8 ⟨yv,H8,I8,r8,acc,ha,hlen,q8⟩=> ?_;exact cC (nM _ s8 σ6 H8 (.ref D) [yv] (.ref D) [y] (fun v H9=>Nx σ6 H9) I8 rfl (.cons r8 .nil) ⟨D,acc,yv,rfl,rfl,ha,hlen,q8⟩) fun _ s9 ⟨_,H9,I9,_,q9⟩=>again I9 q9
 exact codeAny_compStart_list (loop _ rfl) (T.self _ 0 _ _ _ (T.keep _ _ _ st2 fun b _ o e=>old b o e) (loop _ rfl))
theorem jN (hc:X.calm=true) (S:aR N own caps X.N X.env.scope scope) (hi:PI X tg iter wi)
 (hg:∀C s H fp,PG (dD X scope C N s H fp) tg g) (hcs:∀C s H fp,Q0 (dD X scope C N s H fp) ifs tc) (he:∀C s H fp,PE (dD X scope C N s H fp) elt te)
 (hs:∀x,foldedSetIterable iter X.env x=pure x:=by intro _;rfl):PE X (.ListComp elt [⟨tg,iter,ifs,0⟩] scope pos) (vP own caps wi g tc te):=by
 intro pins s σ H Q I h;rw [eval_ListComp];refine xU (use:=none) hc S hg hcs he hi hs I h ?_;intro D C H' s' hn I' hk _ q;obtain ⟨m,hn⟩:=hn;exact ⟨m,hn,fun h' hs'=>⟨.ref D,H',hk h' hs',rfl,q⟩⟩
theorem mF {i:Nat} {x:Str} {px sp:Pos} (hc:X.calm=true) (hN:X.N.Nodup) (hx:X.N[i]? = some x) (hl:Loc X.env.scope x) (S:aR N own caps X.N X.env.scope scope) (hi:PI X tg iter wi)
 (hg:∀C s H fp,PG (dD X scope C N s H fp) tg g) (hcs:∀C s H fp,Q0 (dD X scope C N s H fp) ifs tc) (he:∀C s H fp,PE (dD X scope C N s H fp) elt te)
 (hsw:swapsWith (.ListComp elt [⟨tg,iter,ifs,0⟩] scope pos) (some (.Name x px)) sp.line X.env=pure true:=by rfl)
 (hs:∀x,foldedSetIterable iter X.env x=pure x:=by intro _;rfl) (hf:X.fn x=true\/X.env.scope.names.lookup x=some .local:=by first |exact .inl rfl|exact .inr rfl|assumption):
 PS X (.Assign [.Name x px] (.ListComp elt [⟨tg,iter,ifs,0⟩] scope pos) sp) (Dq (vP own caps wi g tc te) (jZ i)):=by
 intro pins s σ H D I h;rw [exec_Assign_Name_used _ _ _ _ hsw];refine wpAny_bind (wpAny_standAt (wpAny_bind ?_));show wpAny _ X.A (do let _ ←comprehension (.ListComp elt [⟨tg,iter,ifs,0⟩] scope pos) scope X.env (firstIterPos [⟨tg,iter,ifs,0⟩] pos) (newList []) false (eval iter X.env) (some (assign (.Name x px) X.env))) _ _ s;refine wpAny_bind (wpAny_mono (xU (use:=some (assign (.Name x px) X.env)) (Qv:=fun _ s'=>SP X pins D .next s') hc S hg hcs he hi hs I h ?_) (fun _ s' hq=>wpAny_pure (wpAny_pure hq)) fun _ _ e=>e);intro E C H' s' hn I' hk fC q;obtain ⟨m,hn⟩:=hn;obtain ⟨f0,f1,f2,f3,f4,f5⟩:=fC;show wpAny _ X.A (assign (.Name x px) X.env (.ref E)) _ _ _;refine wpAny_assign_Name (rZ I' hN hx hl (v:= .ref E) rfl (fun s2 I2 k=> ?_) hf);refine ⟨m, ?_,fun h' hs'=> ?_⟩
 ·obtain ⟨o,es,ep,ho,r⟩:=hn
  obtain ⟨a,ks,ka⟩:=k
  have hCa:C≠a:=fun z=>by
   rcases ka with q'|q'
   ·exact f1 (z.trans q')
   ·exact f4 x a q' z.symm
  exact ⟨o,es,ep,(ks.2 C hCa).trans ho,r⟩
 ·exact ⟨_,H',I2.turned (t':=s2.toks) (fun b o hb e=>(hs'.2 b hb).trans e) f0 f1 f3 f4 f5,q⟩
end
def Jg (N own:List Str) (caps:List Nat) (XN:List Str) (outer scope:Scope):Bool:=
 decide (scope.kind = .function)&&scope.names.all (fun y=>decide (y.2 ≠ .cell))&&scope.names.all (fun y=>decide (y.2 ≠ .local)||decide (scope.names.lookup y.1=some .local)) &&
 scope.names.all (fun y=>decide (y.2 ≠ .free)||decide (outer.names.lookup y.1=some .cell)||decide (outer.names.lookup y.1=some .free))&&decide N.Nodup&&decide (N.length=own.length+caps.length) &&
 (List.range caps.length).all (fun j=>match N[own.length+j]? with |some x=>decide (XN[caps.getD j 0]? = some x)&&decide ((x,NameKind.free)∈scope.names)&&decide (scope.names.lookup x=some .free)|none=>false)
theorem aR.of {N own:List Str} {caps:List Nat} {XN:List Str} {outer scope:Scope} (h:Jg N own caps XN outer scope=true):aR N own caps XN outer scope:=by
 unfold Jg at h;simp only [Bool.and_eq_true,decide_eq_true_eq,List.all_eq_true,Bool.or_eq_true] at h;obtain ⟨⟨⟨⟨⟨⟨h1,h2⟩,h3⟩,h4⟩,h5⟩,h6⟩,h7⟩:=h;refine ⟨h1,h2,fun y hy e=> ?_,fun y hy e=> ?_,h5,h6,fun j hj=> ?_⟩
 ·rcases h3 y hy with z|z
  ·exact absurd e z
  ·exact z
 ·rcases h4 y hy with (z|z)|z
  ·exact absurd e z
  ·exact .inl z
  ·exact .inr z
 ·have q:=h7 j (List.mem_range.mpr hj)
  cases e:N[own.length+j]? with
  | none=>rw [e] at q;cases q
  | some x=>
    rw [e] at q;simp only [Bool.and_eq_true,decide_eq_true_eq] at q;exact ⟨q.1.1.symm,x,rfl,q.1.2,q.2⟩
end L2
set_option Elab.async false
set_option linter.all false
set_option maxRecDepth 100000
set_option maxHeartbeats 4000000
namespace L2
open PySem PySem.Spec PyProof.Rows
mutual
def Dat (H:Hp):V->PyData->Prop
 | v,.none=>v = .non
 | v,.bool b=>v = .bl b
 | v,.int i=>v = .int i
 | v,.str x=>v = .str x
 | v,.list ds=>∃a vs,v = .ref a/\H a=some (.lst vs)/\aC H vs ds
 | v,.tuple ds=>∃a vs,v = .ref a/\H a=some (.tup vs)/\aC H vs ds
 | _,.dict _=>False
def aC (H:Hp):List V->List PyData->Prop
 | [],[]=>True
 | v::vs,d::ds=>Dat H v d/\aC H vs ds
 | [],_::_=>False
 | _::_,[]=>False
end
section
variable {H H':Hp}
theorem aC.length:∀{vs:List V} {ds:List PyData},aC H vs ds->vs.length=ds.length
 | [],[],_=>rfl
 | _::_,_::_,h=>by simp only [aC] at h;simp [aC.length h.2]
 | [],_::_,h=>by simp only [aC] at h
 | _::_,[],h=>by simp only [aC] at h
theorem aC.get:∀{vs:List V} {ds:List PyData} {i:Nat} {v:V},aC H vs ds->vs[i]? = some v -> ∃d,ds[i]? = some d/\Dat H v d
 | _::_,_::_,0,_,h,e=>by simp only [aC] at h;simp at e;subst e;exact ⟨_,rfl,h.1⟩
 | _::_,_::_,i+1,_,h,e=>by simp only [aC] at h;simp at e;obtain ⟨d,q,r⟩:=aC.get h.2 e;exact ⟨d,by simpa using q,r⟩
 | [],[],_,_,_,e=>by simp at e
 | [],_::_,_,_,h,_=>by simp only [aC] at h
 | _::_,[],_,_,h,_=>by simp only [aC] at h
theorem aC.getD:∀{vs:List V} {ds:List PyData} {i:Nat} {d:PyData},aC H vs ds->ds[i]? = some d -> ∃v,vs[i]? = some v/\Dat H v d
 | _::_,_::_,0,_,h,e=>by simp only [aC] at h;simp at e;subst e;exact ⟨_,rfl,h.1⟩
 | _::_,_::_,i+1,_,h,e=>by simp only [aC] at h;simp at e;obtain ⟨d,q,r⟩:=aC.getD h.2 e;exact ⟨d,by simpa using q,r⟩
 | [],[],_,_,_,e=>by simp at e
 | [],_::_,_,_,h,_=>by simp only [aC] at h
 | _::_,[],_,_,h,_=>by simp only [aC] at h
theorem aC.append:∀{vs ws:List V} {ds es:List PyData},aC H vs ds->aC H ws es->aC H (vs++ws) (ds++es)
 | [],_,[],_,_,g=>g
 | _::_,_,_::_,_,h,g=>by simp only [aC,List.cons_append] at h ⊢;exact ⟨h.1,aC.append h.2 g⟩
 | [],_,_::_,_,h,_=>by simp only [aC] at h
 | _::_,_,[],_,h,_=>by simp only [aC] at h
theorem aC.take:∀{vs:List V} {ds:List PyData} (n:Nat),aC H vs ds->aC H (vs.take n) (ds.take n)
 | _,_,0,_=>by simp only [List.take_zero,aC]
 | [],[],_+1,_=>by simp only [List.take_nil,aC]
 | _::_,_::_,n+1,h=>by simp only [aC,List.take_succ_cons] at h ⊢;exact ⟨h.1,aC.take n h.2⟩
 | [],_::_,_+1,h=>by simp only [aC] at h
 | _::_,[],_+1,h=>by simp only [aC] at h
theorem aC.drop:∀{vs:List V} {ds:List PyData} (n:Nat),aC H vs ds->aC H (vs.drop n) (ds.drop n)
 | _,_,0,h=>by simpa using h
 | [],[],_+1,_=>by simp only [List.drop_nil,aC]
 | _::_,_::_,n+1,h=>by simp only [aC,List.drop_succ_cons] at h ⊢;exact aC.drop n h.2
 | [],_::_,_+1,h=>by simp only [aC] at h
 | _::_,[],_+1,h=>by simp only [aC] at h
mutual
theorem Dat.mono (hl:∀a xs,H a=some (HO.lst xs)->H' a=some (HO.lst xs)) (ht:∀a xs,H a=some (HO.tup xs)->H' a=some (HO.tup xs)):∀(d:PyData) {v:V},Dat H v d->Dat H' v d
 | .none,_,h=>by simp only [Dat] at h ⊢;exact h
 | .bool _,_,h=>by simp only [Dat] at h ⊢;exact h
 | .int _,_,h=>by simp only [Dat] at h ⊢;exact h
 | .str _,_,h=>by simp only [Dat] at h ⊢;exact h
 | .list ds,_,h=>by simp only [Dat] at h ⊢;obtain ⟨a,vs,e,q,r⟩:=h;exact ⟨a,vs,e,hl _ _ q,aC.mono hl ht ds r⟩
 | .tuple ds,_,h=>by simp only [Dat] at h ⊢;obtain ⟨a,vs,e,q,r⟩:=h;exact ⟨a,vs,e,ht _ _ q,aC.mono hl ht ds r⟩
 | .dict _,_,h=>by simp only [Dat] at h
theorem aC.mono (hl:∀a xs,H a=some (HO.lst xs)->H' a=some (HO.lst xs)) (ht:∀a xs,H a=some (HO.tup xs)->H' a=some (HO.tup xs)):∀(ds:List PyData) {vs:List V},aC H vs ds->aC H' vs ds
 | [],[],_=>by simp only [aC]
 | d::ds,v::vs,h=>by simp only [aC] at h ⊢;exact ⟨Dat.mono hl ht d h.1,aC.mono hl ht ds h.2⟩
 | _::_,[],h=>by simp only [aC] at h
 | [],_::_,h=>by simp only [aC] at h
end
mutual
def FN:PyData->Bool
 | .tuple ds=>rP ds
 | .list _ | .dict _=>false
 | .none | .bool _ | .int _ | .str _=>true
def rP:List PyData->Bool
 | []=>true
 | d::ds=>FN d&&rP ds
end
mutual
theorem Dat.keep (ht:∀a xs,H a=some (HO.tup xs)->H' a=some (HO.tup xs)):∀(d:PyData) {v:V},FN d=true->Dat H v d->Dat H' v d
 | .none,_,_,h=>by simp only [Dat] at h ⊢;exact h
 | .bool _,_,_,h=>by simp only [Dat] at h ⊢;exact h
 | .int _,_,_,h=>by simp only [Dat] at h ⊢;exact h
 | .str _,_,_,h=>by simp only [Dat] at h ⊢;exact h
 | .list ds,_,i,h=>by simp only [FN] at i;cases i
 | .tuple ds,_,i,h=>by simp only [Dat] at h ⊢;simp only [FN] at i;obtain ⟨a,vs,e,q,r⟩:=h;exact ⟨a,vs,e,ht _ _ q,aC.keep ht ds i r⟩
 | .dict _,_,_,h=>by simp only [Dat] at h
theorem aC.keep (ht:∀a xs,H a=some (HO.tup xs)->H' a=some (HO.tup xs)):∀(ds:List PyData) {vs:List V},rP ds=true->aC H vs ds->aC H' vs ds
 | [],[],_,_=>by simp only [aC]
 | d::ds,v::vs,i,h=>by simp only [aC] at h ⊢;simp only [rP,Bool.and_eq_true] at i;exact ⟨Dat.keep ht d i.1 h.1,aC.keep ht ds i.2 h.2⟩
 | _::_,[],_,h=>by simp only [aC] at h
 | [],_::_,_,h=>by simp only [aC] at h
end
theorem aX {α:Type} (f:α->PyData) (h:∀x,FN (f x)=true):∀l:List α,rP (l.map f)=true
 | []=>rfl
 | a::l=>by simp only [List.map_cons,rP,h a,aX f h l,Bool.and_self]
end
section
variable {X:Cx} {pins:List (Addr×Obj)} {σ:St} {H:Hp} {s:Shared}
mutual
theorem Inv.reads (I:Inv X pins σ H s):∀(d:PyData) {v:V} {u:Value},Dat H v d->RelV v u -> ∃as,Reads s.heap u d as
 | .none,v,u,h,r=>by
   simp only [Dat] at h;subst h;cases (show u=Value.none from r);exact ⟨_,.none⟩
 | .bool b,v,u,h,r=>by
   simp only [Dat] at h;subst h;cases (show u=Value.bool b from r);exact ⟨_,.bool b⟩
 | .int i,v,u,h,r=>by
   simp only [Dat] at h;subst h;obtain ⟨t,q⟩:=(show ∃t,u=Value.int i t from r);cases q;exact ⟨_,.int i t⟩
 | .str x,v,u,h,r=>by
   simp only [Dat] at h;subst h;obtain ⟨t,q⟩:=(show ∃t,u=Value.str x t from r);cases q;exact ⟨_,.str x t⟩
 | .list ds,v,u,h,r=>by
   simp only [Dat] at h;obtain ⟨a,vs,rfl,q,g⟩:=h;cases (show u=Value.ref a from r);obtain ⟨its,rv,p,hz⟩:=I.list (bf.of q);obtain ⟨o,ho,hc,n,hd⟩:=p.isList;obtain ⟨as,ra⟩:=Inv.readsAll I ds g rv;exact ⟨_,.list ho hc hd (by simpa using ra)⟩
 | .tuple ds,v,u,h,r=>by
   simp only [Dat] at h;obtain ⟨a,vs,rfl,q,g⟩:=h;cases (show u=Value.ref a from r);obtain ⟨its,rv,p,hz⟩:=I.tuple (dG.of q);obtain ⟨o,ho,hc,n,hd⟩:=p;obtain ⟨as,ra⟩:=Inv.readsAll I ds g rv;exact ⟨_,.tuple ho hc hd (by simpa using ra)⟩
 | .dict _,_,_,h,_=>by simp only [Dat] at h
theorem Inv.readsAll (I:Inv X pins σ H s):∀(ds:List PyData) {vs:List V} {us:List Value},aC H vs ds->Vals vs us -> ∃as,ReadsAll s.heap us ds as
 | [],[],_,_,.nil=>⟨_,.nil⟩
 | d::ds,v::vs,_,h,.cons r rs=>by
   simp only [aC] at h;obtain ⟨as,ra⟩:=Inv.reads I d h.1 r;obtain ⟨bs,rb⟩:=Inv.readsAll I ds h.2 rs;exact ⟨_,.cons ra rb⟩
 | _::_,[],_,h,_=>by simp only [aC] at h
 | [],_::_,_,h,_=>by simp only [aC] at h
end
def Kf (neg:Bool):R2:=fun x y H Q=>∃d e,Dat H x d/\Dat H y e/\SeqAt.shaped d=true/\SeqAt.shaped e=true/\Q (.bl (if neg then !PyData.eqv d e else PyData.eqv d e)) H
theorem Pr (hu:X.A.units+64<cLine):o8 X (compareOp .Eq) (Kf false):=by
 intro pins s σ H x y v u Q I rx ry h;obtain ⟨d,e,h1,h2,s1,s2,q⟩:=h;obtain ⟨as,ra⟩:=I.reads d h1 rx;obtain ⟨bs,rb⟩:=I.reads e h2 ry;exact SeqAt.compareEq_shaped ra rb s1 s2 hu ⟨.bl _,H,I,rfl,q⟩
theorem Pq (hu:X.A.units+64<cLine):o8 X (compareOp .NotEq) (Kf true):=by
 intro pins s σ H x y v u Q I rx ry h;obtain ⟨d,e,h1,h2,s1,s2,q⟩:=h;obtain ⟨as,ra⟩:=I.reads d h1 rx;obtain ⟨bs,rb⟩:=I.reads e h2 ry;exact SeqAt.compareNe_shaped ra rb s1 s2 hu ⟨.bl _,H,I,rfl,q⟩
theorem Ji {c:Value} {cv:V} (rc:RelV cv c):fO X (.builtin "isinstance") (fun xs H Q=>∃x t b,xs=[x,cv]/\m5 X.K H x t/\PySem.W.kitOne X.K t c=some b/\Q (.bl b) H):=by
 intro pins s σ H xs us Q I r h;obtain ⟨x,t,b,rfl,ty,e,q⟩:=h;obtain ⟨u,w',rfl,r1,r2⟩:=vals2 r
 have:w'=c:=by
  cases cv with
  | non=>exact (show w'=Value.none from r2).trans (show c=Value.none from rc).symm
  | bl b=>exact (show w'=Value.bool b from r2).trans (show c=Value.bool b from rc).symm
  | ref a=>exact (show w'=Value.ref a from r2).trans (show c=Value.ref a from rc).symm
  | ty n=>exact (show w'=Value.type n from r2).trans (show c=Value.type n from rc).symm
  | int i=>obtain ⟨t1,rfl⟩:=(show ∃t,c=Value.int i t from rc);unfold PySem.W.kitOne at e;exact absurd e (by cases ty<;>simp [PySem.W.kitCls])
  | str i=>obtain ⟨t1,rfl⟩:=(show ∃t,c=Value.str i t from rc);unfold PySem.W.kitOne at e;exact absurd e (by cases ty<;>simp [PySem.W.kitCls])
  | FP i=>obtain ⟨t1,rfl⟩:=(show ∃t,c=Value.bytes i t from rc);unfold PySem.W.kitOne at e;exact absurd e (by cases ty<;>simp [PySem.W.kitCls])
  | flt i=>obtain ⟨t1,rfl⟩:=(show ∃t,c=Value.float i t from rc);unfold PySem.W.kitOne at e;exact absurd e (by cases ty<;>simp [PySem.W.kitCls])
 subst this;exact Eo I r1 ty e fun tk=>⟨.bl b,H,I.tok _,rfl,q⟩
end
section
variable {prog:Program} {w:World} {A:Around}
theorem pO (hh:A.handled=none) (it a:Addr) (hne:it≠a) (its:List Value):Walks prog w A it [it,a] [it] its.length (fun i v=>its[i]? = some v) (fun i h=>h.IsListIter it a i/\h.IsList a its.toArray) where
 sub:=by simp
 frame:=fun i h h' ⟨s1,o,ho,hc⟩ k=>⟨s1.at fun o e=>k it (by simp) o e,o,k a (by simp) o ho,hc⟩
 item:=fun i s Q E hi ⟨s1,s2⟩ hQ=>wpAny_pyNext_list_item s1 s2 (x:=its[i]) (by simp [hi]) fun h' st' sb=>
  hQ _ h' s.toks (by simp [hi]) ⟨st',s2.extBut sb.extBut hne.symm⟩ fun b o hb e=>(sb.2 b (by simpa using hb)).trans e
 done:=fun s Q E ⟨s1,s2⟩ hQ=>wpAny_pyNext_list_end hh s1 s2 (by simp) fun h' eb=>hQ h' s.toks fun b o hb e=>eb b o (by simpa using hb) e
 self:=fun i s Q E ⟨s1,_⟩ hQ=>wpAny_pyIter_listiter s1 hQ
end
section
variable {X:Cx}
theorem rM (bs:List Bool):(List.range bs.length).all (fun i=>(bs[i]?).getD false)=bs.all id:=by
 rw [Bool.eq_iff_iff,List.all_eq_true,List.all_eq_true];constructor
 ·intro h b hb
  obtain ⟨i,hi,rfl⟩:=List.getElem_of_mem hb;have:=h i (by simpa using hi);simpa [hi] using this
 ·intro h i hi
  have hi':i<bs.length:=by simpa using hi
  simpa [hi'] using h bs[i] (List.getElem_mem hi')
theorem yO {bs:List Bool}:∀{us:List Value},Vals (bs.map V.bl) us->us=bs.map Value.bool:=by
 induction bs with
 | nil=>intro us r;cases r;rfl
 | cons b bs ih=>
   intro us r;cases r with
   | cons r rs=>cases (show _=Value.bool b from r);rw [ih rs];rfl
theorem qZ (hc:X.calm=true):fO X (.builtin "all") (fun xs H Q=>∃(p:Addr) (bs:List Bool),xs=[.ref p]/\bf X.K H p (bs.map V.bl)/\Q (.bl (bs.all id)) H):=by
 intro pins s σ H xs us Q I r h;obtain ⟨p,bs,rfl,hq,q⟩:=h;obtain ⟨u,rfl,rx⟩:=vals1 r;cases rx;obtain ⟨its,rv,pl,hz⟩:=I.list hq;have e:=yO rv;have hlen:its.length=bs.length:=by rw [e,List.length_map]
 refine call_all_walk (wpAny_pyIter_list pl.isList ⟨s.heap.objs.size,[s.heap.objs.size,p],[s.heap.objs.size],its.length,_,_,fun i=>(bs[i]?).getD false,rfl,
  pO (show X.A.in1.handled=none from I.ok.hd hc) s.heap.objs.size p ?_ its,⟨⟨_,Heap.get?_push_size _ rfl,rfl,rfl⟩, ?_⟩, ?_, ?_⟩)
 ·intro z
  obtain ⟨o,ho,_⟩:=pl.isList;have:=Heap.lt_size ho;rw [←z] at this;exact Nat.lt_irrefl _ this
 ·obtain ⟨o,ho,hcl⟩:=pl.isList
  exact ⟨o,Heap.get?_push_of_some _ ho,hcl⟩
 ·intro i v s1 Q1 E1 hP hQ
  rw [e,List.getElem?_map] at hP;cases r:bs[i]? with
  | none=>rw [r] at hP;cases hP
  | some b=>
    rw [r] at hP;cases hP;simp only [r,Option.getD_some] at hQ;exact wpAny_truthy_bool hQ
 ·intro h' tk k
  rw [hlen,rM];have f:=I.qK (H':=H) (b:=s.heap.objs.size) (Nat.le_refl _) (I.hok.fresh (Nat.le_refl _));have I2:Inv X pins σ H {s with heap:=h',toks:=tk}:=I.turned (h':=h') (t':=tk) (it:=s.heap.objs.size) (fun b o hb e=>k b o (by simpa using hb) (Heap.get?_push_of_some _ e)) f.1 f.2.1 f.2.2.2.1 f.2.2.2.2.1 f.2.2.2.2.2;exact ⟨.bl _,H,I2,rfl,q⟩
end
end L2
set_option Elab.async false
set_option linter.all false
set_option maxRecDepth 100000
set_option maxHeartbeats 4000000
namespace L2
open PySem PySem.Spec PyProof.Rows
def FnAt (P:Program) (w:World) (K:PySem.W.Frag) (mg:Str->Option Value) (base:Heap) (k:Nat) (x:Str) (ps:List Str) (sp:Sp):Prop:=
 ∃f fd,dR P w K mg base lC k f fd ps sp/\mg x=some (.ref f)/\PySem.W.keepIn K (.ref f)=true/\Binds K fd ps []
section
variable {X:Cx} {k j:Nat} {x:Str} {ps:List Str} {sp:Sp} {e:Expr} {es:List Expr} {t:TA} {p pos:Pos}
theorem bw (F:FnAt X.prog X.w X.K X.mg X.base k x ps sp) (hr:jg k X.A) (hg:Gl X x) (ha:PA X (e::es) t) (hd:(x==("__debug__" :Str))=false:=by decide)
 (he:starEach (e::es) X.env=(false,eval e X.env)::starEach es X.env:=by rfl) (hpl:(backTo pos (starEach es X.env)).any (·.1)=false:=by rfl):
 PE X (.Call (.Name x p) (e::es) [] pos) (vQ sp [] E0 t):=by
 obtain ⟨f,fd,G,hm,hk,hb⟩:=F;exact Kv G hr hg hm hk hb .nil R4 ha (hdb:=hd) (he:=he) (hpl:=hpl)
end
theorem Jl:bootBuiltins "abs" = some (.builtin "abs"):=by kernel_rfl
theorem Ac:bootBuiltins "all" = some (.builtin "all"):=by kernel_rfl
theorem gj:bootBuiltins "len" = some (.builtin "len"):=by kernel_rfl
theorem QT:bootBuiltins "min" = some (.builtin "min"):=by kernel_rfl
theorem QV:bootBuiltins "max" = some (.builtin "max"):=by kernel_rfl
theorem tQ:bootBuiltins "sorted" = some (.builtin "sorted"):=by kernel_rfl
theorem cL:bootBuiltins "isinstance" = some (.builtin "isinstance"):=by kernel_rfl
theorem vd:bootBuiltins "int" = some (.type "int"):=by kernel_rfl
theorem CQ:bootBuiltins "bool" = some (.type "bool"):=by kernel_rfl
theorem mZ:bootBuiltins "list" = some (.type "list"):=by kernel_rfl
theorem xY:bootBuiltins "tuple" = some (.type "tuple"):=by kernel_rfl
section
variable {X:Cx}
theorem KC:o8 X (binaryOp .Mult) (rI IntMulOk fun i j=> .int (i*j)):=R8 fun _ _ _ _ _ _ _ hc q=>mul_int q hc
end
def Kp (r:Addr) (H H':Hp):Prop:=∀b o,H b=some o->b≠r->H' b=some o
theorem Kp.of_same {r:Addr} {H H':Hp} (h:Same H H'):Kp r H H':=fun b o e _=>h b o e
theorem Kp.trans {r:Addr} {H H1 H2:Hp} (a:Kp r H H1) (b:Kp r H1 H2):Kp r H H2:=fun c o h n=>b c o (a c o h n) n
theorem Kp.refl (r:Addr) (H:Hp):Kp r H H:=fun _ _ h _=>h
theorem Kp.set {r:Addr} {H:Hp} {o:HO}:Kp r H (upd H r o):=fun b u e n=>by rw [aP n];exact e
theorem aD {H:Hp} {p:Addr} {o:HO} (h:H p=none):Same H (upd H p o):=fun b u e=>by rw [aP (aB e h)];exact e
theorem Same.tups {H H':Hp} (e:Same H H'):∀a xs,H a=some (HO.tup xs)->H' a=some (HO.tup xs):=fun a xs h=>e _ _ h
theorem Same.sqL {K:PySem.W.Frag} {H H':Hp} (e:Same H H'):∀a xs,bf K H a xs->bf K H' a xs:=fun a xs h=>e.seq h
theorem Kp.tups {H H':Hp} {r:Addr} {ys:List V} (e:Kp r H H') (hr:H r=some (.lst ys)):∀a xs,H a=some (HO.tup xs)->H' a=some (HO.tup xs):=fun a xs h=>e _ _ h (iY h hr (by intro z;cases z))
theorem Kp.tups' {H H':Hp} {r:Addr} {kvs:List (Key×V)} (e:Kp r H H') (hr:H r=some (.dK kvs)):∀a xs,H a=some (HO.tup xs)->H' a=some (HO.tup xs):=fun a xs h=>e _ _ h (iY h hr (by intro z;cases z))
end L2
namespace L2
open PySem PySem.Spec PyProof.Rows
section
variable {X:Cx} {K:PySem.W.Frag}
theorem aK (h:X.K=K):UW X (Pa K):=by subst h;exact Ld
theorem aQ (h:X.K=K):UW X (wj K):=by subst h;exact Qk
theorem mj (h:X.K=K):Uy X (RQ K):=by subst h;exact J6
theorem kJ (h:X.K=K):Uy X (RP K):=by subst h;exact Ov
def RX (K:PySem.W.Frag):List V->Hp->VK->Prop:=fun xs H Q=>∃(p:Addr) (ys:List V),xs=[.ref p]/\(bf K H p ys\/dG K H p ys)/\Q (.int ys.length) H
theorem aZ (h:X.K=K):fO X (.builtin "len") (RX K):=by subst h;exact u_
def Kc (K:PySem.W.Frag):List V->Hp->VK->Prop:=fun xs H Q=>∃(p:Addr) (ys:List V),xs=[.ref p]/\(bf K H p ys\/dG K H p ys) /\ ∀l,H l=none->Q (.ref l) (upd H l (.lst ys))
theorem gC (h:X.K=K):fO X (.type "list") (Kc K):=by subst h;exact u9
def RZ (K:PySem.W.Frag):List V->Hp->VK->Prop:=fun xs H Q=>∃(p:Addr) (bs:List Bool),xs=[.ref p]/\bf K H p (bs.map V.bl)/\Q (.bl (bs.all id)) H
theorem gP (h:X.K=K) (hc:X.calm=true):fO X (.builtin "all") (RZ K):=by subst h;exact qZ hc
theorem KD (h:X.K=K) (hu:X.A.units+64<cLine):o8 X (compareOp .Eq) (Kf false):=by subst h;exact Pr hu
theorem Kz (h:X.K=K) (hu:X.A.units+64<cLine):o8 X (compareOp .NotEq) (Kf true):=by subst h;exact Pq hu
theorem cP {tg l:Expr} {tl:TE} (h:X.K=K) (hl:PE X l tl):PI X tg l (Np K tl):=by subst h;exact Ks hl
theorem Bs {tg l:Expr} {tl:TE} (h:X.K=K) (hl:PE X l tl):PI X tg l (Te K tl):=by subst h;exact Pg hl
def W0 (K:PySem.W.Frag) (c:Value) (cv:V):List V->Hp->VK->Prop:=fun xs H Q=>∃x t b,xs=[x,cv]/\m5 K H x t/\PySem.W.kitOne K t c=some b/\Q (.bl b) H
theorem gb {c:Value} {cv:V} (h:X.K=K) (rc:RelV cv c):fO X (.builtin "isinstance") (W0 K c cv):=by subst h;exact Ji rc
theorem cZ {o e:Expr} {to:TE} {t:TA} {apos cpos:Pos} (h:X.K=K) (ho:PE X o to) (ha:PA X [e] t)
 (hbase:attributeBase o "append" X.env (eval o X.env)=eval o X.env:=by rfl)
 (hfew:((backTo cpos (starEach [e] X.env)).all (fun x=> !x.1)&&(backToKw cpos (keywordEach [] X.env)).all (fun x=>x.1.isSome)
   && decide (([e]:List Expr).length+([]:List Keyword).length+(if ([]:List Keyword).isEmpty then 0 else 1)<30))=true:=by rfl)
 (hline:(apos.endLine==cpos.line)=true:=by rfl) (hs:starEach [e] X.env=(false,eval e X.env)::starEach [] X.env:=by rfl) (hplain:(backTo cpos (starEach [] X.env)).any (·.1)=false:=by rfl):
 PE X (.Call (.Attribute o "append" apos) [e] [] cpos) (U7 K "list" uE to t):=by
 subst h;exact Nf PySem.F.plainAttrs_list PySem.F.slot_list_append PySem.F.type_list_append nM ho ha hbase hfew hline hs hplain
end
end L2
namespace L2
open PySem
section
variable {K:PySem.W.Frag} {a D:Addr} {xs:List V} {g:TG} {tc:TT} {te:TE} {Q:VK} {σ0:St} {H1:Hp}
theorem nT (Pv:Nat->St->Hp->Prop) (h0:Pv 0 σ0 (upd H1 D (.lst []))) (hl:∀i σ H,i<=xs.length->Pv i σ H->bf K H a xs)
 (hs:∀i x σ H,xs[i]? = some x->Pv i σ H->g x σ H fun σ2 H2=>tc σ2 H2 fun b H3=>
   if b=true then te σ2 H3 fun y H4=>∃acc,H4 D=some (.lst acc)/\acc.length<sizeLine/\Pv (i+1) σ2 (upd H4 D (.lst (acc++[y]))) else Pv (i+1) σ2 H3)
 (hd:∀σ H,Pv xs.length σ H->Q (.ref D) H):m7 (N8 K a) g tc te Q D σ0 H1:=by
 refine ⟨fun i m σ H=>m=xs.length - i/\i<=xs.length/\Pv i σ H,⟨xs.length,by simp,Nat.zero_le _,h0⟩, ?_⟩;rintro i m σ H ⟨rfl,hi,p⟩;have q:=hl i σ H hi p
 by_cases hlt:i<xs.length
 ·refine .inr ⟨⟨xs,xs[i],q,by simp [hlt]⟩,Pv (i+1),fun σ' H' p'=>⟨xs.length - (i+1),by omega,rfl,hlt,p'⟩,fun x H' y=> ?_⟩
  obtain ⟨e,y⟩:=y;subst e;exact hs i x σ _ (y xs q) p
 ·have e:i=xs.length:=by omega
  subst e;exact .inl ⟨⟨xs,q,Nat.le_refl _⟩,hd σ H p⟩
theorem xT (Pv:Nat->St->Hp->Prop) (h0:Pv 0 σ0 (upd H1 D (.lst []))) (hl:∀i σ H,i<=xs.length->Pv i σ H->dG K H a xs)
 (hs:∀i x σ H,xs[i]? = some x->Pv i σ H->g x σ H fun σ2 H2=>tc σ2 H2 fun b H3=>
   if b=true then te σ2 H3 fun y H4=>∃acc,H4 D=some (.lst acc)/\acc.length<sizeLine/\Pv (i+1) σ2 (upd H4 D (.lst (acc++[y]))) else Pv (i+1) σ2 H3)
 (hd:∀σ H,Pv xs.length σ H->Q (.ref D) H):m7 (V4 K a) g tc te Q D σ0 H1:=by
 refine ⟨fun i m σ H=>m=xs.length - i/\i<=xs.length/\Pv i σ H,⟨xs.length,by simp,Nat.zero_le _,h0⟩, ?_⟩;rintro i m σ H ⟨rfl,hi,p⟩;have q:=hl i σ H hi p
 by_cases hlt:i<xs.length
 ·refine .inr ⟨⟨xs,xs[i],q,by simp [hlt]⟩,Pv (i+1),fun σ' H' p'=>⟨xs.length - (i+1),by omega,rfl,hlt,p'⟩,fun x H' y=> ?_⟩
  obtain ⟨e,y⟩:=y;subst e;exact hs i x σ _ (y xs q) p
 ·have e:i=xs.length:=by omega
  subst e;exact .inl ⟨⟨xs,q,Nat.le_refl _⟩,hd σ H p⟩
theorem z9 {lo:Int} {n:Nat} (Pv:Nat->St->Hp->Prop) (h0:Pv 0 σ0 (upd H1 D (.lst [])))
 (hs:∀i σ H,i<n->Pv i σ H->g (.int (lo+i)) σ H fun σ2 H2=>tc σ2 H2 fun b H3=>
   if b=true then te σ2 H3 fun y H4=>∃acc,H4 D=some (.lst acc)/\acc.length<sizeLine/\Pv (i+1) σ2 (upd H4 D (.lst (acc++[y]))) else Pv (i+1) σ2 H3)
 (hd:∀σ H,Pv n σ H->Q (.ref D) H):m7 (Mr lo n) g tc te Q D σ0 H1:=by
 refine ⟨fun i m σ H=>m=n - i/\i<=n/\Pv i σ H,⟨n,by simp,Nat.zero_le _,h0⟩, ?_⟩;rintro i m σ H ⟨rfl,hi,p⟩
 by_cases hlt:i<n
 ·refine .inr ⟨hlt,Pv (i+1),fun σ' H' p'=>⟨n - (i+1),by omega,rfl,hlt,p'⟩,fun x H' y=> ?_⟩
  obtain ⟨e,y⟩:=y;subst e y;exact hs i σ _ hlt p
 ·have e:i=n:=by omega
  subst e;exact .inl ⟨Nat.le_refl _,hd σ H p⟩
end
end L2
set_option Elab.async false
set_option linter.all false
set_option maxRecDepth 100000
set_option maxHeartbeats 4000000
namespace L2
open PySem PySem.Spec PyProof.Rows
section
variable {α:Type} (f:α->PyData)
theorem qY:∀(l:List α),(∀x∈l,(f x).canLay0=true)->PyData.canLayAll0 (l.map f)=true
 | [],_=>rfl
 | a::l,h=>by
   show (PyData.canLay0 (f a)&&PyData.canLayAll0 (l.map f))=true;rw [h a List.mem_cons_self,qY l fun x hx=>h x (List.mem_cons_of_mem _ hx)];rfl
theorem mW (k:Nat):∀(l:List α),(∀x∈l,(f x).depth<=k)->PyData.depthAll (l.map f)<=k
 | [],_=>Nat.zero_le _
 | a::l,h=>by
   show max (PyData.depth (f a)) (PyData.depthAll (l.map f))<=k;exact Nat.max_le.mpr ⟨h a List.mem_cons_self,mW k l fun x hx=>h x (List.mem_cons_of_mem _ hx)⟩
theorem oA {l:List α} (k:Nat) (hk:k<64) (h1:∀x∈l,(f x).canLay0=true) (h2:∀x∈l,(f x).depth<=k):SeqAt.shaped (.list (l.map f))=true:=by
 unfold SeqAt.shaped;have e1:PyData.canLay0 (.list (l.map f))=true:=qY f l h1
 have e2:PyData.depth (.list (l.map f))<=64:=by
  show PyData.depthAll (l.map f)+1<=64;have:=mW f k l h2;omega
 rw [e1,decide_eq_true e2];rfl
theorem qL [DecidableEq α] (h:∀x y,PyData.eqv (f x) (f y)=decide (x=y)):∀(l m:List α),PyData.eqvAll (l.map f) (m.map f)=decide (l=m)
 | [],[]=>rfl
 | [],_::_=>by simp only [List.map_nil,List.map_cons,PyData.eqvAll];exact (decide_eq_false (by intro z;cases z)).symm
 | _::_,[]=>by simp only [List.map_nil,List.map_cons,PyData.eqvAll];exact (decide_eq_false (by intro z;cases z)).symm
 | a::l,b::m=>by
   simp only [List.map_cons,PyData.eqvAll];rw [h a b,qL h l m]
   by_cases e1:a=b
   ·subst e1
    by_cases e2:l=m
    ·subst e2;simp
    ·simp [e2]
   ·simp [e1]
theorem xK [DecidableEq α] (h:∀x y,PyData.eqv (f x) (f y)=decide (x=y)) (l m:List α):PyData.eqv (.list (l.map f)) (.list (m.map f))=decide (l=m):=by
 simp only [PyData.eqv];exact qL f h l m
end
theorem mX {H:Hp} {a:Addr} {vs:List V} {ds:List PyData} (h:H a=some (.lst vs)) (d:aC H vs ds):Dat H (.ref a) (.list ds):=by
 simp only [Dat];exact ⟨a,vs,rfl,h,d⟩
theorem oH (K:PySem.W.Frag):PySem.W.kitOne K (.type "int") (.type "int")=some true:=rfl
theorem mO (K:PySem.W.Frag):PySem.W.kitOne K (.type "int") (.type "bool")=some false:=by kernel_rfl
theorem rO (K:PySem.W.Frag):PySem.W.kitOne K (.type "list") (.type "list")=some true:=rfl
theorem jX (K:PySem.W.Frag):PySem.W.kitOne K (.type "tuple") (.type "tuple")=some true:=rfl
end L2
namespace L2
open PySem
theorem qP (xs:List V) (k:Nat):jz xs none (some (k:Int))=xs.take k:=by
 unfold jz;rw [HT.qe,HT.uD,List.drop_zero,Nat.sub_zero]
 by_cases h:k<=xs.length
 ·rw [Nat.min_eq_left h]
 ·rw [Nat.min_eq_right (by omega),List.take_of_length_le (Nat.le_refl _),List.take_of_length_le (by omega)]
theorem xQ (xs:List V) (k:Nat):jz xs (some (k:Int)) none=xs.drop k:=by
 unfold jz;rw [HT.qe,HT.uD]
 by_cases h:k<=xs.length
 ·rw [Nat.min_eq_left h,List.take_of_length_le (by rw [List.length_drop];exact Nat.le_refl _)]
 ·rw [Nat.min_eq_right (by omega),Nat.sub_self,List.take_zero,List.drop_of_length_le (by omega)]
end L2
set_option Elab.async false
set_option linter.all false
set_option maxRecDepth 100000
set_option maxHeartbeats 4000000
namespace PySem.W
open PySem PySem.Spec PySem.Calls PyProof.Rows
section
variable {prog:Program} {w:World} {A:Around} {E:Value->Shared->Prop} {s:Shared} {K:Frag} {x D:Addr} {ox:Obj} {odo:Option Obj} {name:Str}
end
end PySem.W
set_option Elab.async false
set_option linter.all false
set_option maxRecDepth 100000
set_option maxHeartbeats 4000000
namespace L2
open PySem PySem.Spec PyProof.Rows
section
variable {M:Model} {A:Around} {E:Value->Shared->Prop} {s:Shared} {base:Heap} {env:Env} {outer:List Env} {L e:Addr}
end
section
variable {X:Cx} {pins:List (Addr×Obj)} {σ:St} {H:Hp} {s:Shared} {e:Addr}
end
end L2
set_option Elab.async false
set_option linter.all false
set_option maxRecDepth 100000
set_option maxHeartbeats 4000000
namespace L2
open PySem PySem.Spec PyProof.Rows
section
variable {X:Cx} {k:Nat} {x:Str} {ps:List Str} {sp:Sp} {e:Expr} {es:List Expr} {t:TA} {p pos:Pos} {E:St->XK}
end
section
variable {P:Program} {w:World} {K:PySem.W.Frag} {mg:Str->Option Value} {base:Heap}
end
section
variable {X:Cx} {E:St->XK} {x:Str} {C:Addr} {B newId initId:String} {bmB:List Value} {e0:Expr} {rest:List Expr} {ta:TA} {np cpos pos:Pos}
end
section
variable {X:Cx} {pins:List (Addr×Obj)} {σ:St} {H:Hp} {s:Shared}
end
section
variable {M:Model} {A:Around} {Er:Value->Shared->Prop} {s:Shared} {K:PySem.W.Frag} {e C D:Addr}
end
end L2
set_option Elab.async false
set_option linter.all false
set_option maxRecDepth 100000
set_option maxHeartbeats 4000000
namespace L2
open PySem PySem.Spec PyProof.Rows
section
variable {X:Cx} {pins:List (Addr×Obj)} {σ:St} {H:Hp} {s:Shared}
end
section
variable {X:Cx} {body suite:List Stmt} {b0:Stmt} {n cn:Str} {i:Nat} {Dc:Addr} {tb:(St->XK)->TS} {th:TS} {cp hpos pos:Pos}
end
section
variable {X:Cx} {K:PySem.W.Frag}
end
end L2
set_option Elab.async false
set_option linter.all false
set_option maxRecDepth 100000
set_option maxHeartbeats 4000000
namespace L2
open PySem PySem.Spec PyProof.Rows
section
variable {X:Cx} {K:PySem.W.Frag}
end
end L2
namespace L2
open PySem
end L2
set_option Elab.async false
set_option linter.all false
set_option maxRecDepth 100000
set_option maxHeartbeats 4000000
namespace L2
open PySem PySem.Spec PyProof.Rows
section
variable {X:Cx} {pins:List (Addr×Obj)} {σ:St} {H:Hp} {s:Shared} {h':Heap}
theorem Inv.Bb {t':Nat} {fp:List Addr} (I:Inv X pins σ H s) (hf:∀b∈fp,jW X pins H b) (k:∀b o,b∉fp->s.heap.get? b=some o->h'.get? b=some o):Inv X pins σ H {s with heap:=h',toks:=t'}:=by
 have K4:∀b u,H b=some u->b∉fp:=fun b u e z=>by rw [(hf b z).1] at e;cases e
 refine I.step (g':=s.gens) (d':=s.drawn) (ch:=fp) (fun b hb=> ?_) (fun b o _ _ hc e _=>k b o hc e) (fun b o _ _ hc e _=>⟨o.slots,k b o hc e⟩) (fun _ _ _ _ n=>n)
  (fun b o hc e=>⟨o,k b o hc e⟩) (fun _ _ e=>e) (fun _ _ _ e=>e) (fun b ps e=>⟨#[],by rw [e];simp⟩) (fun m hm=> ?_) (fun b u e=> ?_) I.bare
 ·obtain ⟨f0,f1,f2,f3,f4,f5⟩:=hf b hb
  exact ⟨f3,f1,f4,f5⟩
 ·obtain ⟨o,es,ep,ho,r⟩:=hm
  exact ⟨o,es,ep,k _ o (fun z=>(hf _ z).2.1 rfl) ho,r⟩
 ·refine (I.hok b u e).stay (fun c v hc q=>k c v ?_ q) (fun _ q=>q) fun _ _ q=>q
  rcases hc with z|z
  ·rw [z];exact K4 b u e
  ·exact K4 c _ z
theorem jW.upd {b p:Addr} {o:HO} (h:jW X pins H b) (n:b≠p):jW X pins (upd H p o) b:=by
 obtain ⟨f0,r⟩:=h;exact ⟨by rw [aP n];exact f0,r⟩
theorem Iz {h:Heap} {o u:Obj} {b:Addr} (ho:o.isFreed=false) (e:(h.push o).get? b=some u):(b=h.objs.size/\u=o)\/h.get? b=some u:=by
 by_cases hb:b=h.objs.size
 ·subst hb
  rw [Heap.get?_push_size _ ho] at e;exact .inl ⟨rfl,(Option.some.inj e).symm⟩
 ·refine .inr ?_
  have lt:=Heap.lt_size e
  have lt2:b<h.objs.size:=by
   have:(h.push o).objs.size=h.objs.size+1:=by simp [Heap.push]
   rw [this] at lt;exact Nat.lt_of_le_of_ne (Nat.le_of_lt_succ lt) hb
  have:(h.push o).get? b=h.get? b:=by
   simp only [Heap.get?,Heap.push];rw [Array.getElem?_push_lt lt2,Array.getElem?_eq_getElem lt2]
  rw [←this];exact e
end
def Ite (K:PySem.W.Frag) (l:Addr):It:=
 ⟨fun i H=>∃xs x,bf K H l xs/\xs[i]? = some x,fun i H x H'=>∃(p:Addr) (y:V),x = .ref p/\H p=none/\(∀xs,bf K H l xs->xs[i]? = some y)/\H'=upd H p (.tup [.int i,y]),fun i H=>∃xs,bf K H l xs/\xs.length<=i⟩
theorem Dm {P:Program} {w:World} {K:PySem.W.Frag} {elts:List Expr} {x1:Nat} {pos:Pos} (l e it:Addr) (hne:e≠it):Turn P w K (.Tuple elts x1 pos) (Ite K l) [e,it] e (fun i h=>(∃old,IsEnum h e it i old)/\h.IsListIter it l i) where
 mem:=by simp
 obj:=fun i h st b hb=>by
  obtain ⟨⟨old,he⟩,o,ho,c,d⟩:=st;have hb':b=e\/b=it:=by simpa using hb
  rcases hb' with rfl|rfl
  ·exact ⟨_,he,fun v z=>by cases z⟩
  ·exact ⟨o,ho,fun v z=>by rw [d] at z;cases z⟩
 keep:=fun i h h' st k=>by
  obtain ⟨⟨old,he⟩,o,ho,c,d⟩:=st;exact ⟨⟨old,k e (by simp) _ he⟩,o,k it (by simp) _ ho,c,d⟩
 item:=by
  intro X hP hw hK hc i pins s σ H E I hf st hg;subst hP hw hK;obtain ⟨xs,x,hq,hx⟩:=hg;obtain ⟨its,rv,p,hz⟩:=I.list hq;obtain ⟨u,hu,ru⟩:=rv.get hx;obtain ⟨⟨old,he⟩,hi⟩:=st;have elt:=Heap.lt_size he;have ilt:it<s.heap.objs.size:=by obtain ⟨o,ho,_⟩:=id hi;exact Heap.lt_size ho
  refine wpAny_pyNext_enum_item he hi p.isList (x:=u) (by simpa using hu) hne fun h' hout hit htup hsz hk=> ?_;refine ⟨_,rfl, ?_⟩;refine wpAny_letOwnedTupleGo_enum hout fun h2 he2 sb=> ?_;have hfr:H s.heap.objs.size=none:=I.hok.fresh (Nat.le_refl _)
  have I0:Inv X pins σ (upd H s.heap.objs.size (.tup [.int i,x])) {s with heap:=s.heap.push {cls:= .type "tuple",data:= .seq #[.int i s.toks,u]}}:=
   I.laid (t':=s.toks) (fun b u e=>Heap.get?_push_of_some _ e) (Nat.le_refl _) ⟨by show 2<=sizeLine;decide,[.int i s.toks,u],.cons ⟨_,rfl⟩ (.cons ru .nil),⟨_,Heap.get?_push_size _ rfl,rfl,_,rfl⟩⟩
  have ne1:e≠s.heap.objs.size:=Nat.ne_of_lt elt;have ne2:it≠s.heap.objs.size:=Nat.ne_of_lt ilt
  have hf0:∀b∈[e,it],jW X pins (upd H s.heap.objs.size (.tup [.int i,x])) b:=fun b hb=>by
   have hb':b=e\/b=it:=by simpa using hb
   rcases hb' with rfl|rfl
   ·exact (hf _ (by simp)).upd ne1
   ·exact (hf _ (by simp)).upd ne2
  have I1:=I0.Bb (h':=h2) (t':=s.toks+1) hf0 (fun b o hb eb=>by
   have b1:b≠e:=fun z=>hb (by simp [z]);have b2:b≠it:=fun z=>hb (by simp [z]);rw [sb.2 b b1];rcases Iz rfl eb with ⟨rfl,rfl⟩|eb
   ·exact htup
   ·exact hk b o b1 b2 eb)
  refine ⟨.ref s.heap.objs.size,_,I1,rfl,⟨s.heap.objs.size,x,rfl,hfr,fun ys hy=>by rw [I.wW hy hq];exact hx,rfl⟩,⟨⟨u,he2⟩, ?_⟩,fun b hb=>(hf0 b hb).1⟩;obtain ⟨o,ho,c,d⟩:=hit;exact ⟨o,(sb.2 it (Ne.symm hne)).trans ho,c,d⟩
 done:=by
  intro X hP hw hK hc i pins s σ H E I hf st hg;subst hP hw hK;obtain ⟨xs,hq,hx⟩:=hg;obtain ⟨its,rv,p,hz⟩:=I.list hq;obtain ⟨⟨old,he⟩,hi⟩:=st;have hl:=rv.length;exact wpAny_pyNext_enum_end (I.ok.hd hc) he hi p.isList (by simp;omega) fun h' eb=>⟨rfl,I.Bb (t':=s.toks) hf (fun b o hb e=>eb b o (fun z=>hb (by simp [z])) e)⟩
 self:=fun _ _ _ _ _ st h=>by
  obtain ⟨⟨old,he⟩,_⟩:=st;exact wpAny_pyIter_enum he h
section
variable {X:Cx}
def Ti (K:PySem.W.Frag) (ta:TA):TI:=fun σ H R=>ta σ H fun vs H1=>∃l xs,vs=[.ref l]/\bf K H1 l xs/\R (Ite K l) H1
theorem vf:bootBuiltins "enumerate" = some (.type "enumerate"):=by kernel_rfl
theorem mG {K:PySem.W.Frag} {a:Expr} {ta:TA} {p pos:Pos} {elts:List Expr} {x1:Nat} {tpos:Pos} (hK:X.K=K) (hg:Gl X "enumerate") (hm:X.mg "enumerate" = none) (ha:PA X [a] ta) (hs:starEach [a] X.env=[(false,eval a X.env)]:=by rfl):PI X (.Tuple elts x1 tpos) (.Call (.Name "enumerate" p) [a] [] pos) (Ti K ta):=by
 subst hK;intro pins s σ H R I h;refine Call_ (lV I hg hm vf (PyProof.Rows.callWith_type1 (cC (ha pos pins s σ H _ I h) fun us s1 ⟨vs,H1,I1,r1,q1⟩=> ?_) hs rfl));obtain ⟨l,xs,e,hq,q⟩:=q1;subst e;cases r1 with
 | cons r rr=>
   cases rr;cases r;obtain ⟨its,rv,pl,hz⟩:=I1.list hq;refine call_enumerate_list pl.isList fun h' hE hI hsz hk=> ?_;refine wpAny_pyIter_enum hE ?_;have I2:Inv X pins σ H1 {s1 with heap:=h'}:=I1.kept (t':=s1.toks) hk;refine ⟨s1.heap.objs.size+1,[s1.heap.objs.size+1,s1.heap.objs.size],_,_,H1,rfl,I2,Dm l _ _ (by simp),⟨⟨_,hE⟩,hI⟩,fun b hb=> ?_,q⟩;have hb':b=s1.heap.objs.size+1\/b=s1.heap.objs.size:=by simpa using hb
   rcases hb' with rfl|rfl
   ·exact I1.qK (Nat.le_succ _) (I1.hok.fresh (Nat.le_succ _))
   ·exact I1.qK (Nat.le_refl _) (I1.hok.fresh (Nat.le_refl _))
end
section
variable {X:Cx}
end
end L2
set_option Elab.async false
set_option linter.all false
set_option maxRecDepth 100000
set_option maxHeartbeats 4000000
namespace L2
open PySem PySem.Spec PyProof.Rows
section
variable {K:PySem.W.Frag} {a l1 l2 D:Addr} {xs ys:List V} {g:TG} {tc:TT} {te:TE} {Q:VK} {σ0:St} {H1:Hp}
end
section
variable {K:PySem.W.Frag} {a l1 l2:Addr} {xs ys:List V} {g:TG} {tb:TS} {D:Ends} {σ:St} {H:Hp}
theorem mV (Pv:Nat->St->Hp->Prop) (h0:Pv 0 σ H) (hl:∀i σ H,i<=xs.length->Pv i σ H->bf K H a xs)
 (hs:∀i x σ H p,xs[i]? = some x->Pv i σ H->H p=none->g (.ref p) σ (upd H p (.tup [.int i,x])) fun σ2 H2=>tb {D with nx:=Pv (i+1),ct:=Pv (i+1),bk:=D.nx} σ2 H2) (hd:∀σ H,Pv xs.length σ H->D.nx σ H):
 ∃W:Nat->Nat->St->Hp->Prop,(∃m,W 0 m σ H) /\ ∀i m σ H,W i m σ H ->
  ((Ite K a).stop i H/\D.nx σ H)\/((Ite K a).go i H /\ ∃N:St->Hp->Prop,(∀σ' H',N σ' H' -> ∃m',m'<m/\W (i+1) m' σ' H') /\ ∀x H',(Ite K a).Mv i H x H'->g x σ H' fun σ2 H2=>tb {D with nx:=N,ct:=N,bk:=D.nx} σ2 H2):=by
 refine ⟨fun i m σ H=>m=xs.length - i/\i<=xs.length/\Pv i σ H,⟨xs.length,by simp,Nat.zero_le _,h0⟩, ?_⟩;rintro i m σ H ⟨rfl,hi,p⟩;have q:=hl i σ H hi p
 by_cases hlt:i<xs.length
 ·refine .inr ⟨⟨xs,xs[i],q,by simp [hlt]⟩,Pv (i+1),fun σ' H' p'=>⟨xs.length - (i+1),by omega,rfl,hlt,p'⟩,fun x H' y=> ?_⟩
  obtain ⟨t,z,rfl,ht,hz,rfl⟩:=y;exact hs i z σ _ t (hz xs q) p ht
 ·have e:i=xs.length:=by omega
  subst e;exact .inl ⟨⟨xs,q,Nat.le_refl _⟩,hd σ H p⟩
end
section
variable {X:Cx}
theorem zJ {K:PySem.W.Frag} {T name id:String} {r:V->List V->Hp->VK->Prop} {o e:Expr} {es:List Expr} {to:TE} {t:TA} {apos cpos:Pos} (h:X.K=K) (pa:PlainAttrs T) (slot:Slot T name id) (hty:typeOf (.builtin id)=pure (.type "method_descriptor")) (hm:MtR X id r) (ho:PE X o to) (ha:PA X (e::es) t)
 (hbase:attributeBase o name X.env (eval o X.env)=eval o X.env:=by rfl)
 (hfew:((backTo cpos (starEach (e::es) X.env)).all (fun x=> !x.1)&&(backToKw cpos (keywordEach [] X.env)).all (fun x=>x.1.isSome)
   && decide ((e::es).length+([]:List Keyword).length+(if ([]:List Keyword).isEmpty then 0 else 1)<30))=true:=by rfl)
 (hline:(apos.endLine==cpos.line)=true:=by rfl) (hs:starEach (e::es) X.env=(false,eval e X.env)::starEach es X.env:=by rfl) (hplain:(backTo cpos (starEach es X.env)).any (·.1)=false:=by rfl):
 PE X (.Call (.Attribute o name apos) (e::es) [] cpos) (U7 K T r to t):=by
 subst h;exact Nf pa slot hty hm ho ha hbase hfew hline hs hplain
theorem mH {K:PySem.W.Frag} {es:List Expr} {k:Nat} {t:JN} {n:Nat} {pos:Pos} (hK:X.K=K) (hc:X.calm=true) (h:Rk X es t)
 (hn:(assignEach es X.env).length=n:=by rfl) (hst:(assignEach es X.env).findIdx? (·.1)=none:=by rfl):PG X (.Tuple es k pos) (Tz K n t):=by subst hK;exact Ph hc h hn hst
end
end L2
set_option Elab.async false
set_option linter.all false
set_option maxRecDepth 100000
set_option maxHeartbeats 4000000
namespace L2
open PySem
section
variable {K:PySem.W.Frag} {a D:Addr} {xs:List V} {tc:TT} {te:TE} {Q:VK} {rest:St} {H1:Hp}
theorem dF {α:Type} (f:Nat->Option α) (n:Nat):(List.range (n+1)).filterMap f=(List.range n).filterMap f++(f n).toList:=by
 rw [List.range_succ,List.filterMap_append];cases h:f n<;>simp [h]
theorem nR {α:Type} (f:Nat->Option α) (n:Nat):((List.range n).filterMap f).length<=n:=by
 have:=List.length_filterMap_le f (List.range n);simpa using this
theorem Same.newly {H H1:Hp} {D:Addr} {o:HO} (h:Same H H1) (n:H D=none):Same H (upd H1 D o):=fun b u e=>by rw [aP (aB e n)];exact h b u e
theorem xR (f:Nat->Option V) (hD:H1 D=none) (hq:bf K H1 a xs) (hx:xs.length<=100000)
 (hs:∀i x H (G:Hp->Prop) (F:VK),xs[i]? = some x->Same H1 H->(∀H',Same H H'->f i=none->G H')->(∀y H',Same H H'->f i=some y->F y H')->tc (some x::rest) H fun b H3=>if b=true then te (some x::rest) H3 F else G H3)
 (hd:∀H,Same H1 H->H D=some (.lst ((List.range xs.length).filterMap f))->Q (.ref D) H):m7 (N8 K a) (jZ 0) tc te Q D (none::rest) H1:=by
 refine nT (K:=K) (xs:=xs) (fun i σ H=>(∃v,σ=v::rest)/\Same H1 H/\H D=some (.lst ((List.range i).filterMap f))) ⟨⟨none,rfl⟩,aD hD,ak⟩ (fun i σ H _ ⟨_,sm,_⟩=>sm.sqL _ _ hq) ?_ (fun σ H ⟨_,sm,e⟩=>hd H sm e);rintro i x σ H hi ⟨⟨v,rfl⟩,sm,e⟩;have hil:i<xs.length:=(List.getElem?_eq_some_iff.mp hi).1;refine hs i x H _ _ hi sm (fun H3 s3 ef=>⟨⟨_,rfl⟩,sm.trans s3,by rw [s3 _ _ e,dF,ef];simp⟩) (fun y H4 s4 ef=> ?_);refine ⟨_,s4 _ _ e, ?_,⟨_,rfl⟩,(sm.trans s4).newly hD, ?_⟩
 ·have:=nR f i
  rw [sizeLine_eq];omega
 ·rw [ak,dF,ef];rfl
theorem E_ (f:Nat->Option V) (hD:H1 D=none) (hq:H1 a=some (.tup xs)) (hx:xs.length<=100000)
 (hs:∀i x H (G:Hp->Prop) (F:VK),xs[i]? = some x->Same H1 H->(∀H',Same H H'->f i=none->G H')->(∀y H',Same H H'->f i=some y->F y H')->tc (some x::rest) H fun b H3=>if b=true then te (some x::rest) H3 F else G H3)
 (hd:∀H,Same H1 H->H D=some (.lst ((List.range xs.length).filterMap f))->Q (.ref D) H):m7 (V4 K a) (jZ 0) tc te Q D (none::rest) H1:=by
 refine xT (K:=K) (xs:=xs) (fun i σ H=>(∃v,σ=v::rest)/\Same H1 H/\H D=some (.lst ((List.range i).filterMap f))) ⟨⟨none,rfl⟩,aD hD,ak⟩ (fun i σ H _ ⟨_,sm,_⟩=>dG.of (sm.tups _ _ hq)) ?_ (fun σ H ⟨_,sm,e⟩=>hd H sm e);rintro i x σ H hi ⟨⟨v,rfl⟩,sm,e⟩;have hil:i<xs.length:=(List.getElem?_eq_some_iff.mp hi).1;refine hs i x H _ _ hi sm (fun H3 s3 ef=>⟨⟨_,rfl⟩,sm.trans s3,by rw [s3 _ _ e,dF,ef];simp⟩) (fun y H4 s4 ef=> ?_);refine ⟨_,s4 _ _ e, ?_,⟨_,rfl⟩,(sm.trans s4).newly hD, ?_⟩
 ·have:=nR f i
  rw [sizeLine_eq];omega
 ·rw [ak,dF,ef];rfl
theorem lq {n:Nat} (f:Nat->Option V) (hD:H1 D=none) (hx:n<=100000)
 (hs:∀i H (G:Hp->Prop) (F:VK),i<n->Same H1 H->(∀H',Same H H'->f i=none->G H')->(∀y H',Same H H'->f i=some y->F y H')->tc (some (.int (0+i))::rest) H fun b H3=>if b=true then te (some (.int (0+i))::rest) H3 F else G H3)
 (hd:∀H,Same H1 H->H D=some (.lst ((List.range n).filterMap f))->Q (.ref D) H):m7 (Mr 0 n) (jZ 0) tc te Q D (none::rest) H1:=by
 refine z9 (lo:=0) (n:=n) (fun i σ H=>(∃v,σ=v::rest)/\Same H1 H/\H D=some (.lst ((List.range i).filterMap f))) ⟨⟨none,rfl⟩,aD hD,ak⟩ ?_ (fun σ H ⟨_,sm,e⟩=>hd H sm e);rintro i σ H hi ⟨⟨v,rfl⟩,sm,e⟩;refine hs i H _ _ hi sm (fun H3 s3 ef=>⟨⟨_,rfl⟩,sm.trans s3,by rw [s3 _ _ e,dF,ef];simp⟩) (fun y H4 s4 ef=> ?_);refine ⟨_,s4 _ _ e, ?_,⟨_,rfl⟩,(sm.trans s4).newly hD, ?_⟩
 ·have:=nR f i
  rw [sizeLine_eq];omega
 ·rw [ak,dF,ef];rfl
theorem iH {α β:Type} {f g:α->Option β}:∀(l:List α) (_:True) (h:∀x∈l,f x=g x),l.filterMap f=l.filterMap g
 | [],_,_=>rfl
 | x::l,_,h=>by
   rw [List.filterMap_cons,List.filterMap_cons,h x (by simp),iH l trivial fun y hy=>h y (by simp [hy])]
theorem snocInd {α:Type} {P:List α->Prop} (h0:P []) (hs:∀xs x,P xs->P (xs++[x])) (xs:List α):P xs:=by
 rw [←List.reverse_reverse xs]
 induction xs.reverse with
 | nil=>exact h0
 | cons x l ih=>rw [List.reverse_cons];exact hs _ _ ih
theorem Cu {α β:Type} (xs:List α) (g:α->β):(List.range xs.length).filterMap (fun i=>(xs[i]?).map g)=xs.map g:=by
 refine snocInd (P:=fun xs=>(List.range xs.length).filterMap (fun i=>(xs[i]?).map g)=xs.map g) rfl (fun xs x ih=> ?_) xs
 ·show (List.range (xs++[x]).length).filterMap (fun i=>((xs++[x])[i]?).map g)=(xs++[x]).map g
  rw [List.length_append,List.length_singleton,dF,List.map_append];congr 1
  ·rw [←ih]
   refine iH _ trivial fun i hi=> ?_;have:i<xs.length:=by simpa using hi
   rw [List.getElem?_append_left this]
  ·simp
end
end L2
namespace L2
open PySem
section
variable {X:Cx} {K:PySem.W.Frag}
theorem Hl (h:X.K=K):o8 X (binaryOp .Add) (M_ K):=by subst h;exact KH
end
end L2
namespace L2
open PySem
theorem jH {a b:TS} {D:Ends} {σ:St} {H:Hp} (h:∀R:St->Hp->Prop,(∀σ' H',b D σ' H'->R σ' H')->a {D with nx:=R} σ H):vO a b D σ H:=h _ (fun _ _ x=>x)
theorem Bf {a b:TS} {D:Ends} {σ:St} {H:Hp} (P:St->Hp->Prop) (h1:∀D':Ends,(∀σ' H',P σ' H'->D'.nx σ' H')->D'.rt=D.rt->a D' σ H) (h2:∀σ' H',P σ' H'->b D σ' H'):vO a b D σ H:=h1 _ h2 rfl
end L2
namespace L2
open PySem PySem.Spec PyProof.Rows
section
variable {X:Cx} {K:PySem.W.Frag} {a:Expr} {ta:TE} {pos:Pos}
end
end L2
set_option Elab.async false
set_option linter.all false
set_option maxRecDepth 100000
set_option maxHeartbeats 4000000
namespace L2
open PySem PySem.Spec PyProof.Rows
section
variable {X:Cx} {K:PySem.W.Frag}
def RW:R2:=fun x y H Q=>∃a b,x = .bl a/\y = .bl b/\Q (.bl (!(a==b))) H
theorem Ky:o8 X (compareOp .IsNot) RW:=by
 intro pins s σ H x y v u Q I rx ry h;obtain ⟨a,b,rfl,rfl,q⟩:=h;cases rx;cases ry;exact isnot_bool (bH I q rfl)
end
section
variable {K:PySem.W.Frag} {a D:Addr} {xs:List V} {te:TE} {Q:VK} {rest:St} {H1:Hp}
theorem tL {H:Hp} {vs:List V} {ds:List PyData} {v:V} {d:PyData} (h:aC H vs ds) (hd:Dat H v d):aC H (vs++[v]) (ds++[d]):=aC.append h (by simp only [aC,and_true];exact hd)
end
end L2
set_option Elab.async false
set_option linter.all false
namespace L2
open PySem
end L2
set_option Elab.async false
set_option linter.all false
set_option maxRecDepth 100000
set_option maxHeartbeats 4000000
namespace L2
open PySem PySem.Spec PyProof.Rows
section
variable {prog:Program} {w:World} {K:Type} [DecidableEq K] {knd:HeapKind prog w K}
end
section
variable {X:Cx} {o e f:Expr} {td ty tx:TE} {apos cpos:Pos}
end
end L2
namespace L2
open PySem PySem.Spec PyProof.Rows
section
variable {X:Cx} {K:PySem.W.Frag}
end
end L2
namespace L2
open PySem
end L2
set_option Elab.async false
set_option linter.all false
set_option maxRecDepth 100000
set_option maxHeartbeats 4000000
namespace L2
open PySem PySem.Spec PyProof.Rows
section
variable {X:Cx} {K:PySem.W.Frag}
end
def cat:List Str->Str
 | []=>Str.empty
 | x::xs=>x++cat xs
end L2
set_option Elab.async false
set_option linter.all false
set_option maxRecDepth 100000
set_option maxHeartbeats 4000000
namespace L2
open PySem PySem.Spec PyProof.Rows
section
variable {X:Cx} {body suite:List Stmt} {b0:Stmt} {cn:Str} {Dc:Addr} {tb:(St->XK)->TS} {th:TS} {cp hpos pos:Pos}
end
end L2
namespace L2
open PySem PySem.Spec PyProof.Rows
section
variable {X:Cx}
end
end L2
set_option Elab.async false
set_option linter.all false
set_option maxRecDepth 100000
set_option maxHeartbeats 4000000
namespace L2
open PySem PySem.Spec PyProof.Rows
section
variable {X:Cx} {pins:List (Addr×Obj)} {σ:St} {H:Hp} {s:Shared} {d:Addr} {u u':HO}
theorem Inv.Bh (I:Inv X pins σ H s) (e:H d=some u) (h1:∀xs,u ≠ .tup xs) (h2:∀a,u ≠ .own a) (h3:∀ps,u ≠ .Mw ps) (hz:∀o v,X.H₀ d≠some (.gK o v)) (ok:bJ X.prog X.w (upd H d u') s.heap d u'):Inv X pins σ (upd H d u') s:=by
 have nd:∀{b:Addr},H b=none->b≠d:=fun q z=>by rw [z,e] at q;cases q
 have ht:∀b xs,H b=some (HO.tup xs)->(upd H d u') b=some (HO.tup xs):=fun b xs q=>by
  have:b≠d:=fun z=>by rw [z,e] at q;exact h1 xs (Option.some.inj q)
  rw [aP this];exact q
 refine ⟨I.ok,I.os,I.bare,⟨I.base.keep,I.base.slot,fun b o q n hx=> ?_,I.base.there,fun b xs q=>ht b xs (I.base.tups b xs q),fun b o v q=> ?_,fun b ps q=> ?_⟩,I.loc,I.cell, ?_,fun x c q=> ?_,fun p hp=> ?_,fun b v q=> ?_,I.len⟩
 ·have:=I.base.free b o q n hx
  rw [aP (nd this)];exact this
 ·have:=I.base.mU b o v q
  have nb:b≠d:=fun z=>by rw [z] at q;exact hz o v q
  rw [aP nb];exact this
 ·obtain ⟨more,r⟩:=I.base.pQ b ps q
  have nb:b≠d:=fun z=>by rw [z,e] at r;exact h3 _ (Option.some.inj r)
  exact ⟨more,by rw [aP nb];exact r⟩
 ·rw [aP (nd I.free)];exact I.free
 ·rw [aP (nd (I.jt x c q))];exact I.jt x c q
 ·obtain ⟨q1,q2,q3⟩:=I.pin p hp
  exact ⟨q1,by rw [aP (nd q2)];exact q2,q3⟩
 ·by_cases hb:b=d
  ·subst hb
   rw [ak] at q;cases q;exact ok
  ·rw [aP hb] at q
   refine (I.hok b v q).stay (fun _ _ _ r=>r) (fun c r=> ?_) ht;have:c≠d:=fun z=>by rw [z,e] at r;exact h2 _ (Option.some.inj r)
   rw [aP this];exact r
theorem Inv.Nh {kvs:List (Key×V)} (I:Inv X pins σ H s) (e:H d=some (.dK kvs)):∀o v,X.H₀ d≠some (.gK o v):=fun o v q=>by
 have:=I.base.mU d o v q;rw [e] at this;cases this
theorem Inv.freeze {kvs:List (Key×V)} {o:Obj} (I:Inv X pins σ H s) (e:H d=some (.dK kvs)) (ho:s.heap.get? d=some o):Inv X pins σ (upd H d (.gK o (.dK kvs))) s:=by
 refine I.Bh e (fun _ z=>by cases z) (fun _ z=>by cases z) (fun _ z=>by cases z) (I.Nh e) ⟨ho, ?_⟩;obtain ⟨z,y,vs,r,dd⟩:=(show bJ X.prog X.w H s.heap d (.dK kvs) from I.hok d _ e);exact ⟨z,y,vs,r,dd⟩
theorem Inv.V_ {kvs:List (Key×V)} {o:Obj} (I:Inv X pins σ H s) (e:H d=some (.gK o (.dK kvs))) (hz:∀o v,X.H₀ d≠some (.gK o v)):Inv X pins σ (upd H d (.dK kvs)) s:=by
 refine I.Bh e (fun _ z=>by cases z) (fun _ z=>by cases z) (fun _ z=>by cases z) hz ?_;obtain ⟨_,z,y,vs,r,dd⟩:=(show bJ X.prog X.w H s.heap d (.gK o (.dK kvs)) from I.hok d _ e);exact ⟨z,y,vs,r,dd⟩
end
def U0 (d:Addr) (o:Obj) (kvs:List (Key×V)):It:=
 ⟨fun i H=>i<kvs.length/\H d=some (.gK o (.dK kvs)),fun i H x H'=>H'=H /\ ∃k v,kvs[i]? = some (k,v)/\x=kV k,fun i H=>kvs.length<=i/\H d=some (.gK o (.dK kvs))⟩
theorem Qc {kvs:List (Key×V)} {vs:List (Key×Value)} (r:KV kvs vs):∀(i:Nat) (k:Key) (v:V),kvs[i]? = some (k,v) -> ∃u,vs[i]? = some (k,u):=by
 induction r with
 | nil=>intro i k v h;cases h
 | cons h r ih=>
   intro i k v e;cases i with
   | zero=>
     have e':=Option.some.inj e;rename_i p q _ _;obtain ⟨h1,h2⟩:=h;obtain ⟨q1,q2⟩:=q;refine ⟨q2, ?_⟩;have:q1=k:=by rw [e'] at h1;exact h1.symm
     subst this;rfl
   | succ i=>exact ih i k v (by simpa using e)
theorem Dn {P:Program} {w:World} {K:PySem.W.Frag} {tg:Expr} (d it:Addr) (o:Obj) (kvs:List (Key×V)) (es:Array DictEntry) (ep:Nat) (hd:o.data = .dict es ep):Turn P w K tg (U0 d o kvs) [it] it (fun i h=>h.IsKeyIter it d i kvs.length ep) where
 mem:=by simp
 obj:=fun i h st b hb=>by
  have e:b=it:=by simpa using hb
  subst e;obtain ⟨o,e,c,d⟩:=st;exact ⟨o,e,fun v z=>by rw [d] at z;cases z⟩
 keep:=fun i h h' st k=>by
  obtain ⟨o,e,c,d⟩:=st;exact ⟨o,k it (by simp) o e,c,d⟩
 item:=by
  intro X hP hw hK hc i pins s σ H E I hf st hg;subst hP hw hK;obtain ⟨hi,hH⟩:=hg;obtain ⟨ho,z,y,vs,r,o',es',ep',q1,q2,q3,q4,q5,q6⟩:=(show bJ X.prog X.w H s.heap d (.gK o (.dK kvs)) from I.hok d _ hH);rw [ho] at q1;cases q1;rw [hd] at q3;cases q3;have hl:kvs.length=vs.length:=r.length;obtain ⟨k,v,QF⟩:∃k v,kvs[i]? = some (k,v):=⟨kvs[i].1,kvs[i].2,by simp [hi]⟩;obtain ⟨u,eu⟩:=Qc r i k v QF;obtain ⟨f0,f1,f2,f3,f4,f5⟩:=hf it (by simp);refine wpAny_pyNext_dict_item (knd:=bO X.prog X.w) (by rw [←hl];exact st) ⟨o,es,ho,q2,hd,q4,q5,q6⟩ eu fun key h' hk st' sb=> ?_;have I1:Inv X pins σ H {s with heap:=h'}:=I.turned (t':=s.toks) (fun b o hb e=>(sb.2 b hb).trans e) f0 f1 f3 f4 f5;obtain ⟨ob,e,c,dd⟩:=id st'
  have rk:RelV (kV k) key:=by
   rw [zX] at hk;rcases bZ hk with ⟨j,t,e1,e2⟩|⟨x,t,e1,e2⟩
   ·subst e1;subst e2;exact ⟨t,rfl⟩
   ·subst e1;subst e2;exact ⟨t,rfl⟩
  exact ⟨key,rfl,tG (s:={s with heap:=h'}) e c dd (by decide) ⟨kV k,H,I1,rk,⟨rfl,k,v,QF,rfl⟩,by rw [hl];exact st',fun b hb=>(hf b hb).1⟩⟩
 done:=by
  intro X hP hw hK hc i pins s σ H E I hf st hg;subst hP hw hK;obtain ⟨hi,hH⟩:=hg;obtain ⟨ho,z,y,vs,r,o',es',ep',q1,q2,q3,q4,q5,q6⟩:=(show bJ X.prog X.w H s.heap d (.gK o (.dK kvs)) from I.hok d _ hH);rw [ho] at q1;cases q1;rw [hd] at q3;cases q3;have hl:kvs.length=vs.length:=r.length;obtain ⟨f0,f1,f2,f3,f4,f5⟩:=hf it (by simp);exact wpAny_pyNext_dict_end (knd:=bO X.prog X.w) (I.ok.hd hc) (by rw [←hl];exact st) ⟨o,es,ho,q2,hd,q4,q5,q6⟩ (by simp;omega) fun h' eb=>⟨rfl,I.turned (t':=s.toks) (fun b o hb e=>eb b o hb e) f0 f1 f3 f4 f5⟩
 self:=fun _ _ _ _ _ st h=>wpAny_pyIter_keyiter st h
section
variable {X:Cx} {tg:Expr}
def Tj (tl:TE):TI:=fun σ H R=>tl σ H fun x H1=>∃d kvs,x = .ref d/\H1 d=some (.dK kvs) /\ ∀o,R (U0 d o kvs) (upd H1 d (.gK o (.dK kvs)))
theorem Ku {l:Expr} {tl:TE} (hl:PE X l tl):PI X tg l (Tj tl):=by
 intro pins s σ H R I h;refine cC (hl pins s σ H _ I h) fun v s1 ⟨x,H1,I1,r1,q1⟩=> ?_;obtain ⟨d,kvs,e,hH,q⟩:=q1;subst e;cases r1;obtain ⟨z,hd,vs,r,o,es,ep,ho,q2,q3,q4,q5,q6⟩:=Ja I1.hok hH;refine wpAny_pyIter_dict (knd:=bO X.prog X.w) hd ⟨o,es,ho,q2,q3,q4,q5,q6⟩ ?_;have If:=I1.freeze hH ho;have hl:kvs.length=vs.length:=r.length
 have K4:(upd H1 d (HO.gK o (.dK kvs))) s1.heap.objs.size=none:=by
  rw [aP (Ne.symm (Nat.ne_of_lt (Heap.lt_size ho)))];exact I1.hok.fresh (Nat.le_refl _)
 refine ⟨s1.heap.objs.size,[s1.heap.objs.size],_,_,upd H1 d (.gK o (.dK kvs)),rfl,If.kept (t':=s1.toks) fun b o e=>Heap.get?_push_of_some _ e,Dn d _ o kvs es ep q3,⟨_,Heap.get?_push_size _ rfl,rfl,by rw [hl];rfl⟩,fun b hb=> ?_,q o⟩;have e:b=s1.heap.objs.size:=by simpa using hb
 subst e;exact If.qK (Nat.le_refl _) K4
end
section
variable {d D:Addr} {o:Obj} {kvs:List (Key×V)} {tc:TT} {te:TE} {Q:VK} {rest:St} {H1:Hp}
end
def aaT (H H' Ms:Hp):Prop:=∃d Ig o kvs,H d=some (.dK Ig)/\H' d=some (.gK o (.dK kvs))/\Ms=upd H' d (.dK kvs)
def RL (t:TS):TS:=fun D σ H=>t {D with nx:=fun σ' H'=>∃Ms,aaT H H' Ms/\D.nx σ' Ms} σ H
theorem Kl {X:Cx} {st:Stmt} {t:TS} (h:PS X st t):PS X st (RL t):=by
 intro pins s σ H D I q;refine wpAny_mono (h pins s σ H _ I q) (fun f s1 q1=> ?_) fun _ _ z=>z;cases f with
 | next=>
   obtain ⟨σ1,H1,I1,H2,⟨d,Ig,o,kvs,e1,e2,rfl⟩,q2⟩:=q1;exact ⟨σ1,_,I1.V_ e2 (I.Nh e1),q2⟩
 | brk=>exact q1
 | cont=>exact q1
 | ret u=>exact q1
end L2
set_option Elab.async false
set_option linter.all false
set_option maxRecDepth 100000
set_option maxHeartbeats 4000000
namespace L2
open PySem PySem.Spec PyProof.Rows
theorem IV {d:Addr} {o:Obj} {kvs:List (Key×V)} {g:TG} {tb:TS} {D:Ends} {σ:St} {H:Hp} (Pv:Nat->St->Hp->Prop) (h0:Pv 0 σ H) (hl:∀i σ H,i<=kvs.length->Pv i σ H->H d=some (.gK o (.dK kvs)))
 (hs:∀i k v σ H,kvs[i]? = some (k,v)->Pv i σ H->g (kV k) σ H fun σ2 H2=>tb {D with nx:=Pv (i+1),ct:=Pv (i+1),bk:=D.nx} σ2 H2) (hd:∀σ H,Pv kvs.length σ H->D.nx σ H):
 ∃W:Nat->Nat->St->Hp->Prop,(∃m,W 0 m σ H) /\ ∀i m σ H,W i m σ H ->
  ((U0 d o kvs).stop i H/\D.nx σ H)\/((U0 d o kvs).go i H /\ ∃N:St->Hp->Prop,(∀σ' H',N σ' H' -> ∃m',m'<m/\W (i+1) m' σ' H') /\ ∀x H',(U0 d o kvs).Mv i H x H'->g x σ H' fun σ2 H2=>tb {D with nx:=N,ct:=N,bk:=D.nx} σ2 H2):=by
 refine ⟨fun i m σ H=>m=kvs.length - i/\i<=kvs.length/\Pv i σ H,⟨kvs.length,by simp,Nat.zero_le _,h0⟩, ?_⟩;rintro i m σ H ⟨rfl,hi,p⟩;have q:=hl i σ H hi p
 by_cases hlt:i<kvs.length
 ·refine .inr ⟨⟨hlt,q⟩,Pv (i+1),fun σ' H' p'=>⟨kvs.length - (i+1),by omega,rfl,hlt,p'⟩,fun x H' y=> ?_⟩
  obtain ⟨rfl,k,v,e,rfl⟩:=y;exact hs i k v σ _ e p
 ·have e:i=kvs.length:=by omega
  subst e;exact .inl ⟨⟨Nat.le_refl _,q⟩,hd σ H p⟩
def oG (hs:List Int) (g:Int->Int):List (Key×V):=hs.map fun h=>(Sum.inl h,V.int (g h))
theorem uP {hs:List Int} {g:Int->Int}:∀(h:Int),fL (oG hs g) (Sum.inl h)=if h∈hs then some (V.int (g h)) else none:=by
 intro h
 induction hs with
 | nil=>rfl
 | cons x hs ih=>
   show fL ((Sum.inl x,V.int (g x))::oG hs g) _=_
   by_cases e:x=h
   ·subst e
    rw [dj rfl,if_pos (List.mem_cons_self ..)]
   ·rw [dz (fun z=>e (Sum.inl.inj z)),ih]
    by_cases m:h∈hs
    ·rw [if_pos m,if_pos (List.mem_cons_of_mem _ m)]
    ·rw [if_neg m,if_neg (fun z=>(List.mem_cons.mp z).elim (fun z=>e z.symm) m)]
def xJ (g:Int->Int) (h v:Int):Int->Int:=fun x=>if x=h then v else g x
def hAdd (hs:List Int) (h:Int):List Int:=if h∈hs then hs else hs++[h]
theorem K_ {hs:List Int} {g:Int->Int} (h v:Int):putK (oG hs g) (Sum.inl h) (V.int v)=oG (hAdd hs h) (xJ g h v):=by
 unfold putK hAdd;rw [jk,uP]
 by_cases m:h∈hs
 ·rw [if_pos m,Option.isSome_some,if_pos rfl,if_pos m]
  unfold oG;rw [List.map_map];refine List.map_congr_left fun x _=> ?_;simp only [Function.comp,xJ]
  by_cases e:x=h
  ·subst e;simp
  ·rw [if_neg (fun z=>e (Sum.inl.inj z)),if_neg e]
 ·rw [if_neg m,if_neg (by simp),if_neg m]
  unfold oG;rw [List.map_append];congr 1
  ·refine List.map_congr_left fun x hx=> ?_
   have:x≠h:=fun z=>m (z▸hx);simp only [xJ,if_neg this]
  ·simp [xJ]
theorem qz:∀(n:Nat) (hs:List Int),hs.Nodup->(∀h∈hs,0<=h/\h<(n:Int))->hs.length<=n
 | 0,hs,_,hr=>by
   cases hs with
   | nil=>exact Nat.le_refl _
   | cons x hs=>have:=hr x (List.mem_cons_self ..);omega
 | n+1,hs,nd,hr=>by
   have ih:=qz n (hs.erase (n:Int)) (nd.erase _) fun h hh=>by
    have h1:=(nd.mem_erase_iff).mp hh;have h2:=hr h h1.2;have:=h1.1;omega
   by_cases m:(n:Int)∈hs
   ·rw [List.length_erase_of_mem m] at ih;omega
   ·rw [List.erase_of_not_mem m] at ih;omega
theorem Ls {hs:List Int} {h:Int} (nd:hs.Nodup):(hAdd hs h).Nodup:=by
 unfold hAdd
 by_cases m:h∈hs
 ·rw [if_pos m];exact nd
 ·rw [if_neg m]
  rw [List.nodup_append];exact ⟨nd,by simp,fun a ha b hb e=>by simp at hb;subst hb;subst e;exact m ha⟩
theorem qI {hs:List Int} {h x:Int}:x∈hAdd hs h↔x∈hs\/x=h:=by
 unfold hAdd
 by_cases m:h∈hs
 ·rw [if_pos m]
  exact ⟨.inl,fun z=>z.elim id fun e=>e▸m⟩
 ·rw [if_neg m];simp
structure fK (H:Hp) (d:Addr) (g:Int->Int):Prop where
 ex:∃hs:List Int,H d=some (.dK (oG hs g))/\hs.Nodup/\(∀h∈hs,0<=h/\h<8) /\ ∀h,h∉hs->g h=0
 nn:∀h,0<=g h
theorem fK.get {H:Hp} {d:Addr} {g:Int->Int} (k:fK H d g):∃kvs,H d=some (.dK kvs)/\kvs.length<=8 /\ ∀h:Int,(fL kvs (Sum.inl h)).getD (.int 0) = .int (g h):=by
 obtain ⟨hs,e,nd,r,z⟩:=k.ex;refine ⟨_,e,by rw [oG,List.length_map];exact qz 8 hs nd r,fun h=> ?_⟩;rw [uP]
 by_cases m:h∈hs
 ·rw [if_pos m];rfl
 ·rw [if_neg m,z h m];rfl
theorem fK.put {H:Hp} {d:Addr} {g:Int->Int} {h v:Int} (k:fK H d g) (h0:0<=h) (h1:h<8) (v0:0<=v):∃kvs,H d=some (.dK kvs)/\kvs.length<sizeLine /\ ∀H',H' d=some (.dK (putK kvs (Sum.inl h) (.int v)))->fK H' d (xJ g h v):=by
 obtain ⟨hs,e,nd,r,z⟩:=k.ex;refine ⟨_,e, ?_,fun H' e'=>⟨⟨hAdd hs h,by rw [e',K_],Ls nd,fun x hx=> ?_,fun x hx=> ?_⟩,fun x=> ?_⟩⟩
 ·have:=qz 8 hs nd r
  rw [oG,List.length_map,sizeLine_eq];omega
 ·rcases qI.mp hx with hx|rfl
  ·exact r x hx
  ·exact ⟨h0,h1⟩
 ·have n1:x∉hs:=fun z=>hx (qI.mpr (.inl z))
  have n2:x≠h:=fun z=>hx (qI.mpr (.inr z));unfold xJ;rw [if_neg n2];exact z x n1
 ·unfold xJ
  split
  ·exact v0
  ·exact k.nn x
theorem fK.kp {H H':Hp} {d r:Addr} {g:Int->Int} (k:fK H d g) (kp:Kp r H H') (n:d≠r):fK H' d g:=by
 obtain ⟨hs,e,q⟩:=k.ex;exact ⟨⟨hs,kp _ _ e n,q⟩,k.nn⟩
theorem fK.same {H H':Hp} {d:Addr} {g:Int->Int} (k:fK H d g) (s:Same H H'):fK H' d g:=by
 obtain ⟨hs,e,q⟩:=k.ex;exact ⟨⟨hs,s _ _ e,q⟩,k.nn⟩
theorem fK.ext {H:Hp} {d:Addr} {g g':Int->Int} (k:fK H d g) (e:∀h,g h=g' h):fK H d g':=by
 have:g=g':=funext e;rw [←this];exact k
end L2
set_option Elab.async false
set_option linter.all false
set_option maxRecDepth 100000
set_option maxHeartbeats 4000000
namespace L2
open PySem PySem.Spec PyProof.Rows
def Jy (hi:Int) (n:Nat):It:=⟨fun i _=>i<n,fun i H x H'=>H'=H/\x = .int (hi - i),fun i _=>n<=i⟩
theorem vM {P:Program} {w:World} {K:PySem.W.Frag} {tg:Expr} (it:Addr) (hi:Int) (n:Nat):Turn P w K tg (Jy hi n) [it] it (fun i h=>IsRangeIter h it (hi+(i:Nat)*(-1)) ((n:Int) - (i:Nat)) (-1)) where
 mem:=by simp
 obj:=fun i h st b hb=>by
  have e:b=it:=by simpa using hb
  subst e
  exact ⟨_,st,fun v z=>by
   have z':Data.fields _=Data.cell v:=z;cases z'⟩
 keep:=fun i h h' st k=>k it (by simp) _ st
 item:=by
  intro X hP hw hK hc i pins s σ H E I hf st hg;subst hP hw hK;obtain ⟨f0,f1,f2,f3,f4,f5⟩:=hf it (by simp);have W:=Walks.range (prog:=X.prog) (w:=X.w) (I.ok.hd hc) it hi (-1) n;refine W.item i s _ _ hg st fun v h' tk hv st' kk=> ?_;obtain ⟨t,rfl⟩:=hv;have I1:Inv X pins σ H {s with heap:=h',toks:=tk}:=I.turned (fun b o hb e=>kk b o (by simpa using hb) e) f0 f1 f3 f4 f5;refine ⟨_,rfl,tG (s:={s with heap:=h',toks:=tk}) (n:= "range_iterator") st' rfl rfl (by decide) ⟨.int (hi - i),H,I1,⟨t, ?_⟩,⟨rfl,rfl⟩,st',fun b hb=>(hf b hb).1⟩⟩;congr 1;omega
 done:=by
  intro X hP hw hK hc i pins s σ H E I hf st hg;subst hP hw hK;obtain ⟨f0,f1,f2,f3,f4,f5⟩:=hf it (by simp);exact wpAny_pyNext_range_end (I.ok.hd hc) st (by have:n<=i:=hg;omega) fun h' eb=>⟨rfl,I.turned (t':=s.toks) (fun b o hb e=>eb b o hb e) f0 f1 f3 f4 f5⟩
 self:=fun _ _ _ _ _ st h=>wpAny_pyIter_rangeiter st h
section
variable {X:Cx} {tg:Expr}
theorem MJ (a b:Int):Builtin.Range.rangeSize a b (-1)=if a>b then a - b else 0:=by
 unfold Builtin.Range.rangeSize;rw [if_neg (by decide)];split
 ·simp
 ·rfl
theorem Dr {a b:Int} (h1: -(2 ^ 61)<=a) (h2:a<2 ^ 61) (h3: -(2 ^ 61)<=b) (h4:b<2 ^ 61):Builtin.Range.small a b (-1)=true:=by
 unfold Builtin.Range.small;rw [MJ]
 have fits:∀z:Int, -(2 ^ 63)<=z->z<2 ^ 63->Builtin.Range.rangeFitsLong z=true:=fun z l1 l2=>by
  unfold Builtin.Range.rangeFitsLong;rw [decide_eq_true l1,decide_eq_true l2];rfl
 have f1:=fits (if a>b then a - b else 0) (by split<;>omega) (by split<;>omega);have f2:=fits (b+(-1+1)) (by omega) (by omega);simp only [fits a (by omega) (by omega),fits b (by omega) (by omega),fits (-1) (by decide) (by decide),f1,f2,Bool.and_self,Bool.true_and,show ¬((-1:Int)>0) by decide,if_false,Bool.or_true]
def Tf (ta:TA):TI:=fun σ H R=>ta σ H fun vs H1=>∃i j:Int,vs=[.int i,.int j,.int (-1)]/\(-(2 ^ 61)<=i/\i<2 ^ 61 /\ -(2 ^ 61)<=j/\j<2 ^ 61)/\R (Jy i (i - j).toNat) H1
theorem DQ {a b c:Expr} {ta:TA} {p pos:Pos} (hg:Gl X "range") (hm:X.mg "range" = none) (ha:PA X [a,b,c] ta) (hs:starEach [a,b,c] X.env=[(false,eval a X.env),(false,eval b X.env),(false,eval c X.env)]:=by rfl) (hs2:starEach [b,c] X.env=[(false,eval b X.env),(false,eval c X.env)]:=by rfl):
 PI X tg (.Call (.Name "range" p) [a,b,c] [] pos) (Tf ta):=by
 intro pins s σ H R I h;refine Call_ (lV I hg hm boot_range (PyProof.Rows.callWith_type1 (cC (ha pos pins s σ H _ I h) fun us s1 ⟨vs,H1,I1,r1,q1⟩=> ?_) (by rw [hs,hs2]) (by rw [hs2];rfl)));obtain ⟨i,j,e,⟨q1,q2,q3,q4⟩,q⟩:=q1;subst e;cases r1 with
 | cons r rr=>
   cases rr with
   | cons r' rr=>
     cases rr with
     | cons r'' rr=>
       cases rr;obtain ⟨t,rfl⟩:=r;obtain ⟨t',rfl⟩:=r';obtain ⟨t'',rfl⟩:=r'';refine call_range_3 (by decide) ?_ (.inl (PyProof.noPylong_small (by decide)));refine wpAny_pyIter_range (IsRange.new ..) (Dr q1 q2 q3 q4) ?_;have I2:Inv X pins σ H1 {s1 with heap:=s1.heap.push {cls:= .type "range",data:= .fields #[.int i t,.int j t',.int (-1) t'']}}:=I1.kept (t':=s1.toks) fun b o e=>Heap.get?_push_of_some _ e
       refine ⟨(s1.heap.push {cls:= .type "range",data:= .fields #[.int i t,.int j t',.int (-1) t'']}).objs.size,[(s1.heap.push {cls:= .type "range",data:= .fields #[.int i t,.int j t',.int (-1) t'']}).objs.size],_,_,H1,rfl,
        I2.kept (t':=s1.toks) fun b o e=>Heap.get?_push_of_some _ e,vM _ i (i - j).toNat, ?_,fun b hb=> ?_,q⟩
       ·have e1:i+((0:Nat):Int)*(-1)=i:=by simp
        have e2:(((i - j).toNat:Nat):Int) - ((0:Nat):Int)=Builtin.Range.rangeSize i j (-1):=by rw [MJ];split<;>omega
        show IsRangeIter _ _ (i+((0:Nat):Int)*(-1)) ((((i - j).toNat:Nat):Int) - ((0:Nat):Int)) (-1);rw [e1,e2];exact Heap.get?_push_size _ rfl
       ·have e:b=(s1.heap.push {cls:= .type "range",data:= .fields #[.int i t,.int j t',.int (-1) t'']}).objs.size:=by simpa using hb
        subst e;exact I2.qK (Nat.le_refl _) (I2.hok.fresh (Nat.le_refl _))
theorem z8 {hi:Int} {n:Nat} {g:TG} {tb:TS} {D:Ends} {σ:St} {H:Hp} (Pv:Nat->St->Hp->Prop) (h0:Pv 0 σ H)
 (hs:∀i σ H,i<n->Pv i σ H->g (.int (hi - i)) σ H fun σ2 H2=>tb {D with nx:=Pv (i+1),ct:=Pv (i+1),bk:=D.nx} σ2 H2) (hd:∀σ H,Pv n σ H->D.nx σ H):
 ∃W:Nat->Nat->St->Hp->Prop,(∃m,W 0 m σ H) /\ ∀i m σ H,W i m σ H ->
  ((Jy hi n).stop i H/\D.nx σ H)\/((Jy hi n).go i H /\ ∃N:St->Hp->Prop,(∀σ' H',N σ' H' -> ∃m',m'<m/\W (i+1) m' σ' H') /\ ∀x H',(Jy hi n).Mv i H x H'->g x σ H' fun σ2 H2=>tb {D with nx:=N,ct:=N,bk:=D.nx} σ2 H2):=by
 refine ⟨fun i m σ H=>m=n - i/\i<=n/\Pv i σ H,⟨n,by simp,Nat.zero_le _,h0⟩, ?_⟩;rintro i m σ H ⟨rfl,hi',p⟩
 by_cases hlt:i<n
 ·refine .inr ⟨hlt,Pv (i+1),fun σ' H' p'=>⟨n - (i+1),by omega,rfl,hlt,p'⟩,fun x H' y=> ?_⟩
  obtain ⟨e,y⟩:=y;subst e y;exact hs i σ _ hlt p
 ·have e:i=n:=by omega
  subst e;exact .inl ⟨Nat.le_refl _,hd σ H p⟩
end
end L2
set_option Elab.async false
set_option linter.all false
set_option maxRecDepth 100000
set_option maxHeartbeats 4000000
namespace L2
open PySem PySem.Spec PyProof.Rows
section
variable {X:Cx} {tg:Expr}
end
end L2
set_option Elab.async false
set_option linter.all false
set_option maxRecDepth 100000
set_option maxHeartbeats 4000000
namespace L2
open PySem PySem.Spec PyProof.Rows
section
variable {X:Cx}
end
end L2
set_option Elab.async false
set_option linter.all false
set_option maxRecDepth 100000
set_option maxHeartbeats 4000000
namespace L2
open PySem PySem.Spec PyProof.Rows
section
variable {H H':Hp}
mutual
theorem Dat.same (k:Same H H'):∀(d:PyData) {v:V},Dat H v d->Dat H' v d
 | .none,_,h=>by simp only [Dat] at h ⊢;exact h
 | .bool _,_,h=>by simp only [Dat] at h ⊢;exact h
 | .int _,_,h=>by simp only [Dat] at h ⊢;exact h
 | .str _,_,h=>by simp only [Dat] at h ⊢;exact h
 | .list ds,_,h=>by simp only [Dat] at h ⊢;obtain ⟨a,vs,e,q,r⟩:=h;exact ⟨a,vs,e,k _ _ q,aC.same k ds r⟩
 | .tuple ds,_,h=>by simp only [Dat] at h ⊢;obtain ⟨a,vs,e,q,r⟩:=h;exact ⟨a,vs,e,k _ _ q,aC.same k ds r⟩
 | .dict _,_,h=>by simp only [Dat] at h
theorem aC.same (k:Same H H'):∀(ds:List PyData) {vs:List V},aC H vs ds->aC H' vs ds
 | [],[],_=>by simp only [aC]
 | d::ds,v::vs,h=>by simp only [aC] at h ⊢;exact ⟨Dat.same k d h.1,aC.same k ds h.2⟩
 | _::_,[],h=>by simp only [aC] at h
 | [],_::_,h=>by simp only [aC] at h
end
end
section
variable {X:Cx} {K:PySem.W.Frag}
end
section
variable {K:PySem.W.Frag} {a D:Addr} {xs:List V} {tc:TT} {te:TE} {Q:VK} {rest:St} {H1:Hp}
theorem uU {f:Nat->Option PyData} (hf:∀i d,f i=some d->FN d=true):∀l:List Nat,rP (l.filterMap f)=true
 | []=>rfl
 | i::l=>by
   rw [List.filterMap_cons];cases e:f i with
   | none=>exact uU hf l
   | some d=>simp only [rP,hf i d e,uU hf l,Bool.and_self]
theorem lu (f:Nat->Option PyData) (hf:∀i d,f i=some d->FN d=true) (hD:H1 D=none) (hq:bf K H1 a xs) (hx:xs.length<=100000)
 (hs:∀i x H (G:Hp->Prop) (F:VK),xs[i]? = some x->Same H1 H->(∀H',Same H H'->f i=none->G H')->(∀y d H',Same H H'->f i=some d->Dat H' y d->F y H')->tc (some x::rest) H fun b H3=>if b=true then te (some x::rest) H3 F else G H3)
 (hd:∀H vs,Same H1 H->H D=some (.lst vs)->aC H vs ((List.range xs.length).filterMap f)->Q (.ref D) H):m7 (N8 K a) (jZ 0) tc te Q D (none::rest) H1:=by
 refine nT (K:=K) (xs:=xs) (fun i σ H=>(∃v,σ=v::rest)/\Same H1 H /\ ∃vs,H D=some (.lst vs)/\aC H vs ((List.range i).filterMap f)) ⟨⟨none,rfl⟩,aD hD,[],ak,by simp [aC]⟩ (fun i σ H _ ⟨_,sm,_⟩=>sm.sqL _ _ hq) ?_ (fun σ H ⟨_,sm,vs,e,d⟩=>hd H vs sm e d);rintro i x σ H hi ⟨⟨v,rfl⟩,sm,vs,e,d⟩;have hil:i<xs.length:=(List.getElem?_eq_some_iff.mp hi).1;have im:=uU hf (List.range i);refine hs i x H _ _ hi sm (fun H3 s3 ef=>⟨⟨_,rfl⟩,sm.trans s3,vs,s3 _ _ e, ?_⟩) (fun y dd H4 s4 ef dy=> ?_)
 ·rw [dF,ef]
  simpa using aC.keep s3.tups _ im d
 ·have hl:vs.length<=i:=by rw [d.length];exact nR f i
  have kp:Kp D H4 (upd H4 D (.lst (vs++[y]))):=Kp.set;have tp:=kp.tups (s4 _ _ e);refine ⟨vs,s4 _ _ e, ?_,⟨_,rfl⟩,(sm.trans s4).newly hD,vs++[y],ak, ?_⟩
  ·rw [sizeLine_eq];omega
  ·rw [dF,ef]
   exact tL (aC.keep (fun a xs h=>tp _ _ (s4.tups _ _ h)) _ im d) (Dat.keep tp _ (hf i dd ef) dy)
end
section
variable {X:Cx}
end
end L2
set_option Elab.async false
set_option linter.all false
set_option maxRecDepth 100000
set_option maxHeartbeats 4000000
namespace L2
open PySem
section
variable {K:PySem.W.Frag} {a D:Addr} {xs:List V} {tc:TT} {te:TE} {Q:VK} {rest:St} {H1:Hp}
end
end L2
set_option Elab.async false
set_option linter.all false
set_option maxRecDepth 100000
set_option maxHeartbeats 4000000
namespace L2
open PySem PySem.Spec PyProof.Rows
theorem jg.Oa {k:Nat} {A:Around} (r:jg k A):A.in1.units+64<cLine:=by have:=r.un;show A.units+1+64<_;omega
section
variable {X:Cx} {K:PySem.W.Frag} {e st:Expr} {te tk:TE} {pos p2:Pos}
end
end L2
set_option Elab.async false
set_option linter.all false
set_option maxRecDepth 100000
set_option maxHeartbeats 4000000
namespace L2
open PySem PySem.Spec PyProof.Rows
section
variable {H:Hp}
mutual
theorem Dat.fn:∀(d e:PyData) {v:V},Dat H v d->Dat H v e->d=e
 | .none,e,v,h,g=>by cases e<;>simp only [Dat] at h g<;>first |rfl|(subst h;first |(obtain ⟨_,_,z,_⟩:=g;cases z;done)|(cases g;done))
 | .bool _,e,v,h,g=>by cases e<;>simp only [Dat] at h g<;>first |(subst h;first |(injection g with g;rw [g];done)|(obtain ⟨_,_,z,_⟩:=g;cases z;done)|(cases g;done))
 | .int _,e,v,h,g=>by cases e<;>simp only [Dat] at h g<;>first |(subst h;first |(injection g with g;rw [g];done)|(obtain ⟨_,_,z,_⟩:=g;cases z;done)|(cases g;done))
 | .str _,e,v,h,g=>by cases e<;>simp only [Dat] at h g<;>first |(subst h;first |(injection g with g;rw [g];done)|(obtain ⟨_,_,z,_⟩:=g;cases z;done)|(cases g;done))
 | .list ds,.list es,v,h,g=>by
   simp only [Dat] at h g;obtain ⟨a,vs,rfl,ha,da⟩:=h;obtain ⟨b,ws,e,hb,db⟩:=g;injection e with e
   subst e;rw [ha] at hb;injection hb with hb
   injection hb with hb
   subst hb;rw [aC.fn ds es da db]
 | .tuple ds,.tuple es,v,h,g=>by
   simp only [Dat] at h g;obtain ⟨a,vs,rfl,ha,da⟩:=h;obtain ⟨b,ws,e,hb,db⟩:=g;injection e with e
   subst e;rw [ha] at hb;injection hb with hb
   injection hb with hb
   subst hb;rw [aC.fn ds es da db]
 | .list ds,.tuple es,v,h,g=>by
   simp only [Dat] at h g;obtain ⟨a,vs,rfl,ha,da⟩:=h;obtain ⟨b,ws,e,hb,db⟩:=g;injection e with e
   subst e;rw [ha] at hb;injection hb with hb
   cases hb
 | .tuple ds,.list es,v,h,g=>by
   simp only [Dat] at h g;obtain ⟨a,vs,rfl,ha,da⟩:=h;obtain ⟨b,ws,e,hb,db⟩:=g;injection e with e
   subst e;rw [ha] at hb;injection hb with hb
   cases hb
 | .list ds,.none,v,h,g=>by simp only [Dat] at h g;obtain ⟨a,vs,rfl,_⟩:=h;cases g
 | .list ds,.bool _,v,h,g=>by simp only [Dat] at h g;obtain ⟨a,vs,rfl,_⟩:=h;cases g
 | .list ds,.int _,v,h,g=>by simp only [Dat] at h g;obtain ⟨a,vs,rfl,_⟩:=h;cases g
 | .list ds,.str _,v,h,g=>by simp only [Dat] at h g;obtain ⟨a,vs,rfl,_⟩:=h;cases g
 | .tuple ds,.none,v,h,g=>by simp only [Dat] at h g;obtain ⟨a,vs,rfl,_⟩:=h;cases g
 | .tuple ds,.bool _,v,h,g=>by simp only [Dat] at h g;obtain ⟨a,vs,rfl,_⟩:=h;cases g
 | .tuple ds,.int _,v,h,g=>by simp only [Dat] at h g;obtain ⟨a,vs,rfl,_⟩:=h;cases g
 | .tuple ds,.str _,v,h,g=>by simp only [Dat] at h g;obtain ⟨a,vs,rfl,_⟩:=h;cases g
 | .list ds,.dict _,v,h,g=>by simp only [Dat] at g
 | .tuple ds,.dict _,v,h,g=>by simp only [Dat] at g
 | .dict _,_,v,h,g=>by simp only [Dat] at h
theorem aC.fn:∀(ds es:List PyData) {vs:List V},aC H vs ds->aC H vs es->ds=es
 | [],[],_,_,_=>rfl
 | d::ds,e::es,v::vs,h,g=>by
   simp only [aC] at h g;rw [Dat.fn d e h.1 g.1,aC.fn ds es h.2 g.2]
 | [],_::_,[],_,g=>by simp only [aC] at g
 | [],_::_,_::_,h,_=>by simp only [aC] at h
 | _::_,[],[],h,_=>by simp only [aC] at h
 | _::_,[],_::_,_,g=>by simp only [aC] at g
 | _::_,_::_,[],h,_=>by simp only [aC] at h
end
end
section
variable {X:Cx}
end
end L2
set_option Elab.async false
set_option linter.all false
set_option maxRecDepth 100000
set_option maxHeartbeats 4000000
namespace L2
open PySem PySem.Spec PyProof.Rows
theorem wC {xc:Str}:∀(pre post:List (Str×NameKind)) (n:Nat) (acc:List (Str×Addr)) (h:Heap),(∀y∈pre++post,y.2 ≠ .cell) ->
 cellsFrom n (pre++(xc,.cell)::post) acc=(xc,n)::acc/\pushCells h (pre++(xc,.cell)::post)=h.push {cls:= .type "cell",data:= .cell none}
 | (m,k)::pre,post,n,acc,h,hn=>by
   have hk:(k==NameKind.cell)=false:=by simpa using hn (m,k) (by simp)
   have ih:=wC (xc:=xc) pre post n acc h fun y hy=>hn y (by simp only [List.cons_append,List.mem_cons];exact .inr hy);rw [List.cons_append];unfold cellsFrom pushCells;simp only [hk,Bool.false_eq_true,if_false];exact ih
 | [],post,n,acc,h,hn=>by
   have Ed:∀(post:List (Str×NameKind)) (n:Nat) (acc:List (Str×Addr)) (h:Heap),(∀y∈post,y.2 ≠ .cell)->cellsFrom n post acc=acc/\pushCells h post=h:=by
    intro post
    induction post with
    | nil=>intro n acc h _;exact ⟨rfl,rfl⟩
    | cons y r ih=>
      intro n acc h hh;obtain ⟨m,k⟩:=y;have hk:(k==NameKind.cell)=false:=by simpa using hh (m,k) (by simp)
      unfold cellsFrom pushCells;simp only [hk,Bool.false_eq_true,if_false];exact ih n acc h fun y hy=>hh y (List.mem_cons_of_mem _ hy)
   rw [List.nil_append];unfold cellsFrom pushCells;simp only [beq_self_eq_true,if_true];exact Ed post (n+1) ((xc,n)::acc) _ fun y hy=>hn y (by simpa using hy)
structure bh (N own:List Str) (caps:List Nat) (XN:List Str) (outer scope:Scope) (xc:Str):Prop where
 kind:scope.kind = .function
 one:∃pre post,scope.names=pre++(xc,.cell)::post /\ ∀y∈pre++post,y.2 ≠ .cell
 xcl:scope.names.lookup xc=some .cell
 nof:(xc,NameKind.free)∉scope.names
 names:∀y∈scope.names,y.2 = .local->scope.names.lookup y.1=some .local
 free:∀y∈scope.names,y.2 = .free->outer.names.lookup y.1=some .cell\/outer.names.lookup y.1=some .free
 nd:N.Nodup
 len:N.length=own.length+caps.length
 cap:∀(j:Nat),j<caps.length->N[own.length+j]? = XN[caps.getD j 0]? /\ ∃x,N[own.length+j]? = some x/\(x,NameKind.free)∈scope.names/\scope.names.lookup x=some .free
def cN (X:Cx) (scope:Scope) (xc:Str) (C:Addr) (N:List Str) (s:Shared) (H:Hp) (fp:List Addr):Cx:=
 {X with N:=N,s₀:=s,H₀:=H,env:=compEnvC scope ((xc,Nat.succ C)::iI X.env scope.names []) C X.env,outer:=X.stack,ex:=fp,fn:=fun y=>decide (y=xc),pn:=[],xe:=fun _ _=>False}
section
variable {X:Cx} {pins:List (Addr×Obj)} {σ:St} {H:Hp} {s:Shared} {scope:Scope} {N own:List Str} {caps:List Nat} {fp:List Addr} {C:Nat} {xc:Str}
theorem bh.qQ (S:bh N own caps X.N X.env.scope scope xc) (ok:X.Ok):∀y∈scope.names,y.2 = .free->(X.env.cells.lookup y.1).isSome=true:=fun y hy hf=>by
 obtain ⟨c,e⟩:=ok.has y.1 (S.free y hy hf);rw [e];rfl
theorem bh.csub (S:bh N own caps X.N X.env.scope scope xc) (ok:X.Ok) {x:Str} {c:Addr} (h:(iI X.env scope.names []).lookup x=some c):X.env.cells.lookup x=some c:=by
 rw [cR _ _ _ (S.qQ ok)] at h;split at h
 ·exact h
 ·simp at h
theorem bh.look (S:bh N own caps X.N X.env.scope scope xc) (ok:X.Ok) {x:Str} {c:Addr} (h:((xc,Nat.succ C)::iI X.env scope.names []).lookup x=some c):(x=xc/\c=Nat.succ C)\/(x≠xc/\X.env.cells.lookup x=some c):=by
 rw [List.lookup_cons] at h;cases q:x==xc with
 | true=>rw [q] at h;exact .inl ⟨by simpa using q,(Option.some.inj h).symm⟩
 | false=>rw [q] at h;exact .inr ⟨by simpa using q,S.csub ok h⟩
theorem bh.Ua (S:bh N own caps X.N X.env.scope scope xc) {x:Str} (h:(x,NameKind.cell)∈scope.names):x=xc:=by
 obtain ⟨pre,post,e,no⟩:=S.one;rw [e] at h;rcases List.mem_append.mp h with h|h
 ·exact absurd rfl (no _ (List.mem_append_left _ h))
 ·rcases List.mem_cons.mp h with h|h
  ·exact congrArg Prod.fst h
  ·exact absurd rfl (no _ (List.mem_append_right _ h))
theorem bh.qF {S:bh N own caps X.N X.env.scope scope xc} {x:Str} (h:(relabel scope X.env).names.lookup x=some .cell\/(relabel scope X.env).names.lookup x=some .free):x=xc\/(x,NameKind.free)∈scope.names:=by
 have e:=dM X.env scope.names x;have e':(relabel scope X.env).names.lookup x=(scope.names.lookup x).map fun k=>if (k == .free&&X.env.scope.kind == .function&&X.env.kindOf x==some .cell)=true then NameKind.cell else k:=e;rw [e'] at h;cases q:scope.names.lookup x with
 | none=>rw [q] at h;simp at h
 | some k=>
   have hm:=PySem.mem_of_lookup q
   by_cases hk:k = .free
   ·subst hk;exact .inr hm
   ·rw [q] at h
    have hb:(k==NameKind.free)=false:=by simpa using hk
    simp only [Option.map_some,hb,Bool.false_and,Bool.false_eq_true,if_false] at h;rcases h with h|h
    ·have hc:=Option.some.inj h
     subst hc;exact .inl (S.Ua hm)
    ·exact absurd (Option.some.inj h) hk
theorem Inv.T_ {h1:Heap} {D:Nat} (I:Inv X pins σ H s) (S:bh N own caps X.N X.env.scope scope xc) (hfp:∀b∈fp,jW X pins H b) (hfo:∀b∈fp,∃o,s.heap.get? b=some o)
 (hD:D=s.heap.objs.size) (hC:C=s.heap.objs.size+1) (old:∀b o,s.heap.get? b=some o->h1.get? b=some o) (hns:h1.Ns C (fun _=>none)) (hl:h1.get? D=some {cls:= .type "list",data:= .seq #[]}) (hce:h1.IsCell (Nat.succ C) none) {t:Nat}:
 Inv (cN X scope xc C N s H fp) [] (st0 own caps σ) (upd H D (.lst [])) {s with heap:=h1,toks:=t}:=by
 have some':=S.qQ I.ok;have look:∀{x c},((xc,Nat.succ C)::iI X.env scope.names []).lookup x=some c->(x=xc/\c=Nat.succ C)\/(x≠xc/\X.env.cells.lookup x=some c):=fun h=>S.look I.ok h;have freshD:H D=none:=I.hok.fresh (by rw [hD];exact Nat.le_refl _);have z7:H C=none:=I.hok.fresh (by rw [hC];exact Nat.le_succ _);have Qt:H (Nat.succ C)=none:=I.hok.fresh (by show s.heap.objs.size<=Nat.succ C;omega)
 have qW:∀x c,X.env.cells.lookup x=some c->c<s.heap.objs.size:=fun x c e=>by
  obtain ⟨v,z⟩:=I.cell x c e;exact z.lt
 have Lx:∀b∈fp,b<s.heap.objs.size:=fun b hb=>by
  obtain ⟨o,e⟩:=hfo b hb;exact Heap.lt_size e
 have DC:D≠C:=by omega
 refine ⟨⟨I.ok.mod,S.kind,I.ok.glob,I.ok.blt,by show s.heap.objs.size<=C;omega,fun x y c e1 e2=> ?inj,fun x h=> ?_,fun x c h e=> ?cab,I.ok.hd,I.ok.frames,Or.inl rfl,fun b hb=>⟨?_,fun x c e=> ?_⟩,I.bs,Nat.le_trans I.ok.JM I.sz,fun b o e hb=> ?_,fun b hb z=> ?_,I.stack,I.ug⟩,
  rfl,I.bare,Un.laid old (by show s.heap.objs.size<=D;omega) freshD,⟨_,hns,fun j x v e1 e2 e3=> ?_⟩,fun x c e=> ?_, ?_,fun x c e=> ?_,fun p hp=> ?_,I.hok.laid old (by omega) ?_, ?_⟩
 case inj=>
  rcases look e1 with ⟨a1,a2⟩|⟨a1,a2⟩
  ·rcases look e2 with ⟨b1,b2⟩|⟨b1,b2⟩
   ·exact a1.trans b1.symm
   ·have:=iZ (qW y c b2);omega
  ·rcases look e2 with ⟨b1,b2⟩|⟨b1,b2⟩
   ·have:=iZ (qW x c a2);omega
   ·exact I.ok.inj x y c a2 b2
 case cab=>
  rcases look e with ⟨a1,a2⟩|⟨a1,a2⟩
  ·show s.heap.objs.size<=c;omega
  ·exact absurd (of_decide_eq_true h) a1
 ·show ∃c,((xc,Nat.succ C)::iI X.env scope.names []).lookup x=some c
  by_cases ex:x=xc
  ·subst ex;exact ⟨Nat.succ C,by simp [List.lookup_cons]⟩
  ·have hm:=(bh.qF (S:=S) (X:=X) h).resolve_left ex
   obtain ⟨c,e⟩:=Option.isSome_iff_exists.mp (some' _ hm rfl);have q:(x==xc)=false:=by simpa using ex
   exact ⟨c,by rw [List.lookup_cons,q,cR _ _ _ some',if_pos hm];exact e⟩
 ·exact Nat.ne_of_lt (show @LT.lt Nat _ b C by have:=iZ (Lx b hb);omega)
 ·rcases look e with ⟨a1,a2⟩|⟨a1,a2⟩
  ·have:=iZ (Lx b hb)
   subst a2;exact Nat.ne_of_gt (show @LT.lt Nat _ b (Nat.succ C) by omega)
  ·exact (hfp b hb).2.2.2.2.1 x c a2
 ·rcases (hfp b hb).2.2.2.1 with z|z
  ·exact I.ok.Ef b o e z
  ·exact absurd (Nat.lt_of_lt_of_le (Heap.lt_size e) (Nat.le_trans I.ok.JM z)) (Nat.lt_irrefl _)
 ·rcases List.mem_cons.mp (I.m_ b z) with q|q
  ·exact (hfp b hb).2.1 q
  ·exact (hfp b hb).2.2.1 q
 ·have e1:N[j]? = some x:=e1
  have hj:own.length<=j:=by
   by_cases q:own.length<=j
   ·exact q
   ·exfalso
    unfold st0 at e2;rw [List.getElem?_append_left (by simp;omega),List.getElem?_map] at e2;cases r:own[j]? with
    | none=>rw [r] at e2;cases e2
    | some a=>rw [r] at e2;cases e2
  have hjl:j<N.length:=(List.getElem?_eq_some_iff.mp e1).1;have Zx:j - own.length<caps.length:=by have:=S.len;omega
  obtain ⟨c1,x',c2,c3,c4⟩:=S.cap (j - own.length) Zx;rw [show own.length+(j - own.length)=j by omega] at c1 c2;rw [e1] at c2;cases c2
  have e2':(σ[caps.getD (j - own.length) 0]?).join=some v:=by
   unfold st0 at e2;rw [List.getElem?_append_right (by simp;omega),List.getElem?_map,List.length_map] at e2;rw [List.getD_eq_getElem?_getD];cases r:caps[j - own.length]? with
   | none=>rw [r] at e2;cases e2
   | some a=>rw [r] at e2;exact Option.some.inj e2
  have QH:σ[caps.getD (j - own.length) 0]? = some (some v):=by
   cases r:σ[caps.getD (j - own.length) 0]? with
   | none=>rw [r] at e2';cases e2'
   | some a=>rw [r] at e2';exact congrArg Option.some e2'
  have kx:X.env.kindOf x=some .cell\/X.env.kindOf x=some .free:=S.free _ c3 rfl;obtain ⟨m,hn,hl'⟩:=I.loc;obtain ⟨u,r,l⟩:=hl' _ x v (by rw [←c1];exact e1) QH (by rcases kx with z|z;exact .inr (.inl z);exact .inr (.inr z));refine ⟨u,r,.inr ⟨?_, ?_⟩⟩
  ·show (relabel scope X.env).names.lookup x=some .cell\/(relabel scope X.env).names.lookup x=some .free
   have e:(relabel scope X.env).names.lookup x=(scope.names.lookup x).map fun k=>if (k == .free&&X.env.scope.kind == .function&&X.env.kindOf x==some .cell)=true then NameKind.cell else k:=dM X.env scope.names x;rw [e,c4,Option.map_some];split
   ·exact .inl rfl
   ·exact .inr rfl
  ·rcases l with ⟨hk,_⟩|⟨_,c,hc,z⟩
   ·rcases kx with q|q<;>rw [hk] at q<;>cases q
   ·refine ⟨c, ?_, ?_⟩
    ·show ((xc,Nat.succ C)::iI X.env scope.names []).lookup x=_
     have nx:x≠xc:=fun z=>S.nof (z▸c3);have q:(x==xc)=false:=by simpa using nx
     rw [List.lookup_cons,q,cR _ _ _ some',if_pos c3];exact hc
    ·obtain ⟨o,ho,hd⟩:=z
     exact ⟨o,old c o ho,hd⟩
 ·rcases look e with ⟨a1,a2⟩|⟨a1,a2⟩
  ·subst a2;exact ⟨none,hce⟩
  ·obtain ⟨v,o,ho,hd⟩:=I.cell x c a2
   exact ⟨v,o,old c o ho,hd⟩
 ·show upd H D (.lst []) C=none
  rw [aP DC.symm];exact z7
 ·show upd H D (.lst []) c=none
  rcases look e with ⟨a1,a2⟩|⟨a1,a2⟩
  ·subst a2
   rw [aP (show Nat.succ C≠D by omega)];exact Qt
  ·rw [aP (Nat.ne_of_lt (by have:=iZ (qW x c a2);omega))];exact I.jt x c a2
 ·cases hp
 ·exact ⟨Nat.zero_le _,[],0,.nil,hl⟩
 ·show (own.map (fun _=>none)++caps.map _).length=N.length
  rw [List.length_append,List.length_map,List.length_map,S.len]
theorem Inv.Ba {sO:List (Addr×Obj)} {σ':St} {H':Hp} {s':Shared} {h':Heap} (I:Inv X pins σ H s) (hfp:∀b∈fp,jW X pins H b) (hC:s.heap.objs.size<=C) (J:Inv (cN X scope xc C N s H fp) sO σ' H' s') (hs:Heap.SameBut C s'.heap h'):
 Inv X pins σ H' {s' with heap:=h'}:=by
 have nC:∀b o,s.heap.get? b=some o->b≠C:=fun b o e=>Nat.ne_of_lt (by have:=iZ (Heap.lt_size e);omega);have u:=J.base;have frC:H' C=none:=J.free;refine I.call' (ch:=fp) (s':={s' with heap:=h'}) J.os ⟨fun b o e n hb hx=> ?_,fun b o e n hb hx=> ?_,u.free,fun b o e hx=> ?_,u.tups,u.mU,u.pQ⟩ (fun a o e=>(J.hok a o e).stay (fun b v hb q=> ?_) (fun _ q=>q) fun _ _ q=>q) J.bare fun b hb=> ?_
 ·exact (hs.2 b (nC b o e)).trans (u.keep b o e n hb hx)
 ·obtain ⟨sl,q⟩:=u.slot b o e n hb hx
  exact ⟨sl,(hs.2 b (nC b o e)).trans q⟩
 ·obtain ⟨o',q⟩:=u.there b o e hx
  exact ⟨o',(hs.2 b (nC b o e)).trans q⟩
 ·refine (hs.2 b ?_).trans q
  intro z;subst z;rcases hb with z|z
  ·subst z;rw [frC] at e;cases e
  ·rw [frC] at z;cases z
 ·exact ⟨(hfp b hb).2.2.2.1,(hfp b hb).2.1,(hfp b hb).2.2.2.2.1,(hfp b hb).2.2.2.2.2⟩
end
section
variable {M:Model} {A:Around} {E:Value->Shared->Prop} {s:Shared}
theorem zV {scope:Scope} {globals:Addr} {cl:List (Str×Addr)} {qual:Str} {env:Env} {xc:Str} {Q:Env->Shared->Prop} (one:∃pre post,scope.names=pre++(xc,.cell)::post /\ ∀y∈pre++post,y.2 ≠ .cell)
 (h:Q (newEnv scope s.heap.objs.size globals ((xc,Nat.succ s.heap.objs.size)::cl) qual none .none (some env) builtinsNs) {s with heap:=(s.heap.push {cls:= .type "dict",data:= .dict #[]}).push {cls:= .type "cell",data:= .cell none}}):
 wpAny M A (newFunctionEnv scope globals cl [] qual none .none (some env)) Q E s:=by
 obtain ⟨pre,post,e,no⟩:=one;simp only [newFunctionEnv,Option.isSome_some,if_true];refine wpAny_bind (wpAny_alloc ?_);refine wpAny_bind (wpAny_layCells _ (fun name kind cells=>by cases hkc:kind==NameKind.cell<;>simp [hkc]) _ _ _ _ ?_);rw [e];have sz:(s.heap.push {cls:= .type "dict",data:= .dict #[]}).objs.size=Nat.succ s.heap.objs.size:=Heap.size_push ..;obtain ⟨e1,e2⟩:=wC (xc:=xc) pre post (s.heap.push {cls:= .type "dict",data:= .dict #[]}).objs.size cl (s.heap.push {cls:= .type "dict",data:= .dict #[]}) no;show wpAny M A _ Q E _;dsimp only;rw [e1,e2,sz];rw [List.forIn_nil];exact wpAny_bind (wpAny_pure (wpAny_pure h))
end
section
variable {X:Cx} {elt tg iter:Expr} {ifs:List Expr} {scope:Scope} {pos:Pos} {N own:List Str} {caps:List Nat} {wi:TI} {g:TG} {tc:TT} {te:TE} {xc:Str}
theorem Fb {use:Option (Value->Sem Unit)} {Qv:Value->Shared->Prop} {pins:List (Addr×Obj)} {σ:St} {H:Hp} {s:Shared} {Q:VK} (hc:X.calm=true) (S:bh N own caps X.N X.env.scope scope xc)
 (hg:∀C s H fp,PG (cN X scope xc C N s H fp) tg g) (hcs:∀C s H fp,Q0 (cN X scope xc C N s H fp) ifs tc) (he:∀C s H fp,PE (cN X scope xc C N s H fp) elt te)
 (hi:PI X tg iter wi) (hs:∀x,foldedSetIterable iter X.env x=pure x)
 (I:Inv X pins σ H s) (h:vP own caps wi g tc te σ H Q)
 (fin:∀(D C:Addr) (H':Hp) (s':Shared),(∃m,s'.heap.Ns C m)->Inv X pins σ H' s'->(∀h',Heap.SameBut C s'.heap h'->Inv X pins σ H' {s' with heap:=h'})->jW X pins H' C->Q (.ref D) H' ->
   compPost (model X.prog X.w) X.A X.xe use Qv (.ref D) C (.ok .next) s'):
 wpAny (model X.prog X.w) X.A (comprehension (.ListComp elt [⟨tg,iter,ifs,0⟩] scope pos) scope X.env (firstIterPos [⟨tg,iter,ifs,0⟩] pos) (newList []) false (eval iter X.env) use) Qv X.xe s:=by
 refine wpAny_comprehension_free (use:=use) rfl hs (qU (S.qQ I.ok)) S.kind S.names (cC (hi pins s σ H _ I h) fun xv s1 h1=>cC h1 fun itv s2 h2=> ?_);obtain ⟨it,fp,tn,J,H2,e,I2,T,st2,f2,q2⟩:=h2;subst e;refine wpAny_newList ?_;refine zV S.one ?_;have hD:H2 s2.heap.objs.size=none:=I2.hok.fresh (Nat.le_refl _);have hsz:(s2.heap.push {cls:= .type "list",data:= .seq ([]:List Value).toArray}).objs.size=s2.heap.objs.size+1:=Heap.size_push ..;obtain ⟨h1,hh1⟩:∃h1,h1=((s2.heap.push {cls:= .type "list",data:= .seq ([]:List Value).toArray}).push {cls:= .type "dict",data:= .dict #[]}).push {cls:= .type "cell",data:= .cell none}:=⟨_,rfl⟩
 have old:∀b o,s2.heap.get? b=some o->h1.get? b=some o:=fun b o e=>by
  rw [hh1];exact Heap.get?_push_of_some _ (Heap.get?_push_of_some _ (Heap.get?_push_of_some _ e))
 have hl:h1.get? s2.heap.objs.size=some {cls:= .type "list",data:= .seq #[]}:=by
  rw [hh1];exact Heap.get?_push_of_some _ (Heap.get?_push_of_some _ (Heap.get?_push_size _ rfl))
 have Lq:h1.Ns (s2.heap.push {cls:= .type "list",data:= .seq ([]:List Value).toArray}).objs.size (fun _=>none):=by
  rw [hh1];exact (Heap.Ns.new _ (.type "dict")).keeps fun b o e=>Heap.get?_push_of_some _ e
 have hce:h1.IsCell (Nat.succ (s2.heap.push {cls:= .type "list",data:= .seq ([]:List Value).toArray}).objs.size) none:=by
  rw [hh1];refine ⟨{cls:= .type "cell",data:= .cell none}, ?_,rfl⟩;have e:Nat.succ (s2.heap.push {cls:= .type "list",data:= .seq ([]:List Value).toArray}).objs.size=((s2.heap.push {cls:= .type "list",data:= .seq ([]:List Value).toArray}).push {cls:= .type "dict",data:= .dict #[]}).objs.size:=(Heap.size_push ..).symm;rw [e];exact Heap.get?_push_size _ rfl
 rw [←hh1];have hfo:∀b∈fp,∃o,s2.heap.get? b=some o:=fun b hb=>let ⟨o,e,_⟩:=T.obj _ _ st2 b hb;⟨o,e⟩
 have I4:=Inv.T_ (C:=(s2.heap.push {cls:= .type "list",data:= .seq ([]:List Value).toArray}).objs.size) (t:=s2.toks) I2 S f2 hfo rfl hsz old Lq hl hce;obtain ⟨W,⟨m0,w0⟩,turn⟩:=q2 _ hD;generalize hCe:(s2.heap.push {cls:= .type "list",data:= .seq ([]:List Value).toArray}).objs.size=C at *;generalize hDe:s2.heap.objs.size=D at *;have hDC:D≠C:=by omega
 have loop:∀s3:Shared,s3={s2 with heap:=h1} ->
  codeAny (model X.prog X.w) X.A (.compLoop (.ListComp elt [⟨tg,iter,ifs,0⟩] scope pos) 0 (.ref it) (.ref D) (cN X scope xc C N s2 H2 fp).env) (compPost (model X.prog X.w) X.A X.xe use Qv (.ref D) C) s3:=by
  rintro s3 rfl
  have gK:∀b∈fp,(upd H2 D (.lst [])) b=none:=fun b hb=>by
   obtain ⟨o,e⟩:=hfo b hb;rw [aP (Nat.ne_of_lt (by have:=iZ (Heap.lt_size e);omega))];exact (f2 b hb).1
  have stat:∀{H':Hp},(∀b∈fp,H' b=none) -> ∀b∈fp,jW (cN X scope xc C N s2 H2 fp) [] H' b:=fun hn b hb=>by
   obtain ⟨o,e⟩:=hfo b hb;have hlt:=iZ (Heap.lt_size e);refine ⟨hn b hb, ?_,fun z=> ?_,.inl hb,fun x c e'=> ?_,fun p hp=>(by cases hp)⟩
   ·exact Nat.ne_of_lt (show @LT.lt Nat _ b C by omega)
   ·rcases List.mem_cons.mp (I2.m_ b z) with q|q
    ·exact (f2 b hb).2.1 q
    ·exact (f2 b hb).2.2.1 q
   ·rcases S.look (C:=C) I2.ok e' with ⟨_,a2⟩|⟨_,a2⟩
    ·subst a2
     exact Nat.ne_of_gt (show @LT.lt Nat _ b (Nat.succ C) by omega)
    ·exact (f2 b hb).2.2.2.2.1 x c a2
  refine mY (fun n s'=>∃i σ' H',Inv (cN X scope xc C N s2 H2 fp) [] σ' H' s'/\tn i s'.heap/\(∀b∈fp,H' b=none)/\W i n σ' H') ?_ m0
   ⟨0,_,_,I4,T.keep _ _ _ st2 fun b _ o e=>old b o e,gK,w0⟩
  rintro n s3 ⟨i,σ3,H3,I3,st3,Nu,w3⟩;rcases turn i n σ3 H3 w3 with ⟨stop,qn⟩|⟨go,Nx,Zz,step⟩
  ·refine cC (T.done (cN X scope xc C N s2 H2 fp) rfl rfl rfl hc i [] s3 σ3 H3 _ I3 (stat Nu) st3 stop) fun r s4 ⟨hr,J4⟩=> ?_
   subst hr;obtain ⟨m4,Vw,_⟩:=J4.loc;exact fin D C H3 s4 ⟨m4,Vw⟩ (I2.Ba f2 (by omega) J4 (Heap.SameBut.refl _ _)) (fun h' hs'=>I2.Ba f2 (by omega) J4 hs') (I2.qK (show s2.heap.objs.size<=C by omega) J4.free) qn
  ·refine cC (T.item (cN X scope xc C N s2 H2 fp) rfl rfl rfl hc i [] s3 σ3 H3 _ I3 (stat Nu) st3 go) fun r s4 ⟨u,hr,h4⟩=> ?_
   subst hr;refine cC h4 fun _ s5 ⟨x,H5,I5,r5,y5,rH,TQ⟩=> ?_;have U3:=I5.pinned (stat TQ) (T.obj _ _ rH);refine cC (hg C s2 H2 fp _ s5 σ3 H5 x u _ U3 r5 (step x H5 y5)) fun _ s6 ⟨σ6,H6,I6,q6⟩=> ?_;refine cC (hcs C s2 H2 fp _ s6 σ6 H6 _ I6 q6) fun ok s7 ⟨H7,I7,q7⟩=> ?_
   have again:∀{σ8:St} {H8:Hp} {s8:Shared},Inv (cN X scope xc C N s2 H2 fp) ([]++nH fp s5.heap) σ8 H8 s8->Nx σ8 H8 -> ∃m,m<n /\ ∃i σ' H',Inv (cN X scope xc C N s2 H2 fp) [] σ' H' s8/\tn i s8.heap/\(∀b∈fp,H' b=none)/\W i m σ' H':=fun {σ8 H8 s8} I8 n8=>by
    obtain ⟨m',hm,w8⟩:=Zz _ _ n8;refine ⟨m',hm,i+1,σ8,H8,I8.j7,T.keep _ _ _ rH fun b hb o e=>(I8.pin (b,o) (List.mem_append_right _ (List.mem_append_right _ (fX hb e)))).1,fun b hb=> ?_,w8⟩;obtain ⟨o,e,d⟩:=T.obj _ _ rH b hb;exact (I8.pin (b,o) (List.mem_append_right _ (List.mem_append_right _ (fX hb e)))).2.1
   cases ok with
   | false=>
     rw [if_neg (by decide)] at q7;exact again I7 q7
   | true=>
     rw [if_pos rfl] at q7;refine cC (he C s2 H2 fp _ s7 σ6 H7 _ I7 q7) fun y s8 ⟨yv,H8,I8,r8,acc,ha,hlen,q8⟩=> ?_;exact cC (nM _ s8 σ6 H8 (.ref D) [yv] (.ref D) [y] (fun v H9=>Nx σ6 H9) I8 rfl (.cons r8 .nil) ⟨D,acc,yv,rfl,rfl,ha,hlen,q8⟩) fun _ s9 ⟨_,H9,I9,_,q9⟩=>again I9 q9
 exact codeAny_compStart_list (loop _ rfl) (T.self _ 0 _ _ _ (T.keep _ _ _ st2 fun b _ o e=>old b o e) (loop _ rfl))
theorem wB (hc:X.calm=true) (S:bh N own caps X.N X.env.scope scope xc) (hi:PI X tg iter wi)
 (hg:∀C s H fp,PG (cN X scope xc C N s H fp) tg g) (hcs:∀C s H fp,Q0 (cN X scope xc C N s H fp) ifs tc) (he:∀C s H fp,PE (cN X scope xc C N s H fp) elt te)
 (hs:∀x,foldedSetIterable iter X.env x=pure x:=by intro _;rfl):PE X (.ListComp elt [⟨tg,iter,ifs,0⟩] scope pos) (vP own caps wi g tc te):=by
 intro pins s σ H Q I h;rw [eval_ListComp];refine Fb (use:=none) hc S hg hcs he hi hs I h ?_;intro D C H' s' hn I' hk _ q;obtain ⟨m,hn⟩:=hn;exact ⟨m,hn,fun h' hs'=>⟨.ref D,H',hk h' hs',rfl,q⟩⟩
end
def CJ (N own:List Str) (caps:List Nat) (XN:List Str) (outer scope:Scope) (xc:Str):Bool:=
 decide (scope.kind = .function)&&(scope.names.filter fun y=>decide (y.2 = .cell)).length==1&&decide (scope.names.lookup xc=some .cell)&&decide ((xc,NameKind.free)∉scope.names)&&scope.names.all (fun y=>decide (y.2 ≠ .local)||decide (scope.names.lookup y.1=some .local)) &&
 scope.names.all (fun y=>decide (y.2 ≠ .free)||decide (outer.names.lookup y.1=some .cell)||decide (outer.names.lookup y.1=some .free))&&decide N.Nodup&&decide (N.length=own.length+caps.length) &&
 (List.range caps.length).all (fun j=>match N[own.length+j]? with |some x=>decide (XN[caps.getD j 0]? = some x)&&decide ((x,NameKind.free)∈scope.names)&&decide (scope.names.lookup x=some .free)|none=>false)
theorem bh.of {N own:List Str} {caps:List Nat} {XN:List Str} {outer scope:Scope} {xc:Str} (h:CJ N own caps XN outer scope xc=true):bh N own caps XN outer scope xc:=by
 unfold CJ at h;simp only [Bool.and_eq_true,decide_eq_true_eq,List.all_eq_true,Bool.or_eq_true,beq_iff_eq] at h;obtain ⟨⟨⟨⟨⟨⟨⟨⟨h1,h2⟩,h2a⟩,h2b⟩,h3⟩,h4⟩,h5⟩,h6⟩,h7⟩:=h;refine ⟨h1, ?_,h2a,h2b,fun y hy e=> ?_,fun y hy e=> ?_,h5,h6,fun j hj=> ?_⟩
 ·have hm:(xc,NameKind.cell)∈scope.names:=mem_of_lookup h2a
  obtain ⟨pre,post,e⟩:=List.append_of_mem hm;refine ⟨pre,post,e,fun y hy z=> ?_⟩;rw [e,List.filter_append,List.length_append,List.filter_cons] at h2;simp only [decide_true,if_true,List.length_cons] at h2;have l1:(pre.filter fun y=>decide (y.2 = .cell)).length=0:=by omega
  have l2:(post.filter fun y=>decide (y.2 = .cell)).length=0:=by omega
  rcases List.mem_append.mp hy with q|q
  ·have:=List.filter_eq_nil_iff.mp (List.eq_nil_of_length_eq_zero l1) y q
   simp [z] at this
  ·have:=List.filter_eq_nil_iff.mp (List.eq_nil_of_length_eq_zero l2) y q
   simp [z] at this
 ·rcases h3 y hy with z|z
  ·exact absurd e z
  ·exact z
 ·rcases h4 y hy with (z|z)|z
  ·exact absurd e z
  ·exact .inl z
  ·exact .inr z
 ·have q:=h7 j (List.mem_range.mpr hj)
  cases e:N[own.length+j]? with
  | none=>rw [e] at q;cases q
  | some x=>
    rw [e] at q;simp only [Bool.and_eq_true,decide_eq_true_eq] at q;exact ⟨q.1.1.symm,x,rfl,q.1.2,q.2⟩
theorem qO {X:Cx} {scope:Scope} {xc:Str} {C:Addr} {N:List Str} {s:Shared} {H:Hp} {fp:List Addr}:(cN X scope xc C N s H fp).fn xc=true:=decide_eq_true (p:=xc=xc) rfl
end L2
set_option Elab.async false
set_option linter.all false
set_option maxRecDepth 100000
set_option maxHeartbeats 4000000
namespace Tim
open PySem PyProof.Rows
def i_:Bool->Keyed->Array Keyed->Nat->Nat->Nat->StateT SortSt Sem (Option Nat):=sortPriv% PySem.Builtin.gallop
def jU (left:Bool) (key:Keyed) (arr:Array Keyed) (base i:Nat):StateT SortSt Sem (Option Bool):=do
 let x ←elem' arr (base+i)
 if left then lt' x key else return (←lt' key x).map (!·)
theorem z6 (left:Bool) (key:Keyed) (arr:Array Keyed) (base n hint:Nat):i_ left key arr base n hint=(do
 let mut lastofs:=0
 let mut ofs:=1
 let mut lo:=0
 let mut hi:=0
 let some right ←jU left key arr base hint|return none
 if right then
  let maxofs:=n - hint
  for _ in [0:n] do
   if ofs≥maxofs then break
   let some more ←jU left key arr base (hint+ofs)|return none
   if !more then break
   lastofs:=ofs
   ofs:=2*ofs+1
  lo:=hint+lastofs+1
  hi:=hint+min ofs maxofs
 else
  let maxofs:=hint+1
  for _ in [0:n] do
   if ofs≥maxofs then break
   let some found ←jU left key arr base (hint - ofs)|return none
   if found then break
   lastofs:=ofs
   ofs:=2*ofs+1
  lo:=hint+1 - min ofs maxofs
  hi:=hint - lastofs
 for _ in [0:n] do
  if lo≥hi then break
  let m:=lo+(hi - lo) / 2
  let some more ←jU left key arr base m|return none
  if more then lo:=m+1 else hi:=m
 return some hi):=rfl
section
variable {prog:Program} {w:World} {A:Around} {E:Value->Shared->Prop} {s:Shared} {κ:SortKind} {a₀:Array Keyed} {rk:Value->Nat}
structure yL (prog:Program) (w:World) (A:Around) (s:Shared) (κ:SortKind) (a₀:Array Keyed) (rk:Value->Nat):Prop where
 ask:∀p∈a₀.toList,∀q∈a₀.toList,∀(E:Value->Shared->Prop) (Q:Bool->Shared->Prop),Q (decide (rk p.1<rk q.1)) s->wpAny (model prog w) A (keyLt' κ p.1 q.1) Q E s
def R (rk:Value->Nat) (xs:Array Keyed) (i:Nat):Nat:=match xs[i]? with
 | some p=>rk p.1
 | none=>0
theorem rD {xs:Array Keyed} {i:Nat} {p:Keyed} (h:xs[i]? = some p):R rk xs i=rk p.1:=by unfold R;rw [h]
theorem dZ {xs ys:Array Keyed} {i j:Nat} (h:xs[i]? = ys[j]?):R rk xs i=R rk ys j:=by unfold R;rw [h]
theorem pN {st:SortSt} {p q:Keyed} {Q:Option Bool->SortSt->Prop} (C:yL prog w A s κ a₀ rk) (hk:kindOf st=κ) (hp:p∈a₀.toList) (hq:q∈a₀.toList) (h:Q (some (decide (rk p.1<rk q.1))) st):
 wpS (model prog w) A E s (lt' p q) Q st:=by
 rw [lt'_eq];refine wpS_bind (wpS_get ?_);rw [hk];refine wpS_bind (wpS_lift (wpAny_attempt (C.ask p hp q hq _ _ ⟨rfl, ?_⟩)));exact wpS_pure h
theorem bB {st:SortSt} {arr:Array Keyed} {i:Nat} {p:Keyed} {Q:Keyed->SortSt->Prop} (hi:arr[i]? = some p) (h:Q p st):wpS (model prog w) A E s (elem' arr i) Q st:=by
 rw [elem'_eq,hi];exact wpS_pure h
def By (left:Bool) (k r:Nat):Bool:=if left then decide (r<k) else !decide (k<r)
theorem jF {st:SortSt} {left:Bool} {key:Keyed} {arr:Array Keyed} {base i:Nat} {Q:Option Bool->SortSt->Prop} (C:yL prog w A s κ a₀ rk) (hk:kindOf st=κ) (hkey:key∈a₀.toList) (mQ:∀p∈arr.toList,p∈a₀.toList)
 (hi:base+i<arr.size) (h:Q (some (By left (rk key.1) (R rk arr (base+i)))) st):wpS (model prog w) A E s (jU left key arr base i) Q st:=by
 unfold jU;have e:arr[base+i]? = some arr[base+i]:=getElem?_pos arr (base+i) hi;have hm:arr[base+i]∈a₀.toList:=mQ _ (by simp);rw [rD e] at h;refine wpS_bind (bB e ?_);cases left with
 | true=>exact pN C hk hm hkey h
 | false=>exact wpS_bind (pN C hk hkey hm (wpS_pure h))
theorem vA {left:Bool} {k r r':Nat} (h:By left k r=true) (le:r'<=r):By left k r'=true:=by
 unfold By at *;cases left<;>simp at * <;> omega
theorem rG {left:Bool} {k r r':Nat} (h:By left k r=false) (le:r<=r'):By left k r'=false:=by
 unfold By at *;cases left<;>simp at * <;> omega
def Seg (rk:Value->Nat) (xs:Array Keyed) (lo hi:Nat):Prop:=∀i j,lo<=i->i<=j->j<hi->R rk xs i<=R rk xs j
abbrev GSt:=Option (Option Nat)×Nat×Nat
theorem oh {st:SortSt} {left:Bool} {key:Keyed} {arr:Array Keyed} {base n lo hi:Nat} {Q:GSt->SortSt->Prop} (C:yL prog w A s κ a₀ rk) (hk:kindOf st=κ) (hkey:key∈a₀.toList) (mQ:∀p∈arr.toList,p∈a₀.toList)
 (hn:base+n<=arr.size) (hs:Seg rk arr base (base+n)) (hlh:lo<=hi) (hhn:hi<=n)
 (h1:∀i,i<lo->By left (rk key.1) (R rk arr (base+i))=true) (h2:∀i,hi<=i->i<n->By left (rk key.1) (R rk arr (base+i))=false)
 (h:∀k l,k<=n->(∀i,i<k->By left (rk key.1) (R rk arr (base+i))=true)->(∀i,k<=i->i<n->By left (rk key.1) (R rk arr (base+i))=false)->Q (none,l,k) st):
 wpS (model prog w) A E s (forIn [0:n] ((none,lo,hi):GSt) fun _ __s=>
       if __s.snd.fst≥__s.snd.snd then pure (ForInStep.done (none,__s.snd.fst,__s.snd.snd))
       else do
        let __x ←jU left key arr base (__s.snd.fst+(__s.snd.snd - __s.snd.fst) / 2)
        match __x with
         | some more=>
           if more=true then
            pure (ForInStep.yield (none,__s.snd.fst+(__s.snd.snd - __s.snd.fst) / 2+1,__s.snd.snd))
           else pure (ForInStep.yield (none,__s.snd.fst,__s.snd.fst+(__s.snd.snd - __s.snd.fst) / 2))
         | _=>pure (ForInStep.done (some none,__s.snd.fst,__s.snd.snd))) Q st:=by
 refine wpS_forRange (I:=fun x c st'=>st'=st /\ ∃lo hi,c=(none,lo,hi)/\lo<=hi/\hi<=n/\hi - lo<=n - x/\(∀i,i<lo->By left (rk key.1) (R rk arr (base+i))=true)/\(∀i,hi<=i->i<n->By left (rk key.1) (R rk arr (base+i))=false)) ?step ?fin ⟨rfl,lo,hi,rfl,hlh,hhn,by omega,h1,h2⟩
 case fin=>
  rintro c st' ⟨rfl,lo,hi,rfl,a1,a2,a3,a4,a5⟩;have:lo=hi:=by omega
  subst this;exact h _ _ a2 a4 a5
 case step=>
  rintro x c st' _ hx ⟨rfl,lo,hi,rfl,a1,a2,a3,a4,a5⟩;dsimp only
  by_cases hge:lo≥hi
  ·rw [if_pos hge]
   have:lo=hi:=by omega
   subst this;exact wpS_pure (h _ _ a2 a4 a5)
  ·rw [if_neg hge]
   refine wpS_bind (jF C hk hkey mQ (by omega) ?_);dsimp only;cases hb:By left (rk key.1) (R rk arr (base+(lo+(hi - lo) / 2))) with
   | true=>
     simp only [if_true];refine wpS_pure ⟨rfl,_,_,rfl,by omega,a2,by omega,fun i hi'=> ?_,a5⟩;exact vA hb (hs _ _ (by omega) (by omega) (by omega))
   | false=>
     simp only [Bool.false_eq_true,if_false];refine wpS_pure ⟨rfl,_,_,rfl,by omega,by omega,by omega,a4,fun i hi' hin=> ?_⟩;exact rG hb (hs _ _ (by omega) (by omega) (by omega))
theorem fP {st:SortSt} {left:Bool} {key:Keyed} {arr:Array Keyed} {base n hint:Nat} {Q:Option Nat->SortSt->Prop} (C:yL prog w A s κ a₀ rk) (hk:kindOf st=κ) (hkey:key∈a₀.toList) (mQ:∀p∈arr.toList,p∈a₀.toList)
 (hn:base+n<=arr.size) (hh:hint<n) (hs:Seg rk arr base (base+n))
 (h:∀k,k<=n->(∀i,i<k->By left (rk key.1) (R rk arr (base+i))=true)->(∀i,k<=i->i<n->By left (rk key.1) (R rk arr (base+i))=false)->Q (some k) st):
 wpS (model prog w) A E s (i_ left key arr base n hint) Q st:=by
 rw [z6];refine wpS_bind (jF C hk hkey mQ (by omega) ?_);dsimp only;cases hr:By left (rk key.1) (R rk arr (base+hint)) with
 | true=>
   simp only [if_true]
   refine wpS_bind (wpS_mono (wpS_forRange (I:=fun x c st'=>st'=st /\ ∃l o,c=(none,l,o)/\l<o/\x<o/\hint+l<n/\By left (rk key.1) (R rk arr (base+(hint+l)))=true)
    (Q:=fun c st'=>st'=st /\ ∃l o,c=(none,l,o)/\l<o/\hint+l<n/\By left (rk key.1) (R rk arr (base+(hint+l)))=true/\(o<n - hint->By left (rk key.1) (R rk arr (base+(hint+o)))=false)) ?step ?fin ⟨rfl,0,1,rfl,by omega,by omega,by omega,hr⟩) ?post)
   case fin=>
    rintro c st' ⟨rfl,l,o,rfl,a1,a2,a3,a4⟩;exact ⟨rfl,l,o,rfl,a1,a3,a4,fun z=>by omega⟩
   case step=>
    rintro x c st' _ hx ⟨rfl,l,o,rfl,a1,a2,a3,a4⟩;dsimp only
    by_cases hge:o≥n - hint
    ·rw [if_pos hge]
     exact wpS_pure ⟨rfl,l,o,rfl,a1,a3,a4,fun z=>by omega⟩
    ·rw [if_neg hge]
     refine wpS_bind (jF C hk hkey mQ (by omega) ?_);dsimp only;cases hb:By left (rk key.1) (R rk arr (base+(hint+o))) with
     | true=>
       simp only [Bool.not_true,Bool.false_eq_true,if_false];exact wpS_pure ⟨rfl,o,2*o+1,rfl,by omega,by omega,by omega,hb⟩
     | false=>
       simp only [Bool.not_false,if_true];exact wpS_pure ⟨rfl,l,o,rfl,a1,a3,a4,fun _=>hb⟩
   case post=>
    rintro c st' ⟨rfl,l,o,rfl,a1,a2,a3,a4⟩;dsimp only;refine wpS_bind (oh C hk hkey mQ hn hs (by omega) (by omega) (fun i hi=> ?_) (fun i hi hin=> ?_) fun k l' b1 b2 b3=>wpS_pure (h k b1 b2 b3))
    ·exact vA a3 (hs _ _ (by omega) (by omega) (by omega))
    ·exact rG (a4 (by omega)) (hs _ _ (by omega) (by omega) (by omega))
 | false=>
   simp only [Bool.false_eq_true,if_false]
   refine wpS_bind (wpS_mono (wpS_forRange (I:=fun x c st'=>st'=st /\ ∃l o,c=(none,l,o)/\l<o/\x<o/\l<=hint/\By left (rk key.1) (R rk arr (base+(hint - l)))=false)
    (Q:=fun c st'=>st'=st /\ ∃l o,c=(none,l,o)/\l<o/\l<=hint/\By left (rk key.1) (R rk arr (base+(hint - l)))=false/\(o<hint+1->By left (rk key.1) (R rk arr (base+(hint - o)))=true)) ?step ?fin ⟨rfl,0,1,rfl,by omega,by omega,by omega,hr⟩) ?post)
   case fin=>
    rintro c st' ⟨rfl,l,o,rfl,a1,a2,a3,a4⟩;exact ⟨rfl,l,o,rfl,a1,a3,a4,fun z=>by omega⟩
   case step=>
    rintro x c st' _ hx ⟨rfl,l,o,rfl,a1,a2,a3,a4⟩;dsimp only
    by_cases hge:o≥hint+1
    ·rw [if_pos hge]
     exact wpS_pure ⟨rfl,l,o,rfl,a1,a3,a4,fun z=>by omega⟩
    ·rw [if_neg hge]
     refine wpS_bind (jF C hk hkey mQ (by omega) ?_);dsimp only;cases hb:By left (rk key.1) (R rk arr (base+(hint - o))) with
     | true=>
       simp only [if_true];exact wpS_pure ⟨rfl,l,o,rfl,a1,a3,a4,fun _=>hb⟩
     | false=>
       simp only [Bool.false_eq_true,if_false];exact wpS_pure ⟨rfl,o,2*o+1,rfl,by omega,by omega,by omega,hb⟩
   case post=>
    rintro c st' ⟨rfl,l,o,rfl,a1,a2,a3,a4⟩;dsimp only;refine wpS_bind (oh C hk hkey mQ hn hs (by omega) (by omega) (fun i hi=> ?_) (fun i hi hin=> ?_) fun k l' b1 b2 b3=>wpS_pure (h k b1 b2 b3))
    ·exact vA (a4 (by omega)) (hs _ _ (by omega) (by omega) (by omega))
    ·exact rG a3 (hs _ _ (by omega) (by omega) (by omega))
end
end Tim
set_option Elab.async false
set_option linter.all false
set_option maxRecDepth 100000
set_option maxHeartbeats 4000000
namespace Tim
open PySem PyProof.Rows
def dB:Nat->StateT SortSt Sem Unit:=sortPriv% PySem.Builtin.setMinGallop
theorem nF (g:Nat):dB g=modify fun s=>SortSt.mk' (kindOf s) (arrOf s) (pendingOf s) g (failedOf s):=rfl
def qC:Array Keyed->Array Keyed->StateT SortSt Sem (Array Keyed):=sortPriv% PySem.Builtin.mergeLo
def qD:Array Keyed->Array Keyed->StateT SortSt Sem (Array Keyed):=sortPriv% PySem.Builtin.mergeHi
abbrev d8 (a b out:Array Keyed) (ia ib:Nat):Array Keyed:=out++a.extract ia a.size++b.extract ib b.size
abbrev lU (a b out:Array Keyed) (ia ib:Nat):Array Keyed:=out++b.extract ib b.size++a.extract ia a.size
theorem wO (a b:Array Keyed):qC a b=(do
 rule "list.sort.merge-lo"
 let total:=a.size+b.size
 let mut out:Array Keyed:= #[←elem' b 0]
 let mut ia:=0
 let mut ib:=1
 if ib==b.size then return d8 a b out ia ib
 if ia+1==a.size then return lU a b out ia ib
 let mut minGallop:=gallopOf (←get)
 for _ in [0:total] do
  let mut acount:=0
  let mut bcount:=0
  for _ in [0:total] do
   let some bWins ←lt' (←elem' b ib) (←elem' a ia)|return d8 a b out ia ib
   if bWins then
    out:=out.push (←elem' b ib);ib:=ib+1;bcount:=bcount+1;acount:=0
    if ib==b.size then return d8 a b out ia ib
    if bcount≥minGallop then break
   else
    out:=out.push (←elem' a ia);ia:=ia+1;acount:=acount+1;bcount:=0
    if ia+1==a.size then return lU a b out ia ib
    if acount≥minGallop then break
  rule "list.sort.gallop"
  minGallop:=minGallop+1
  for _ in [0:total] do
   if minGallop>1 then minGallop:=minGallop - 1
   dB minGallop
   let some k ←i_ false (←elem' b ib) a ia (a.size - ia) 0|return d8 a b out ia ib
   acount:=k
   if k>0 then
    out:=out++a.extract ia (ia+k);ia:=ia+k
    if ia+1==a.size then return lU a b out ia ib
    if ia==a.size then return d8 a b out ia ib
   out:=out.push (←elem' b ib);ib:=ib+1
   if ib==b.size then return d8 a b out ia ib
   let some k ←i_ true (←elem' a ia) b ib (b.size - ib) 0|return d8 a b out ia ib
   bcount:=k
   if k>0 then
    out:=out++b.extract ib (ib+k);ib:=ib+k
    if ib==b.size then return d8 a b out ia ib
   out:=out.push (←elem' a ia);ia:=ia+1
   if ia+1==a.size then return lU a b out ia ib
   if acount<7&&bcount<7 then break
  minGallop:=minGallop+1
  dB minGallop
 unsupported "internal:list.sort.merge-bound"):=rfl
section
variable {rk:Value->Nat} {a b out:Array Keyed} {ia ib k:Nat}
def Le (rk:Value->Nat) (x y:Keyed):Prop:=rk x.1<=rk y.1
def FQ (rk:Value->Nat) (l:List Keyed):Prop:=l.Pairwise (Le rk)
structure MI (rk:Value->Nat) (a b out:Array Keyed) (ia ib:Nat):Prop where
 perm:(out.toList++(a.toList.drop ia++b.toList.drop ib)).Perm (a.toList++b.toList)
 sa:FQ rk (out.toList++a.toList.drop ia)
 sb:FQ rk (out.toList++b.toList.drop ib)
structure Mg (rk:Value->Nat) (a b r:Array Keyed):Prop where
 perm:r.toList.Perm (a.toList++b.toList)
 srt:FQ rk r.toList
theorem bT (a:Array Keyed) (i j:Nat):(a.extract i j).toList=(a.toList.drop i).take (j - i):=by
 rw [Array.toList_extract,List.extract_eq_take_drop]
theorem qM (l:List Keyed) (i k:Nat):l.drop i=(l.drop i).take k++l.drop (i+k):=by
 rw [←List.drop_drop,List.take_append_drop]
theorem fJ {a:Array Keyed} {i:Nat} (h:i<a.size):R rk a i=rk (a[i]).1:=rD (getElem?_pos a i h)
theorem HY {a:Array Keyed} {x:Keyed} (h:x∈a.toList.drop ia):∃j,ia<=j/\j<a.size/\R rk a j=rk x.1:=by
 obtain ⟨j,hj,e⟩:=List.getElem_of_mem h;rw [List.length_drop,Array.length_toList] at hj;rw [List.getElem_drop,Array.getElem_toList] at e;exact ⟨ia+j,by (clear e hj;omega),by (clear e;omega),by rw [fJ (by (clear e;omega)),e]⟩
theorem gB {a:Array Keyed} {x:Keyed} (h:x∈(a.toList.drop ia).take k):∃j,j<k/\ia+j<a.size/\R rk a (ia+j)=rk x.1:=by
 obtain ⟨j,hj,e⟩:=List.getElem_of_mem h;rw [List.length_take,List.length_drop,Array.length_toList] at hj;rw [List.getElem_take,List.getElem_drop,Array.getElem_toList] at e;exact ⟨j,by (clear e;omega),by (clear e;omega),by rw [fJ (by (clear e;omega)),e]⟩
theorem gk {x y:List Keyed}:FQ rk (x++y)↔FQ rk x/\FQ rk y /\ ∀p∈x,∀q∈y,rk p.1<=rk q.1:=List.pairwise_append
theorem MI.nU (m:MI rk a b out ia ib) (hle:∀i,i<k->ib+i<b.size -> ∀j,ia<=j->j<a.size->R rk b (ib+i)<=R rk a j):MI rk a b (out++b.extract ib (ib+k)) ia (ib+k):=by
 have e:(out++b.extract ib (ib+k)).toList=out.toList++(b.toList.drop ib).take k:=by rw [Array.toList_append,bT];congr 2;omega
 have sp:=qM b.toList ib k;refine ⟨?_, ?_, ?_⟩
 ·rw [e]
  refine List.Perm.trans ?_ m.perm;rw [List.append_assoc];refine List.Perm.append_left _ ?_;refine List.Perm.trans ?_ (List.Perm.of_eq (congrArg (a.toList.drop ia ++ ·) sp.symm));rw [←List.append_assoc];refine List.Perm.trans (List.Perm.append_right _ (List.perm_append_comm)) (List.Perm.of_eq (List.append_assoc _ _ _))
 ·rw [e,List.append_assoc]
  have h1:=gk.mp m.sa;have h2:=m.sb;rw [sp] at h2;have h3:=gk.mp h2;have h4:=gk.mp h3.2.1;refine gk.mpr ⟨h1.1,gk.mpr ⟨h4.1,h1.2.1,fun p hp q hq=> ?_⟩,fun p hp q hq=> ?_⟩
  ·obtain ⟨i,i1,i2,i3⟩:=gB (rk:=rk) hp
   obtain ⟨j,j1,j2,j3⟩:=HY (rk:=rk) hq;rw [←i3,←j3];exact hle i i1 i2 j j1 j2
  ·rcases List.mem_append.mp hq with hq|hq
   ·exact h3.2.2 p hp q (List.mem_append_left _ hq)
   ·exact h1.2.2 p hp q hq
 ·rw [e,List.append_assoc,←sp]
  exact m.sb
theorem MI.swap (m:MI rk a b out ia ib):MI rk b a out ib ia:=⟨(List.Perm.append_left _ List.perm_append_comm).trans (m.perm.trans List.perm_append_comm),m.sb,m.sa⟩
theorem MI.nW (m:MI rk a b out ia ib) (hle:∀i,i<k->ia+i<a.size -> ∀j,ib<=j->j<b.size->R rk a (ia+i)<=R rk b j):MI rk a b (out++a.extract ia (ia+k)) (ia+k) ib:=(m.swap.nU hle).swap
theorem wk (h:ib<b.size):out.push b[ib]=out++b.extract ib (ib+1):=by
 apply Array.toList_inj.mp;rw [Array.toList_push,Array.toList_append,bT];congr 1;rw [show ib+1 - ib=1 by (clear h;omega),List.drop_eq_getElem_cons (by rw [Array.length_toList];exact h)];rfl
theorem MI.qm (m:MI rk a b out ia ib) (h:ib<b.size) (hle:∀j,ia<=j->j<a.size->R rk b ib<=R rk a j):MI rk a b (out.push b[ib]) ia (ib+1):=by
 rw [wk h];refine m.nU (k:=1) fun i hi hb j j1 j2=> ?_;have:i=0:=by (clear j2 j1 hb h;omega)
 subst this;exact hle j j1 j2
theorem MI.qp (m:MI rk a b out ia ib) (h:ia<a.size) (hle:∀j,ib<=j->j<b.size->R rk a ia<=R rk b j):MI rk a b (out.push a[ia]) (ia+1) ib:=(m.swap.qm h hle).swap
theorem MI.done (m:MI rk a b out ia ib) (h:ia=a.size\/ib=b.size):Mg rk a b (d8 a b out ia ib):=by
 have e:(d8 a b out ia ib).toList=out.toList++(a.toList.drop ia++b.toList.drop ib):=by
  unfold d8;rw [Array.toList_append,Array.toList_append,bT,bT,List.append_assoc];congr 2
  ·rw [List.take_of_length_le];rw [List.length_drop,Array.length_toList];exact Nat.le_refl _
  ·rw [List.take_of_length_le];rw [List.length_drop,Array.length_toList];exact Nat.le_refl _
 refine ⟨by rw [e];exact m.perm, ?_⟩;rw [e];rcases h with h|h
 ·rw [h,show a.toList.drop a.size=[] by rw [List.drop_eq_nil_of_le];rw [Array.length_toList];exact Nat.le_refl _,List.nil_append]
  exact m.sb
 ·rw [h,show b.toList.drop b.size=[] by rw [List.drop_eq_nil_of_le];rw [Array.length_toList];exact Nat.le_refl _,List.append_nil]
  exact m.sa
theorem MI.last (m:MI rk a b out ia ib) (h:∀i j,ib<=i->i<b.size->ia<=j->j<a.size->R rk b i<=R rk a j):Mg rk a b (lU a b out ia ib):=by
 have m2:=m.nU (k:=b.size - ib) fun i hi hb j j1 j2=>h _ _ (by (clear j2 j1 hb hi;omega)) hb j1 j2
 have e:(lU a b out ia ib)=d8 a b (out++b.extract ib (ib+(b.size - ib))) ia (ib+(b.size - ib)):=by
  unfold d8 lU;apply Array.toList_inj.mp;simp only [Array.toList_append,bT]
  have e1:(b.toList.drop (ib+(b.size - ib))).take (b.size - (ib+(b.size - ib)))=[]:=by
   rw [List.take_eq_nil_iff];left;omega
  rw [e1,List.append_nil];congr 3
  (clear e1;omega)
 rw [e]
 by_cases hb:ib<=b.size
 ·exact m2.done (.inr (by (clear e;omega)))
 ·refine ⟨?_, ?_⟩
  ·have:=m2.perm
   have e2:(d8 a b (out++b.extract ib (ib+(b.size - ib))) ia (ib+(b.size - ib))).toList=(out++b.extract ib (ib+(b.size - ib))).toList++(a.toList.drop ia++b.toList.drop (ib+(b.size - ib))):=by
    unfold d8;rw [Array.toList_append,Array.toList_append,bT,bT,List.append_assoc];congr 2
    ·rw [List.take_of_length_le];rw [List.length_drop,Array.length_toList];exact Nat.le_refl _
    ·rw [List.take_of_length_le];rw [List.length_drop,Array.length_toList];exact Nat.le_refl _
   rw [e2];exact this
  ·unfold d8
   rw [Array.toList_append,Array.toList_append,bT (a:=b) (i:=ib+(b.size - ib)),show b.size - (ib+(b.size - ib))=0 by (clear hb e;omega),List.take_zero,List.append_nil,bT (a:=a)];rw [List.take_of_length_le (by rw [List.length_drop,Array.length_toList];exact Nat.le_refl _)];exact m2.sa
end
end Tim
set_option Elab.async false
set_option linter.all false
set_option maxRecDepth 100000
set_option maxHeartbeats 4000000
namespace Tim
open PySem PyProof.Rows
section
variable {prog:Program} {w:World} {A:Around} {E:Value->Shared->Prop} {s:Shared} {κ:SortKind} {a₀:Array Keyed} {rk:Value->Nat}
structure vC (st st':SortSt):Prop where
 k:kindOf st'=kindOf st
 a:arrOf st'=arrOf st
 p:pendingOf st'=pendingOf st
 f:failedOf st'=failedOf st
theorem vC.refl (st:SortSt):vC st st:=⟨rfl,rfl,rfl,rfl⟩
theorem vC.trans {a b c:SortSt} (h:vC a b) (g:vC b c):vC a c:=⟨g.k.trans h.k,g.a.trans h.a,g.p.trans h.p,g.f.trans h.f⟩
theorem kE {st:SortSt} {g:Nat} {Q:Unit->SortSt->Prop} (h:∀st',vC st st'->Q () st'):wpS (model prog w) A E s (dB g) Q st:=by
 rw [nF];exact wpS_modify (h _ ⟨rfl,rfl,rfl,rfl⟩)
theorem aJ {α:Type} {c:Prop} [Decidable c] {x y:StateT SortSt Sem α} {Q:α->SortSt->Prop} {st:SortSt} (h1:c->wpS (model prog w) A E s x Q st) (h2:¬c->wpS (model prog w) A E s y Q st):wpS (model prog w) A E s (if c then x else y) Q st:=by
 by_cases hc:c
 ·rw [if_pos hc];exact h1 hc
 ·rw [if_neg hc];exact h2 hc
theorem Ra {k r:Nat} (h:By true k r=true):r<k:=by simpa [By] using h
theorem Mu {k r:Nat} (h:By false k r=true):r<=k:=by simpa [By] using h
theorem yJ {k r:Nat} (h:By true k r=false):k<=r:=by simpa [By] using h
theorem JG {k r:Nat} (h:By false k r=false):k<r:=by simpa [By] using h
theorem vG {st:SortSt} {a b:Array Keyed} {Q:Array Keyed->SortSt->Prop} (C:yL prog w A s κ a₀ rk) (hk:kindOf st=κ) (ha:∀p∈a.toList,p∈a₀.toList) (hb:∀p∈b.toList,p∈a₀.toList)
 (ha1:1<=a.size) (hb1:1<=b.size) (sa:Seg rk a 0 a.size) (sb:Seg rk b 0 b.size) (h0:R rk b 0<=R rk a 0) (hl:R rk b (b.size - 1)<=R rk a (a.size - 1))
 (h:∀r st',vC st st'->Mg rk a b r->Q r st'):wpS (model prog w) A E s (qC a b) Q st:=by
 have Td:∀i,i<b.size -> ∃p,b[i]? = some p/\p∈a₀.toList/\R rk b i=rk p.1:=fun i hi=>⟨b[i],getElem?_pos b i hi,hb _ (by simp),fJ hi⟩;have Nk:∀i,i<a.size -> ∃p,a[i]? = some p/\p∈a₀.toList/\R rk a i=rk p.1:=fun i hi=>⟨a[i],getElem?_pos a i hi,ha _ (by simp),fJ hi⟩
 have mid:∀i j,i<b.size->j+1=a.size->R rk b i<=R rk a j:=fun i j hi hj=>by
  have:=sb i (b.size - 1) (by (clear hj hi hl h0 hb1 ha1 hk;lia)) (by (clear hj hl h0 hb1 ha1 hk;lia)) (by (clear hj hi hl h0 ha1 hk;lia));have e:a.size - 1=j:=by (clear this hi hl h0 hb1 ha1 hk;lia)
  rw [e] at hl
  (clear e hj hi h0 hb1 ha1 hk;lia)
 have m0:MI rk a b #[b[0]] 0 1:=by
  have m:MI rk a b #[] 0 0:=by
   refine ⟨by simp, ?_, ?_⟩
   ·show FQ rk ([]++a.toList.drop 0)
    rw [List.nil_append,List.drop_zero];refine List.pairwise_iff_getElem.mpr fun i j hi hj hij=> ?_;rw [Array.length_toList] at hi hj;have:=sa i j (by (clear hij hj hi hl h0 hb1 ha1 hk;lia)) (by (clear hj hi hl h0 hb1 ha1 hk;lia)) hj;rw [fJ hi,fJ hj] at this;simpa [Le] using this
   ·show FQ rk ([]++b.toList.drop 0)
    rw [List.nil_append,List.drop_zero];refine List.pairwise_iff_getElem.mpr fun i j hi hj hij=> ?_;rw [Array.length_toList] at hi hj;have:=sb i j (by (clear hij hj hi hl h0 hb1 ha1 hk;lia)) (by (clear hj hi hl h0 hb1 ha1 hk;lia)) hj;rw [fJ hi,fJ hj] at this;simpa [Le] using this
  exact m.qm (by (clear hl h0 ha1 hk;lia)) fun j _ j2=>Nat.le_trans h0 (sa 0 j (by (clear j2 hl h0 hb1 ha1 hk;lia)) (by (clear j2 hl h0 hb1 ha1 hk;lia)) j2)
 rw [wO];refine wpS_bind (wpS_lift (wpAny_rule ⟨rfl, ?_⟩));refine wpS_bind (bB (p:=b[0]) (getElem?_pos b 0 (by (clear hl h0 ha1 hk;lia))) ?_);dsimp only;refine aJ (fun e=> ?_) (fun e=> ?_)
 ·have e:1=b.size:=by simpa using e
  exact wpS_pure (h _ _ (.refl _) (m0.done (.inr e)))
 have eb:¬1=b.size:=by simpa using e
 refine aJ (fun e=> ?_) (fun e=> ?_)
 ·have e:1=a.size:=by simpa using e
  exact wpS_pure (h _ _ (.refl _) (m0.last fun i j _ hi _ hj=>mid i j hi (by (clear hi eb hl h0 ha1 hk;lia))))
 have ea:¬1=a.size:=by simpa using e
 refine wpS_bind (wpS_get ?_)
 refine wpS_bind (wpS_mono (wpS_forRange (I:=fun x c st'=>vC st st' /\ ∃out ia ib mg,c=(none,out,ia,ib,mg)/\MI rk a b out ia ib/\ia+2<=a.size/\ib+1<=b.size/\(a.size - ia)+(b.size - ib)+x<=a.size+b.size)
  (Q:=fun c st'=>vC st st' /\ ∃r cc,c=(some r,cc)/\Mg rk a b r) ?step ?fin ⟨.refl _,_,_,_,_,rfl,m0,by (clear e eb hl h0 hk;lia),by (clear ea e hl h0 ha1 hk;lia),by (clear ea e eb hl h0 ha1 hk;lia)⟩) ?post)
 case post=>
  rintro c st' ⟨kp,r,cc,rfl,m⟩;exact wpS_pure (h _ _ kp m)
 case fin=>
  rintro c st' ⟨kp,out,ia,ib,mg,rfl,m,a1,b1,le⟩
  (clear b1 ea e eb hl h0 ha1 hk;lia)
 case step=>
  rintro x c st' _ hx ⟨kp,out,ia,ib,mg,rfl,m,a1,b1,le⟩;dsimp only
  refine wpS_bind (wpS_mono (wpS_forRange (I:=fun y c st2=>st2=st' /\ ∃out ia ib ac bc,c=(none,out,ia,ib,ac,bc)/\MI rk a b out ia ib/\ia+2<=a.size/\ib+1<=b.size/\(a.size - ia)+(b.size - ib)+x+y<=a.size+b.size)
   (Q:=fun c st2=>st2=st'/\((∃r cc,c=(some r,cc)/\Mg rk a b r) \/ ∃out ia ib ac bc,c=(none,out,ia,ib,ac,bc)/\MI rk a b out ia ib/\ia+2<=a.size/\ib+1<=b.size/\(a.size - ia)+(b.size - ib)+x+1<=a.size+b.size)) ?step1 ?Qy ⟨rfl,_,_,_,_,_,rfl,m,a1,b1,by (clear b1 a1 hx ea e eb hl h0 ha1 hk;lia)⟩) ?G6)
  case Qy=>
   rintro c st2 ⟨rfl,out,ia,ib,ac,bc,rfl,m,a1,b1,le⟩
   (clear b1 hx ea e eb hl h0 ha1 hk;lia)
  case step1=>
   rintro y c st2 _ hy ⟨rfl,out,ia,ib,ac,bc,rfl,m,a1,b1,le⟩;dsimp only;obtain ⟨p,ep,mp,rp⟩:=Td ib (by (clear le a1 hy hx ea e eb hl h0 ha1 hk;lia));obtain ⟨q,eq,mq,rq⟩:=Nk ia (by (clear rp ep le b1 hy hx ea e eb hl h0 ha1 hk;lia));refine wpS_bind (bB ep (wpS_bind (bB eq (wpS_bind (pN C (kp.k.trans hk) mp mq ?_)))));dsimp only;have bI:p=b[ib]:=by rw [getElem?_pos b ib (by (clear rq eq rp ep le a1 hy hx ea e eb hl h0 ha1 hk;lia))] at ep;exact (Option.some.inj ep).symm
   have eX:q=a[ia]:=by rw [getElem?_pos a ia (by (clear bI rq eq rp ep le b1 hy hx ea e eb hl h0 ha1 hk;lia))] at eq;exact (Option.some.inj eq).symm
   refine aJ (fun lt=> ?_) (fun lt=> ?_)
   ·have lt:R rk b ib<R rk a ia:=by rw [rp,rq];simpa using lt
    have m2:MI rk a b (out.push p) ia (ib+1):=by
     rw [bI];exact m.qm (by (clear lt eX bI rq eq rp ep le a1 hy hx ea e eb hl h0 ha1 hk;lia)) fun j j1 j2=>by have:=sa ia j (by (clear j2 j1 lt eX bI rq eq rp ep le b1 a1 hy hx ea e eb hl h0 ha1 hk;lia)) j1 j2;(clear j2 j1 eX bI rq eq rp ep le b1 a1 hy hx ea e eb hl h0 ha1 hk;lia)
    refine wpS_bind (bB ep ?_);refine aJ (fun e=> ?_) (fun e=> ?_)
    ·exact wpS_pure ⟨rfl,.inl ⟨_,_,rfl,m2.done (.inr (by simpa using e))⟩⟩
    have e:¬ib+1=b.size:=by simpa using e
    refine aJ (fun _=> ?_) (fun _=> ?_)
    ·exact wpS_pure ⟨rfl,.inr ⟨_,_,_,_,_,rfl,m2,a1,by (clear lt eX bI rq eq rp ep le a1 hy hx ea eb hl h0 ha1 hk;lia),by (clear e lt eX bI rq eq rp ep a1 hy hx ea eb hl h0 ha1 hk;lia)⟩⟩
    ·exact wpS_pure ⟨rfl,_,_,_,_,_,rfl,m2,a1,by (clear lt eX bI rq eq rp ep le a1 hy hx ea eb hl h0 ha1 hk;lia),by (clear e lt eX bI rq eq rp ep a1 hy hx ea eb hl h0 ha1 hk;lia)⟩
   ·have lt:R rk a ia<=R rk b ib:=by rw [rp,rq];simpa using lt
    have m2:MI rk a b (out.push q) (ia+1) ib:=by
     rw [eX];exact m.qp (by (clear lt eX bI rq eq rp ep le b1 hy hx ea e eb hl h0 ha1 hk;lia)) fun j j1 j2=>by have:=sb ib j (by (clear j2 j1 lt eX bI rq eq rp ep le b1 a1 hy hx ea e eb hl h0 ha1 hk;lia)) j1 j2;(clear j2 j1 eX bI rq eq rp ep le b1 a1 hy hx ea e eb hl h0 ha1 hk;lia)
    refine wpS_bind (bB eq ?_);refine aJ (fun e=> ?_) (fun e=> ?_)
    ·have e:ia+1+1=a.size:=by simpa using e
     exact wpS_pure ⟨rfl,.inl ⟨_,_,rfl,m2.last fun i j _ hi _ hj=>mid i j hi (by (clear hi lt eX bI rq eq rp ep le b1 a1 hy hx ea eb hl h0 ha1 hk;lia))⟩⟩
    have e:¬ia+1+1=a.size:=by simpa using e
    refine aJ (fun _=> ?_) (fun _=> ?_)
    ·exact wpS_pure ⟨rfl,.inr ⟨_,_,_,_,_,rfl,m2,by (clear lt eX bI rq eq rp ep le b1 hy hx ea eb hl h0 ha1 hk;lia),b1,by (clear e lt eX bI rq eq rp ep b1 hy hx ea eb hl h0 ha1 hk;lia)⟩⟩
    ·exact wpS_pure ⟨rfl,_,_,_,_,_,rfl,m2,by (clear lt eX bI rq eq rp ep le b1 hy hx ea eb hl h0 ha1 hk;lia),b1,by (clear e lt eX bI rq eq rp ep b1 hy hx ea eb hl h0 ha1 hk;lia)⟩
  case G6=>
   rintro c st2 ⟨rfl,(⟨r,cc,rfl,mr⟩|⟨out,ia,ib,ac,bc,rfl,m,a1,b1,le⟩)⟩
   ·exact wpS_pure ⟨kp,r,_,rfl,mr⟩
   dsimp only;refine wpS_bind (wpS_lift (wpAny_rule ⟨rfl, ?_⟩))
   refine wpS_bind (wpS_mono (wpS_forRange (I:=fun y c st3=>vC st st3 /\ ∃out ia ib mg ac bc,c=(none,out,ia,ib,mg,ac,bc)/\MI rk a b out ia ib/\ia+2<=a.size/\ib+1<=b.size/\(a.size - ia)+(b.size - ib)+x+1+y<=a.size+b.size)
    (Q:=fun c st3=>vC st st3/\((∃r cc,c=(some r,cc)/\Mg rk a b r) \/ ∃out ia ib mg ac bc,c=(none,out,ia,ib,mg,ac,bc)/\MI rk a b out ia ib/\ia+2<=a.size/\ib+1<=b.size/\(a.size - ia)+(b.size - ib)+x+1<=a.size+b.size)) ?Gp ?fin2 ⟨kp,_,_,_,_,_,_,rfl,m,a1,b1,by (clear b1 a1 hx ea e eb hl h0 ha1 hk;lia)⟩) ?post2)
   case fin2=>
    rintro c st3 ⟨Ii,out,ia,ib,mg,ac,bc,rfl,m,a1,b1,le⟩
    (clear b1 a1 hx ea e eb hl h0 ha1 hk;lia)
   case post2=>
    rintro c st3 ⟨Ii,(⟨r,cc,rfl,mr⟩|⟨out,ia,ib,mg,ac,bc,rfl,m,a1,b1,le⟩)⟩
    ·exact wpS_pure ⟨Ii,r,_,rfl,mr⟩
    dsimp only;refine wpS_bind (kE fun j8 k4=>wpS_pure ⟨Ii.trans k4,_,_,_,_,rfl,m,a1,b1,by (clear b1 a1 hx ea e eb hl h0 ha1 hk;lia)⟩)
   case Gp=>
    rintro y c st3 _ hy ⟨Ii,out,ia,ib,mg,ac,bc,rfl,m,a1,b1,le⟩;dsimp only;refine aJ (fun _=> ?_) (fun _=> ?_)
    all_goals
     refine wpS_bind (kE fun j8 k4=> ?_);have uQ:=Ii.trans k4;obtain ⟨p,ep,mp,rp⟩:=Td ib (by (clear le a1 hy hx ea e eb hl h0 ha1 hk;lia));have bI:p=b[ib]:=by rw [getElem?_pos b ib (by (clear rp ep le a1 hy hx ea e eb hl h0 ha1 hk;lia))] at ep;exact (Option.some.inj ep).symm
     refine wpS_bind (bB ep (wpS_bind (fP C (uQ.k.trans hk) mp ha (by (clear bI rp ep le b1 hy hx ea e eb hl h0 ha1 hk;lia)) (by (clear bI rp ep le b1 hy hx ea e eb hl h0 ha1 hk;lia)) (fun i j h1 h2 h3=>sa i j (by (clear h3 h2 h1 bI rp ep le b1 a1 hy hx ea e eb hl h0 ha1 hk;lia)) h2 (by (clear h2 h1 bI rp ep le b1 hy hx ea e eb hl h0 ha1 hk;lia))) fun k k1 k2 k3=> ?_)));dsimp only
     have mA:MI rk a b (out++a.extract ia (ia+k)) (ia+k) ib:=m.nW (k:=k) fun i hi hs j j1 j2=>by
      have e1:=Mu (k2 i hi);have e2:=sb ib j (by (clear e1 j2 j1 hs hi k1 bI rp ep le b1 a1 hy hx ea e eb hl h0 ha1 hk;lia)) j1 j2;rw [rp] at e2
      (clear j2 j1 hs hi k1 bI rp ep le b1 a1 hy hx ea e eb hl h0 ha1 hk;lia)
     have nxt:∀j,ia+k<=j->j<a.size->R rk b ib<=R rk a j:=fun j j1 j2=>by
      have:=JG (k3 (j - ia) (by (clear j2 k1 bI rp ep le b1 a1 hy hx ea e eb hl h0 ha1 hk;lia)) (by (clear j1 k1 bI rp ep le b1 hy hx ea e eb hl h0 ha1 hk;lia)));rw [show ia+(j - ia)=j by (clear this j2 k1 bI rp ep le b1 a1 hy hx ea e eb hl h0 ha1 hk;lia)] at this;rw [rp];(clear j2 j1 k1 bI rp ep le b1 a1 hy hx ea e eb hl h0 ha1 hk;lia)
     apply aJ
     case' h1=>
      intro kpos;refine aJ (fun e=> ?_) (fun e=> ?_)
      ·have e:ia+k+1=a.size:=by simpa using e
       exact wpS_pure ⟨uQ,.inl ⟨_,_,rfl,mA.last fun i j _ hi _ hj=>mid i j hi (by (clear hi kpos k1 bI rp ep le b1 a1 hy hx ea eb hl h0 ha1 hk;lia))⟩⟩
      have e1:¬ia+k+1=a.size:=by simpa using e
      refine aJ (fun e=> ?_) (fun e=> ?_)
      ·exact wpS_pure ⟨uQ,.inl ⟨_,_,rfl,mA.done (.inl (by simpa using e))⟩⟩
      have e2:¬ia+k=a.size:=by simpa using e
      have a3:ia+k+2<=a.size:=by (clear e kpos bI rp ep le b1 hy hx ea eb hl h0 ha1 hk;lia)
      have eO:(a.size - (ia+k))+(b.size - ib)+x+1+y<=a.size+b.size:=by (clear a3 e2 e e1 kpos k1 bI rp ep b1 a1 hy hx ea eb hl h0 ha1 hk;lia)
      generalize out++a.extract ia (ia+k)=ac8 at mA ⊢;generalize ia+k=ia3 at mA nxt a3 eO ⊢
     case' h2=>
      intro kpos;have k0:k=0:=by (clear k1 bI rp ep le b1 a1 hy hx ea e eb hl h0 ha1 hk;lia)
      have a3:ia+2<=a.size:=by (clear k0 kpos k1 bI rp ep le b1 hy hx ea e eb hl h0 ha1 hk;lia)
      have eO:(a.size - ia)+(b.size - ib)+x+1+y<=a.size+b.size:=by (clear a3 k0 kpos k1 bI rp ep b1 a1 hy hx ea e eb hl h0 ha1 hk;lia)
      subst k0
      replace nxt:∀j,ia<=j->j<a.size->R rk b ib<=R rk a j:=nxt
      replace mA:=m
     all_goals
      have mB:=mA.qm (by (clear kpos k1 eO a3 bI rp ep le a1 hy hx ea e eb hl h0 ha1 hk;lia)) nxt;rw [←bI] at mB;refine wpS_bind (bB ep ?_);refine aJ (fun e=> ?_) (fun e=> ?_)
      ·exact wpS_pure ⟨uQ,.inl ⟨_,_,rfl,mB.done (.inr (by simpa using e))⟩⟩
      have e3:¬ib+1=b.size:=by simpa using e
      obtain ⟨q,eq,mq,rq⟩:=Nk _ (show _<a.size from Nat.lt_of_lt_of_le (Nat.lt_succ_of_lt (Nat.lt_succ_self _)) a3);refine wpS_bind (bB eq (wpS_bind (fP C (uQ.k.trans hk) mq hb (by (clear rq eq e3 e kpos k1 eO a3 bI rp ep le a1 hy hx ea eb hl h0 ha1 hk;lia)) (by (clear rq eq e kpos k1 eO a3 bI rp ep le a1 hy hx ea eb hl h0 ha1 hk;lia)) (fun i j h1 h2 h3=>sb i j (by (clear h3 h2 h1 rq eq e3 e kpos k1 eO a3 bI rp ep le b1 a1 hy hx ea eb hl h0 ha1 hk;lia)) h2 (by (clear h2 h1 rq eq e3 e kpos k1 eO a3 bI rp ep le a1 hy hx ea eb hl h0 ha1 hk;lia))) fun k' l1 l2 l3=> ?_)));dsimp only
      have mC:=mB.nU (k:=k') fun i hi hs j j1 j2=>by
       have e1:=Ra (l2 i hi);have e2:=sa _ j (by (clear e1 j2 j1 hs hi l1 rq eq e3 e kpos k1 eO a3 bI rp ep le b1 a1 hy hx ea eb hl h0 ha1 hk;lia)) j1 j2;rw [rq] at e2
       (clear j2 j1 hs hi l1 rq eq e3 e kpos k1 eO a3 bI rp ep le b1 a1 hy hx ea eb hl h0 ha1 hk;lia)
      apply aJ
      case' h1=>
       intro kpos;refine aJ (fun e=> ?_) (fun e=> ?_)
       ·exact wpS_pure ⟨uQ,.inl ⟨_,_,rfl,mC.done (.inr (by simpa using e))⟩⟩
       have e5:¬ib+1+k'=b.size:=by simpa using e
       have nx:∀j,ib+1+k'<=j->j<b.size->rk q.1<=R rk b j:=fun j j1 j2=>by
        have:=yJ (l3 (j - (ib+1)) (by (clear j2 e5 e kpos l1 rq eq e3 k1 eO a3 bI rp ep le b1 a1 hy hx ea eb hl h0 ha1 hk;lia)) (by (clear j1 e5 e kpos l1 rq eq k1 eO a3 bI rp ep le a1 hy hx ea eb hl h0 ha1 hk;lia)));rw [show ib+1+(j - (ib+1))=j by (clear this j2 e5 e kpos l1 rq eq e3 k1 eO a3 bI rp ep le b1 a1 hy hx ea eb hl h0 ha1 hk;lia)] at this
        (clear j2 j1 e5 e kpos l1 rq eq e3 k1 eO a3 bI rp ep le b1 a1 hy hx ea eb hl h0 ha1 hk;lia)
       have b3:ib+1+k'+1<=b.size:=by (clear e kpos rq eq e3 k1 eO a3 bI rp ep le a1 hy hx ea eb hl h0 ha1 hk;lia)
      case' h2=>
       intro kpos;have k0:k'=0:=by (clear l1 rq eq e3 e k1 eO a3 bI rp ep le b1 a1 hy hx ea eb hl h0 ha1 hk;lia)
       have nx:∀j,ib+1<=j->j<b.size->rk q.1<=R rk b j:=fun j j1 j2=>by
        have:=yJ (l3 (j - (ib+1)) (by (clear j2 j1 k0 l1 rq eq e3 e k1 eO a3 bI rp ep le b1 a1 hy hx ea eb hl h0 ha1 hk;lia)) (by (clear j1 k0 kpos l1 rq eq e k1 eO a3 bI rp ep le a1 hy hx ea eb hl h0 ha1 hk;lia)));rw [show ib+1+(j - (ib+1))=j by (clear this j2 k0 kpos l1 rq eq e3 e k1 eO a3 bI rp ep le b1 a1 hy hx ea eb hl h0 ha1 hk;lia)] at this
        (clear j2 j1 k0 kpos l1 rq eq e3 e k1 eO a3 bI rp ep le b1 a1 hy hx ea eb hl h0 ha1 hk;lia)
       have b3:ib+1+1<=b.size:=by (clear k0 kpos l1 rq eq e k1 eO a3 bI rp ep le a1 hy hx ea eb hl h0 ha1 hk;lia)
       replace mC:=mB
      all_goals
       have mD:=mC.qp (by (clear b3 kpos l1 rq eq e3 e k1 eO bI rp ep le b1 hy hx ea eb hl h0 ha1 hk;lia)) (fun j j1 j2=>by rw [rq];exact nx j j1 j2);have eX:=Option.some.inj ((getElem?_pos a _ (by (clear b3 kpos l1 rq eq e3 e k1 eO bI rp ep le b1 hy hx ea eb hl h0 ha1 hk;lia))).symm.trans eq);rw [eX] at mD;refine wpS_bind (bB eq ?_);refine aJ (fun e=> ?_) (fun e=> ?_)
       ·exact wpS_pure ⟨uQ,.inl ⟨_,_,rfl,mD.last fun i j _ hi _ hj=>mid i j hi (by have e:=eq_of_beq e;(clear hi eX b3 kpos l1 rq eq e3 k1 eO a3 bI rp ep le b1 a1 hy hx ea eb hl h0 ha1 hk;lia))⟩⟩
       have e6:¬_=a.size:=fun z=>e (beq_iff_eq.mpr z);refine aJ (fun _=> ?_) (fun _=> ?_)
       ·exact wpS_pure ⟨uQ,.inr ⟨_,_,_,_,_,_,rfl,mD,by (clear e eX b3 kpos l1 rq eq e3 k1 eO bI rp ep le b1 hy hx ea eb hl h0 ha1 hk;lia),by (clear e6 e eX b3 kpos rq eq k1 eO a3 bI rp ep le a1 hy hx ea eb hl h0 ha1 hk;lia),by (clear e6 e eX b3 kpos l1 rq eq e3 k1 a3 bI rp ep b1 a1 hy hx ea eb hl h0 ha1 hk;lia)⟩⟩
       ·exact wpS_pure ⟨uQ,_,_,_,_,_,_,rfl,mD,by (clear e eX b3 kpos l1 rq eq e3 k1 eO bI rp ep le b1 hy hx ea eb hl h0 ha1 hk;lia),by (clear e6 e eX b3 kpos rq eq k1 eO a3 bI rp ep le a1 hy hx ea eb hl h0 ha1 hk;lia),by (clear e6 e eX b3 kpos l1 rq eq e3 k1 a3 bI rp ep hy hx ea eb hl h0 ha1 hk;lia)⟩
end
end Tim
set_option Elab.async false
set_option linter.all false
set_option maxRecDepth 100000
set_option maxHeartbeats 4000000
namespace Tim
open PySem PyProof.Rows
abbrev gO (a b out:Array Keyed) (na nb:Nat):Array Keyed:=a.extract 0 na++b.extract 0 nb++out.reverse
abbrev k_ (a b out:Array Keyed) (na nb:Nat):Array Keyed:=b.extract 0 nb++a.extract 0 na++out.reverse
theorem wQ (a b:Array Keyed):qD a b=(do
 rule "list.sort.merge-hi"
 let total:=a.size+b.size
 let mut na:=a.size - 1
 let mut nb:=b.size
 let mut out:Array Keyed:= #[←elem' a na]
 if na==0 then return gO a b out na nb
 if nb==1 then return k_ a b out na nb
 let mut minGallop:=gallopOf (←get)
 for _ in [0:total] do
  let mut acount:=0
  let mut bcount:=0
  for _ in [0:total] do
   let some aWins ←lt' (←elem' b (nb - 1)) (←elem' a (na - 1))|return gO a b out na nb
   if aWins then
    na:=na - 1;out:=out.push (←elem' a na);acount:=acount+1;bcount:=0
    if na==0 then return gO a b out na nb
    if acount≥minGallop then break
   else
    nb:=nb - 1;out:=out.push (←elem' b nb);bcount:=bcount+1;acount:=0
    if nb==1 then return k_ a b out na nb
    if bcount≥minGallop then break
  rule "list.sort.gallop"
  minGallop:=minGallop+1
  for _ in [0:total] do
   if minGallop>1 then minGallop:=minGallop - 1
   dB minGallop
   let some at_ ←i_ false (←elem' b (nb - 1)) a 0 na (na - 1)|return gO a b out na nb
   let k:=na - at_
   acount:=k
   if k>0 then
    out:=out++(a.extract at_ na).reverse;na:=at_
    if na==0 then return gO a b out na nb
   nb:=nb - 1;out:=out.push (←elem' b nb)
   if nb==1 then return k_ a b out na nb
   let some at_ ←i_ true (←elem' a (na - 1)) b 0 nb (nb - 1)|return gO a b out na nb
   let k:=nb - at_
   bcount:=k
   if k>0 then
    out:=out++(b.extract at_ nb).reverse;nb:=at_
    if nb==1 then return k_ a b out na nb
    if nb==0 then return gO a b out na nb
   na:=na - 1;out:=out.push (←elem' a na)
   if na==0 then return gO a b out na nb
   if acount<7&&bcount<7 then break
  minGallop:=minGallop+1
  dB minGallop
 unsupported "internal:list.sort.merge-bound"):=rfl
section
variable {rk:Value->Nat} {a b out:Array Keyed} {na nb k:Nat}
structure MH (rk:Value->Nat) (a b out:Array Keyed) (na nb:Nat):Prop where
 perm:(a.toList.take na++(b.toList.take nb++out.toList.reverse)).Perm (a.toList++b.toList)
 sa:FQ rk (a.toList.take na++out.toList.reverse)
 sb:FQ rk (b.toList.take nb++out.toList.reverse)
theorem yS (l:List Keyed) {i j:Nat} (h:i<=j):l.take j=l.take i++(l.drop i).take (j - i):=by
 rw [List.take_drop,show i+(j - i)=j by lia];have:=(List.take_append_drop i (l.take j)).symm;rwa [List.take_take,Nat.min_eq_left h] at this
theorem Ej {a:Array Keyed} {x:Keyed} (h:x∈a.toList.take na):∃j,j<na/\j<a.size/\R rk a j=rk x.1:=by
 have h':x∈(a.toList.drop 0).take na:=by rw [List.drop_zero];exact h
 obtain ⟨j,j1,j2,j3⟩:=gB (rk:=rk) h';rw [Nat.zero_add] at j2 j3;exact ⟨j,j1,j2,j3⟩
theorem MH.nW (m:MH rk a b out na nb) {at_:Nat} (hat:at_<=na) (hle:∀i,at_<=i->i<na->i<a.size -> ∀j,j<nb->j<b.size->R rk b j<=R rk a i):MH rk a b (out++(a.extract at_ na).reverse) at_ nb:=by
 have e:(out++(a.extract at_ na).reverse).toList.reverse=(a.toList.drop at_).take (na - at_)++out.toList.reverse:=by
  rw [Array.toList_append,List.reverse_append,Array.toList_reverse,List.reverse_reverse,bT]
 have sp:=yS a.toList hat;refine ⟨?_, ?_, ?_⟩
 ·rw [e]
  refine List.Perm.trans ?_ m.perm;rw [sp,List.append_assoc];refine List.Perm.append_left _ ?_;rw [←List.append_assoc,←List.append_assoc];exact List.Perm.append_right _ List.perm_append_comm
 ·rw [e,←List.append_assoc,←sp]
  exact m.sa
 ·rw [e]
  have h1:=m.sa;rw [sp,List.append_assoc] at h1;have h2:=gk.mp (gk.mp h1).2.1;have h3:=gk.mp m.sb;refine gk.mpr ⟨h3.1,gk.mpr ⟨h2.1,h3.2.1,h2.2.2⟩,fun p hp q hq=> ?_⟩;rcases List.mem_append.mp hq with hq|hq
  ·obtain ⟨i,i1,i2,i3⟩:=Ej (rk:=rk) hp
   obtain ⟨j,j1,j2,j3⟩:=gB (rk:=rk) hq;rw [←i3,←j3];exact hle _ (by (clear j3 j2 j1 i3 i2 i1 h3 h2 sp e hat;lia)) (by (clear j3 j2 i3 i2 i1 h3 h2 sp e hat;lia)) j2 i i1 i2
  ·exact h3.2.2 p hp q hq
theorem MH.swap (m:MH rk a b out na nb):MH rk b a out nb na:=by
 refine ⟨?_,m.sb,m.sa⟩;refine List.Perm.trans ?_ (m.perm.trans List.perm_append_comm);rw [←List.append_assoc,←List.append_assoc];exact List.Perm.append_right _ List.perm_append_comm
theorem MH.nU (m:MH rk a b out na nb) {at_:Nat} (hat:at_<=nb) (hle:∀i,at_<=i->i<nb->i<b.size -> ∀j,j<na->j<a.size->R rk a j<=R rk b i):MH rk a b (out++(b.extract at_ nb).reverse) na at_:=(m.swap.nW hat hle).swap
theorem GX (h1:1<=na) (h:na<=a.size):out.push (a[na - 1]'(by lia))=out++(a.extract (na - 1) na).reverse:=by
 have e:=wk (out:= #[]) (b:=a) (ib:=na - 1) (by lia);rw [show na - 1+1=na by (clear e h;lia)] at e
 have e2:a.extract (na - 1) na = #[a[na - 1]'(by (clear e;lia))]:=by
  apply Array.toList_inj.mp;have:=congrArg Array.toList e;rw [Array.toList_append] at this;simpa using this.symm
 rw [e2];apply Array.toList_inj.mp;simp
theorem MH.qp (m:MH rk a b out na nb) (h1:1<=na) (h:na<=a.size) (hle:∀j,j<nb->j<b.size->R rk b j<=R rk a (na - 1)):MH rk a b (out.push (a[na - 1]'(by lia))) (na - 1) nb:=by
 rw [GX h1 h];refine m.nW (by (clear h h1;lia)) fun i i1 i2 i3 j j1 j2=> ?_;have:i=na - 1:=by (clear j2 j1 i3 h h1;lia)
 subst this;exact hle j j1 j2
theorem MH.qm (m:MH rk a b out na nb) (h1:1<=nb) (h:nb<=b.size) (hle:∀j,j<na->j<a.size->R rk a j<=R rk b (nb - 1)):MH rk a b (out.push (b[nb - 1]'(by lia))) na (nb - 1):=(m.swap.qp h1 h hle).swap
theorem pG:(gO a b out na nb).toList=a.toList.take na++(b.toList.take nb++out.toList.reverse):=by
 unfold gO;rw [Array.toList_append,Array.toList_append,bT,bT,Array.toList_reverse,List.append_assoc];rfl
theorem MH.done (m:MH rk a b out na nb) (h:na=0\/nb=0):Mg rk a b (gO a b out na nb):=by
 refine ⟨by rw [pG];exact m.perm, ?_⟩;rw [pG];rcases h with h|h
 ·subst h
  exact m.sb
 ·subst h
  exact m.sa
theorem MH.first (m:MH rk a b out na nb) (h:∀i j,i<nb->i<b.size->j<na->j<a.size->R rk b i<=R rk a j):Mg rk a b (k_ a b out na nb):=by
 have m2:=m.nW (at_:=0) (by lia) fun i _ i2 i3 j j1 j2=>h j i j1 j2 i2 i3
 have e:k_ a b out na nb=gO a b (out++(a.extract 0 na).reverse) 0 nb:=by
  apply Array.toList_inj.mp;rw [pG,pG,Array.toList_append,List.reverse_append,Array.toList_reverse,List.reverse_reverse,bT];simp
 rw [e];exact m2.done (.inl rfl)
end
section
variable {prog:Program} {w:World} {A:Around} {E:Value->Shared->Prop} {s:Shared} {κ:SortKind} {a₀:Array Keyed} {rk:Value->Nat}
theorem vH {st:SortSt} {a b:Array Keyed} {Q:Array Keyed->SortSt->Prop} (C:yL prog w A s κ a₀ rk) (hk:kindOf st=κ) (ha:∀p∈a.toList,p∈a₀.toList) (hb:∀p∈b.toList,p∈a₀.toList)
 (ha1:1<=a.size) (hb1:1<=b.size) (sa:Seg rk a 0 a.size) (sb:Seg rk b 0 b.size) (h0:R rk b 0<=R rk a 0) (hl:R rk b (b.size - 1)<=R rk a (a.size - 1))
 (h:∀r st',vC st st'->Mg rk a b r->Q r st'):wpS (model prog w) A E s (qD a b) Q st:=by
 have Td:∀i,i<b.size -> ∃p,b[i]? = some p/\p∈a₀.toList/\R rk b i=rk p.1:=fun i hi=>⟨b[i],getElem?_pos b i hi,hb _ (by simp),fJ hi⟩;have Nk:∀i,i<a.size -> ∃p,a[i]? = some p/\p∈a₀.toList/\R rk a i=rk p.1:=fun i hi=>⟨a[i],getElem?_pos a i hi,ha _ (by simp),fJ hi⟩
 have mid:∀i j nb,i<nb->nb=1->j<a.size->R rk b i<=R rk a j:=fun i j nb hi hn hj=>by
  have:=sa 0 j (by (clear hj hn hi hl h0 hb1 ha1 hk;lia)) (by (clear hj hn hi hl h0 hb1 ha1 hk;lia)) hj;have e:i=0:=by (clear this hj hl h0 hb1 ha1 hk;lia)
  subst e
  (clear hi hj hn hl hb1 ha1 hk;lia)
 have m0:MH rk a b #[a[a.size - 1]] (a.size - 1) b.size:=by
  have m:MH rk a b #[] a.size b.size:=by
   refine ⟨?_, ?_, ?_⟩
   ·rw [←Array.length_toList,←Array.length_toList,List.take_length,List.take_length];simp
   ·rw [←Array.length_toList,List.take_length]
    show FQ rk (a.toList++[]);rw [List.append_nil];refine List.pairwise_iff_getElem.mpr fun i j hi hj hij=> ?_;rw [Array.length_toList] at hi hj;have:=sa i j (by (clear hij hj hi hl h0 hb1 ha1 hk;lia)) (by (clear hj hi hl h0 hb1 ha1 hk;lia)) hj;rw [fJ hi,fJ hj] at this;simpa [Le] using this
   ·rw [←Array.length_toList,List.take_length]
    show FQ rk (b.toList++[]);rw [List.append_nil];refine List.pairwise_iff_getElem.mpr fun i j hi hj hij=> ?_;rw [Array.length_toList] at hi hj;have:=sb i j (by (clear hij hj hi hl h0 hb1 ha1 hk;lia)) (by (clear hj hi hl h0 hb1 ha1 hk;lia)) hj;rw [fJ hi,fJ hj] at this;simpa [Le] using this
  exact m.qp ha1 (Nat.le_refl _) fun j j1 j2=>Nat.le_trans (sb j (b.size - 1) (by (clear j2 j1 hl h0 hb1 ha1 hk;lia)) (by (clear j2 hl h0 hb1 ha1 hk;lia)) (by (clear j2 j1 hl h0 ha1 hk;lia))) hl
 rw [wQ];refine wpS_bind (wpS_lift (wpAny_rule ⟨rfl, ?_⟩));refine wpS_bind (bB (p:=a[a.size - 1]) (getElem?_pos a _ (by (clear hl h0 hb1 hk;lia))) ?_);dsimp only;refine aJ (fun e=> ?_) (fun e=> ?_)
 ·exact wpS_pure (h _ _ (.refl _) (m0.done (.inl (by simpa using e))))
 have ea:¬a.size - 1=0:=fun z=>e (beq_iff_eq.mpr z);refine aJ (fun e=> ?_) (fun e=> ?_)
 ·exact wpS_pure (h _ _ (.refl _) (m0.first fun i j i1 i2 j1 j2=>mid i j _ i1 (by simpa using e) j2))
 have eb:¬b.size=1:=by simpa using e
 refine wpS_bind (wpS_get ?_)
 refine wpS_bind (wpS_mono (wpS_forRange (I:=fun x c st'=>vC st st' /\ ∃na nb out mg,c=(none,na,nb,out,mg)/\MH rk a b out na nb/\1<=na/\2<=nb/\na<=a.size/\nb<=b.size/\na+nb+x<=a.size+b.size)
  (Q:=fun c st'=>vC st st' /\ ∃r cc,c=(some r,cc)/\Mg rk a b r) ?step ?fin ⟨.refl _,_,_,_,_,rfl,m0,by (clear eb e hl h0 hb1 hk;lia),by (clear e ea hl h0 hk;lia),by (clear eb e ea hl h0 hb1 hk;lia),by (clear eb e ea hl h0 hb1 hk;lia),by (clear eb e ea hl h0 hb1 hk;lia)⟩) ?post)
 case post=>
  rintro c st' ⟨kp,r,cc,rfl,m⟩;exact wpS_pure (h _ _ kp m)
 case fin=>
  rintro c st' ⟨kp,na,nb,out,mg,rfl,m,a1,b1,a2,b2,le⟩
  (clear b2 a2 b1 eb e ea hl h0 hb1 hk;lia)
 case step=>
  rintro x c st' _ hx ⟨kp,na,nb,out,mg,rfl,m,a1,b1,a2,b2,le⟩;dsimp only
  refine wpS_bind (wpS_mono (wpS_forRange (I:=fun y c st2=>st2=st' /\ ∃na nb out ac bc,c=(none,na,nb,out,ac,bc)/\MH rk a b out na nb/\1<=na/\2<=nb/\na<=a.size/\nb<=b.size/\na+nb+x+y<=a.size+b.size)
   (Q:=fun c st2=>st2=st'/\((∃r cc,c=(some r,cc)/\Mg rk a b r) \/ ∃na nb out ac bc,c=(none,na,nb,out,ac,bc)/\MH rk a b out na nb/\1<=na/\2<=nb/\na<=a.size/\nb<=b.size/\na+nb+x+1<=a.size+b.size)) ?step1 ?Qy ⟨rfl,_,_,_,_,_,rfl,m,a1,b1,a2,b2,by (clear b2 a2 b1 a1 hx eb e ea hl h0 hb1 hk;lia)⟩) ?G6)
  case Qy=>
   rintro c st2 ⟨rfl,na,nb,out,ac,bc,rfl,m,a1,b1,a2,b2,le⟩
   (clear b2 a2 b1 hx eb e ea hl h0 hb1 hk;lia)
  case step1=>
   rintro y c st2 _ hy ⟨rfl,na,nb,out,ac,bc,rfl,m,a1,b1,a2,b2,le⟩;dsimp only;obtain ⟨p,ep,mp,rp⟩:=Td (nb - 1) (by (clear le a2 b1 a1 hy hx eb e ea hl h0 hb1 hk;lia));obtain ⟨q,eq,mq,rq⟩:=Nk (na - 1) (by (clear rp ep le b2 b1 a1 hy hx eb e ea hl h0 hb1 hk;lia));refine wpS_bind (bB ep (wpS_bind (bB eq (wpS_bind (pN C (kp.k.trans hk) mp mq ?_)))));dsimp only;have bI:b[nb - 1]=p:=Option.some.inj ((getElem?_pos b _ (by (clear rq eq rp ep le a2 b1 a1 hy hx eb e ea hl h0 hb1 hk;lia))).symm.trans ep);have eX:a[na - 1]=q:=Option.some.inj ((getElem?_pos a _ (by (clear bI rq eq rp ep le b2 b1 a1 hy hx eb e ea hl h0 hb1 hk;lia))).symm.trans eq);refine aJ (fun lt=> ?_) (fun lt=> ?_)
   ·have lt:R rk b (nb - 1)<R rk a (na - 1):=by rw [rp,rq];simpa using lt
    have m2:=m.qp a1 a2 fun j j1 j2=>by have:=sb j (nb - 1) (by (clear j2 j1 lt eX bI rq eq rp ep le b2 a2 b1 a1 hy hx eb e ea hl h0 hb1 hk;lia)) (by (clear j2 lt eX bI rq eq rp ep le b2 a2 b1 a1 hy hx eb e ea hl h0 hb1 hk;lia)) (by (clear j2 j1 lt eX bI rq eq rp ep le a2 b1 a1 hy hx eb e ea hl h0 hb1 hk;lia));(clear j2 j1 eX bI rq eq rp ep le b2 a2 b1 a1 hy hx eb e ea hl h0 hb1 hk;lia)
    rw [eX] at m2;refine wpS_bind (bB eq ?_);refine aJ (fun e=> ?_) (fun e=> ?_)
    ·exact wpS_pure ⟨rfl,.inl ⟨_,_,rfl,m2.done (.inl (by simpa using e))⟩⟩
    have e:¬na - 1=0:=fun z=>e (beq_iff_eq.mpr z);refine aJ (fun _=> ?_) (fun _=> ?_)
    ·exact wpS_pure ⟨rfl,.inr ⟨_,_,_,_,_,rfl,m2,by (clear lt eX bI rq eq rp ep le b2 a2 b1 a1 hy hx eb ea hl h0 hb1 hk;lia),b1,by (clear e lt eX bI rq eq rp ep le b2 b1 a1 hy hx eb ea hl h0 hb1 hk;lia),b2,by (clear e lt eX bI rq eq rp ep b2 a2 b1 hy hx eb ea hl h0 hb1 hk;lia)⟩⟩
    ·exact wpS_pure ⟨rfl,_,_,_,_,_,rfl,m2,by (clear lt eX bI rq eq rp ep le b2 a2 b1 a1 hy hx eb ea hl h0 hb1 hk;lia),b1,by (clear e lt eX bI rq eq rp ep le b2 b1 a1 hy hx eb ea hl h0 hb1 hk;lia),b2,by (clear e lt eX bI rq eq rp ep b2 a2 b1 hy hx eb ea hl h0 hb1 hk;lia)⟩
   ·have lt:R rk a (na - 1)<=R rk b (nb - 1):=by rw [rp,rq];simpa using lt
    have m2:=m.qm (by (clear lt eX bI rq eq rp ep le b2 a2 a1 hy hx eb e ea hl h0 hb1 hk;lia)) b2 fun j j1 j2=>by have:=sa j (na - 1) (by (clear j2 j1 lt eX bI rq eq rp ep le b2 a2 b1 a1 hy hx eb e ea hl h0 hb1 hk;lia)) (by (clear j2 lt eX bI rq eq rp ep le b2 a2 b1 a1 hy hx eb e ea hl h0 hb1 hk;lia)) (by (clear j2 j1 lt eX bI rq eq rp ep le b2 b1 a1 hy hx eb e ea hl h0 hb1 hk;lia));(clear j2 j1 eX bI rq eq rp ep le b2 a2 b1 a1 hy hx eb e ea hl h0 hb1 hk;lia)
    rw [bI] at m2;refine wpS_bind (bB ep ?_);refine aJ (fun e=> ?_) (fun e=> ?_)
    ·exact wpS_pure ⟨rfl,.inl ⟨_,_,rfl,m2.first fun i j i1 i2 j1 j2=>mid i j _ i1 (eq_of_beq e) j2⟩⟩
    have e:¬nb - 1=1:=fun z=>e (beq_iff_eq.mpr z);refine aJ (fun _=> ?_) (fun _=> ?_)
    ·exact wpS_pure ⟨rfl,.inr ⟨_,_,_,_,_,rfl,m2,a1,by (clear lt eX bI rq eq rp ep le b2 a2 a1 hy hx eb ea hl h0 hb1 hk;lia),a2,by (clear e lt eX bI rq eq rp ep le a2 b1 a1 hy hx eb ea hl h0 hb1 hk;lia),by (clear e lt eX bI rq eq rp ep b2 a2 a1 hy hx eb ea hl h0 hb1 hk;lia)⟩⟩
    ·exact wpS_pure ⟨rfl,_,_,_,_,_,rfl,m2,a1,by (clear lt eX bI rq eq rp ep le b2 a2 a1 hy hx eb ea hl h0 hb1 hk;lia),a2,by (clear e lt eX bI rq eq rp ep le a2 b1 a1 hy hx eb ea hl h0 hb1 hk;lia),by (clear e lt eX bI rq eq rp ep b2 a2 a1 hy hx eb ea hl h0 hb1 hk;lia)⟩
  case G6=>
   rintro c st2 ⟨rfl,(⟨r,cc,rfl,mr⟩|⟨na,nb,out,ac,bc,rfl,m,a1,b1,a2,b2,le⟩)⟩
   ·exact wpS_pure ⟨kp,r,_,rfl,mr⟩
   dsimp only;refine wpS_bind (wpS_lift (wpAny_rule ⟨rfl, ?_⟩))
   refine wpS_bind (wpS_mono (wpS_forRange (I:=fun y c st3=>vC st st3 /\ ∃na nb out mg ac bc,c=(none,na,nb,out,mg,ac,bc)/\MH rk a b out na nb/\1<=na/\2<=nb/\na<=a.size/\nb<=b.size/\na+nb+x+1+y<=a.size+b.size)
    (Q:=fun c st3=>vC st st3/\((∃r cc,c=(some r,cc)/\Mg rk a b r) \/ ∃na nb out mg ac bc,c=(none,na,nb,out,mg,ac,bc)/\MH rk a b out na nb/\1<=na/\2<=nb/\na<=a.size/\nb<=b.size/\na+nb+x+1<=a.size+b.size)) ?Gp ?fin2 ⟨kp,_,_,_,_,_,_,rfl,m,a1,b1,a2,b2,by (clear b2 a2 b1 a1 hx eb e ea hl h0 hb1 hk;lia)⟩) ?post2)
   case fin2=>
    rintro c st3 ⟨Ii,na,nb,out,mg,ac,bc,rfl,m,a1,b1,a2,b2,le⟩
    (clear b2 a2 b1 a1 hx eb e ea hl h0 hb1 hk;lia)
   case post2=>
    rintro c st3 ⟨Ii,(⟨r,cc,rfl,mr⟩|⟨na,nb,out,mg,ac,bc,rfl,m,a1,b1,a2,b2,le⟩)⟩
    ·exact wpS_pure ⟨Ii,r,_,rfl,mr⟩
    dsimp only;refine wpS_bind (kE fun j8 k4=>wpS_pure ⟨Ii.trans k4,_,_,_,_,rfl,m,a1,b1,a2,b2,by (clear b2 a2 b1 a1 hx eb e ea hl h0 hb1 hk;lia)⟩)
   case Gp=>
    rintro y c st3 _ hy ⟨Ii,na,nb,out,mg,ac,bc,rfl,m,a1,b1,a2,b2,le⟩;dsimp only;refine aJ (fun _=> ?_) (fun _=> ?_)
    all_goals
     refine wpS_bind (kE fun j8 k4=> ?_);have uQ:=Ii.trans k4;obtain ⟨p,ep,mp,rp⟩:=Td (nb - 1) (by (clear le a2 b1 a1 hy hx eb e ea hl h0 hb1 hk;lia));have bI:b[nb - 1]=p:=Option.some.inj ((getElem?_pos b _ (by (clear rp ep le a2 b1 a1 hy hx eb e ea hl h0 hb1 hk;lia))).symm.trans ep);refine wpS_bind (bB ep (wpS_bind (fP C (uQ.k.trans hk) mp ha (by (clear bI rp ep le b2 b1 a1 hy hx eb e ea hl h0 hb1 hk;lia)) (by (clear bI rp ep le b2 a2 b1 hy hx eb e ea hl h0 hb1 hk;lia)) (fun i j h1 h2 h3=>sa i j (by (clear h3 h2 h1 bI rp ep le b2 a2 b1 a1 hy hx eb e ea hl h0 hb1 hk;lia)) h2 (by (clear h2 h1 bI rp ep le b2 b1 a1 hy hx eb e ea hl h0 hb1 hk;lia))) fun k k1 k2 k3=> ?_)));dsimp only;simp only [Nat.zero_add] at k2 k3
     have mA:=m.nW k1 fun i i1 i2 i3 j j1 j2=>by
      have e1:=JG (k3 i i1 i2);have e2:=sb j (nb - 1) (by (clear e1 j2 j1 i3 i2 i1 k1 bI rp ep le b2 a2 b1 a1 hy hx eb e ea hl h0 hb1 hk;lia)) (by (clear e1 j2 i3 i2 i1 k1 bI rp ep le b2 a2 b1 a1 hy hx eb e ea hl h0 hb1 hk;lia)) (by (clear e1 j2 j1 i3 i2 i1 k1 bI rp ep le a2 b1 a1 hy hx eb e ea hl h0 hb1 hk;lia))
      (clear j2 j1 i3 i2 i1 k1 bI ep le b2 a2 b1 a1 hy hx eb e ea hl h0 hb1 hk;lia)
     have nxt:∀j,j<k->j<a.size->R rk a j<=R rk b (nb - 1):=fun j j1 j2=>by
      have:=Mu (k2 j j1)
      (clear j2 j1 k1 bI ep le b2 a2 b1 a1 hy hx eb e ea hl h0 hb1 hk;lia)
     apply aJ
     case' h1=>
      intro kpos;refine aJ (fun e=> ?_) (fun e=> ?_)
      ·exact wpS_pure ⟨uQ,.inl ⟨_,_,rfl,mA.done (.inl (by simpa using e))⟩⟩
      have e1:¬k=0:=fun z=>e (beq_iff_eq.mpr z);have a3:1<=k:=by (clear e kpos k1 bI rp ep le b2 a2 b1 a1 hy hx eb ea hl h0 hb1 hk;lia)
      have a4:k<=a.size:=by (clear a3 e1 e kpos bI rp ep le b2 b1 a1 hy hx eb ea hl h0 hb1 hk;lia)
      have eO:k+nb+x+1+y<=a.size+b.size:=by (clear a4 a3 e1 e kpos bI rp ep b2 a2 b1 a1 hy hx eb ea hl h0 hb1 hk;lia)
     case' h2=>
      intro kpos;have k0:k=na:=by (clear bI rp ep le b2 a2 b1 a1 hy hx eb e ea hl h0 hb1 hk;lia)
      have a3:1<=na:=a1;have a4:na<=a.size:=a2;have eO:na+nb+x+1+y<=a.size+b.size:=by (clear a4 a3 k0 kpos k1 bI rp ep b2 a2 b1 a1 hy hx eb e ea hl h0 hb1 hk;lia)
      rw [k0] at nxt
      replace mA:=m
     all_goals
      have mB:=mA.qm (by (clear eO a4 a3 kpos k1 bI rp ep le b2 a2 a1 hy hx eb e ea hl h0 hb1 hk;lia)) b2 nxt;rw [bI] at mB;refine wpS_bind (bB ep ?_);refine aJ (fun e=> ?_) (fun e=> ?_)
      ·exact wpS_pure ⟨uQ,.inl ⟨_,_,rfl,mB.first fun i j i1 i2 j1 j2=>mid i j _ i1 (eq_of_beq e) j2⟩⟩
      have e3:¬nb - 1=1:=fun z=>e (beq_iff_eq.mpr z);obtain ⟨q,eq,mq,rq⟩:=Nk _ (Nat.lt_of_lt_of_le (Nat.sub_lt a3 Nat.one_pos) a4);refine wpS_bind (bB eq (wpS_bind (fP C (uQ.k.trans hk) mq hb (by (clear rq eq e3 e eO a4 a3 kpos k1 bI rp ep le a2 b1 a1 hy hx eb ea hl h0 hb1 hk;lia)) (by (clear rq eq e3 e eO a4 a3 kpos k1 bI rp ep le b2 a2 a1 hy hx eb ea hl h0 hb1 hk;lia)) (fun i j h1 h2 h3=>sb i j (by (clear h3 h2 h1 rq eq e3 e eO a4 a3 kpos k1 bI rp ep le b2 a2 b1 a1 hy hx eb ea hl h0 hb1 hk;lia)) h2 (by (clear h2 h1 rq eq e3 e eO a4 a3 kpos k1 bI rp ep le a2 b1 a1 hy hx eb ea hl h0 hb1 hk;lia))) fun k' l1 l2 l3=> ?_)));dsimp only;simp only [Nat.zero_add] at l2 l3
      have mC:=mB.nU l1 fun i i1 i2 i3 j j1 j2=>by
       have e1:=yJ (l3 i i1 i2);have e2:=sa j _ (by (clear e1 j2 j1 i3 i2 i1 l1 rq eq e3 e eO a4 a3 kpos k1 bI rp ep le b2 a2 b1 a1 hy hx eb ea hl h0 hb1 hk;lia)) (Nat.le_sub_one_of_lt j1) (by (clear e1 j2 j1 i3 i2 i1 l1 rq eq e3 e eO a4 a3 kpos bI rp ep le b2 b1 a1 hy hx eb ea hl h0 hb1 hk;lia))
       (clear j2 j1 i3 i2 i1 l1 eq e3 e eO a4 a3 kpos k1 bI rp ep le b2 a2 b1 a1 hy hx eb ea hl h0 hb1 hk;lia)
      have nx:∀j,j<k'->j<b.size->R rk b j<=rk q.1:=fun j j1 j2=>by
       have:=Ra (l2 j j1)
       (clear j2 j1 l1 rq eq e3 e eO a4 a3 kpos k1 bI rp ep le b2 a2 b1 a1 hy hx eb ea hl h0 hb1 hk;lia)
      apply aJ
      case' h1=>
       intro kpos;refine aJ (fun e=> ?_) (fun e=> ?_)
       ·exact wpS_pure ⟨uQ,.inl ⟨_,_,rfl,mC.first fun i j i1 i2 j1 j2=>mid i j _ i1 (eq_of_beq e) j2⟩⟩
       have e4:¬k'=1:=fun z=>e (beq_iff_eq.mpr z);refine aJ (fun e=> ?_) (fun e=> ?_)
       ·exact wpS_pure ⟨uQ,.inl ⟨_,_,rfl,mC.done (.inr (by simpa using e))⟩⟩
       have e5:¬k'=0:=fun z=>e (beq_iff_eq.mpr z);have b3:2<=k':=by (clear e kpos l1 rq eq e3 eO a4 a3 k1 bI rp ep le b2 a2 b1 a1 hy hx eb ea hl h0 hb1 hk;lia)
      case' h2=>
       intro kpos;have k0:k'=nb - 1:=by (clear rq eq e3 e eO a4 a3 k1 bI rp ep le b2 a2 b1 a1 hy hx eb ea hl h0 hb1 hk;lia)
       rw [k0] at nx;have b3:2<=nb - 1:=by (clear k0 kpos l1 rq eq e eO a4 a3 k1 bI rp ep le b2 a2 a1 hy hx eb ea hl h0 hb1 hk;lia)
       replace mC:=mB
      all_goals
       have mD:=mC.qp a3 a4 (fun j j1 j2=>by rw [rq];exact nx j j1 j2);have eX:=Option.some.inj ((getElem?_pos a _ (by (clear b3 kpos l1 rq eq e3 e eO k1 bI rp ep le b2 a2 b1 a1 hy hx eb ea hl h0 hb1 hk;lia))).symm.trans eq);rw [eX] at mD;refine wpS_bind (bB eq ?_);refine aJ (fun e=> ?_) (fun e=> ?_)
       ·exact wpS_pure ⟨uQ,.inl ⟨_,_,rfl,mD.done (.inl (eq_of_beq e))⟩⟩
       have e6:¬_=0:=fun z=>e (beq_iff_eq.mpr z);refine aJ (fun _=> ?_) (fun _=> ?_)
       ·exact wpS_pure ⟨uQ,.inr ⟨_,_,_,_,_,_,rfl,mD,by (clear e eX b3 kpos l1 rq eq e3 eO a4 a3 k1 bI rp ep le b2 a2 b1 a1 hy hx eb ea hl h0 hb1 hk;lia),by (clear e6 e eX b3 kpos l1 rq eq eO a4 a3 k1 bI rp ep le b2 a2 a1 hy hx eb ea hl h0 hb1 hk;lia),by (clear e6 e eX b3 kpos l1 rq eq e3 eO a4 a3 k1 bI rp ep le b2 b1 a1 hy hx eb ea hl h0 hb1 hk;lia),by (clear e6 e eX b3 kpos rq eq e3 eO a4 a3 k1 bI rp ep le a2 b1 a1 hy hx eb ea hl h0 hb1 hk;lia),by (clear e6 e eX b3 kpos rq eq e3 eO a4 a3 k1 bI rp ep b2 a2 b1 a1 hy hx eb ea hl h0 hb1 hk;lia)⟩⟩
       ·exact wpS_pure ⟨uQ,_,_,_,_,_,_,rfl,mD,by (clear e eX b3 kpos l1 rq eq e3 eO a4 a3 k1 bI rp ep le b2 a2 b1 a1 hy hx eb ea hl h0 hb1 hk;lia),by (clear e6 e eX b3 kpos l1 rq eq eO a4 a3 k1 bI rp ep le b2 a2 a1 hy hx eb ea hl h0 hb1 hk;lia),by (clear e6 e eX b3 kpos l1 rq eq e3 eO a4 a3 k1 bI rp ep le b2 b1 a1 hy hx eb ea hl h0 hb1 hk;lia),by (clear e6 e eX b3 kpos rq eq e3 eO a4 a3 k1 bI rp ep le a2 b1 a1 hy hx eb ea hl h0 hb1 hk;lia),by (clear e6 e eX b3 kpos rq eq e3 eO a4 a3 k1 bI rp ep b2 a2 b1 hy hx eb ea hl h0 hb1 hk;lia)⟩
end
end Tim
set_option Elab.async false
set_option linter.all false
set_option maxRecDepth 100000
set_option maxHeartbeats 4000000
namespace Tim
open PySem PyProof.Rows
section
variable {prog:Program} {w:World} {A:Around} {E:Value->Shared->Prop} {s:Shared} {κ:SortKind} {a₀:Array Keyed} {rk:Value->Nat} {pd:Array (Nat×Nat×Nat)}
structure SB (κ:SortKind) (a₀:Array Keyed) (pd:Array (Nat×Nat×Nat)) (st:SortSt):Prop where
 perm:(arrOf st).Perm a₀
 kind:kindOf st=κ
 failed:failedOf st=none
 pend:pendingOf st=pd
theorem SB.size {st:SortSt} (h:SB κ a₀ pd st):(arrOf st).size=a₀.size:=h.perm.size_eq
theorem SB.setArr {st:SortSt} (h:SB κ a₀ pd st) {xs:Array Keyed} (hp:xs.Perm (arrOf st)):SB κ a₀ pd (setArr st xs):=⟨hp.trans h.perm,h.kind,h.failed,h.pend⟩
theorem SB.mem {st:SortSt} (h:SB κ a₀ pd st) {p:Keyed} (hp:p∈(arrOf st).toList):p∈a₀.toList:=(Array.perm_iff_toList_perm.mp h.perm).mem_iff.mp hp
theorem iw {st:SortSt} {i j:Nat} {Q:Option Bool->SortSt->Prop} (C:yL prog w A s κ a₀ rk) (hB:SB κ a₀ pd st) (hi:i<a₀.size) (hj:j<a₀.size) (h:Q (some (decide (R rk (arrOf st) i<R rk (arrOf st) j))) st):
 wpS (model prog w) A E s (ltAt' i j) Q st:=by
 rw [ltAt'_eq];refine wpS_bind (wpS_get ?_);have hi':i<(arrOf st).size:=by rw [hB.size];exact hi
 have hj':j<(arrOf st).size:=by rw [hB.size];exact hj
 rw [fJ hi',fJ hj'] at h;exact wpS_bind (bB (getElem?_pos (arrOf st) i hi') (wpS_bind (bB (getElem?_pos (arrOf st) j hj') (pN C hB.kind (hB.mem (by simp)) (hB.mem (by simp)) h))))
def Kb (lo:Nat) (st st':SortSt):Prop:=∀i,i<lo->(arrOf st')[i]? = (arrOf st)[i]?
theorem Kb.refl {lo:Nat} {st:SortSt}:Kb lo st st:=fun _ _=>rfl
theorem Kb.trans {lo:Nat} {a b c:SortSt} (h:Kb lo a b) (g:Kb lo b c):Kb lo a c:=fun i hi=>(g i hi).trans (h i hi)
theorem rE {xs:Array Keyed} {i j:Nat} (hj:j<=xs.size) (k:Nat):R rk (mirror xs i j ((j - i) / 2)) k=if i<=k/\k<j then R rk xs (i+j - 1 - k) else R rk xs k:=by
 have e:=getElem?_mirror_all (i:=i) hj k
 by_cases h1:i<=k/\k<j
 ·rw [if_pos h1] at e ⊢;exact dZ e
 ·rw [if_neg h1] at e ⊢;exact dZ e
theorem kY {st:SortSt} {lo i j:Nat} (hj:j<=(arrOf st).size) (hi:lo<=i):Kb lo st (setArr st (mirror (arrOf st) i j ((j - i) / 2))):=fun k hk=>by
 show (mirror (arrOf st) i j ((j - i) / 2))[k]? = _;rw [getElem?_mirror_all hj,if_neg (by (clear hj;lia))]
theorem gJ {xs:Array Keyed} {i j:Nat} (hj:j<=xs.size) (heq:∀k,i<=k->k<j->R rk xs k=R rk xs (j - 1)) (k:Nat):R rk (mirror xs i j ((j - i) / 2)) k=R rk xs k:=by
 rw [rE hj];split
 ·rw [heq _ (by (clear hj;lia)) (by (clear hj;lia)),heq k (by (clear hj;lia)) (by (clear hj;lia))]
 ·rfl
theorem yE {xs:Array Keyed} {src d:Nat} (hs:src<xs.size) (hd:d<=src) (k:Nat):
 R rk (bubble xs src d) k=if k=src - d then R rk xs src else if src - d<k/\k<=src then R rk xs (k - 1) else R rk xs k:=by
 have e:=getElem?_bubble hs d hd k
 by_cases h1:k=src - d
 ·rw [if_pos h1] at e ⊢;exact dZ e
 ·rw [if_neg h1] at e ⊢
  by_cases h2:src - d<k/\k<=src
  ·rw [if_pos h2] at e ⊢;exact dZ e
  ·rw [if_neg h2] at e ⊢;exact dZ e
def Rm (rk:Value->Nat) (xs:Array Keyed) (lo hi:Nat):Prop:=∀i j,lo<=i->i<=j->j<hi->R rk xs j<=R rk xs i
theorem wpS_countRun {st:SortSt} {lo nrem:Nat} {Q:Option Nat->SortSt->Prop} (C:yL prog w A s κ a₀ rk) (hn:lo+nrem<=a₀.size) (h1:1<=nrem) (hB:SB κ a₀ pd st)
 (h:∀m st',SB κ a₀ pd st'->Kb lo st st'->1<=m->m<=nrem->Seg rk (arrOf st') lo (lo+m)->Q (some m) st'):wpS (model prog w) A E s (countRun' lo nrem) Q st:=by
 rw [countRun'_eq]
 refine wpS_bind (wpS_mono (wpS_forRange (I:=fun x c st'=>st'=st/\c=(none,x)/\Seg rk (arrOf st) lo (lo+x))
  (Q:=fun c st'=>st'=st /\ ∃n,c=(none,n)/\1<=n/\n<=nrem/\Seg rk (arrOf st) lo (lo+n)/\(n=nrem\/R rk (arrOf st) (lo+n)<R rk (arrOf st) (lo+n - 1))) ?step ?fin ⟨rfl,rfl,fun i j a b c=>by rw [show i=j by (clear h1 hn;lia)];exact Nat.le_refl _⟩) ?post)
 case fin=>
  rintro c st' ⟨rfl,rfl,hs⟩;rw [show max 1 nrem=nrem by (clear hn;lia)] at hs ⊢;exact ⟨rfl,nrem,rfl,h1,Nat.le_refl _,hs,.inl rfl⟩
 case step=>
  rintro x c st' x1 xn ⟨rfl,rfl,hs⟩;dsimp only;refine wpS_bind (iw C hB (by (clear x1 h1;lia)) (by (clear x1 h1;lia)) ?_);dsimp only;refine aJ (fun lt=> ?_) (fun lt=> ?_)
  ·exact wpS_pure ⟨rfl,x,rfl,x1,by (clear lt x1 h1 hn;lia),hs,.inr (of_decide_eq_true lt)⟩
  ·have lt:R rk (arrOf st') (lo+x - 1)<=R rk (arrOf st') (lo+x):=Nat.le_of_not_lt fun z=>lt (decide_eq_true z)
   refine wpS_pure ⟨rfl,rfl,fun i j a b c=> ?_⟩
   by_cases hj:j<lo+x
   ·exact hs i j a b hj
   ·have:j=lo+x:=by (clear b a lt xn x1 h1 hn;lia)
    subst this
    by_cases hi:i=lo+x
    ·rw [hi];exact Nat.le_refl _
    ·exact Nat.le_trans (hs i (lo+x - 1) a (by (clear hj c a lt xn x1 h1 hn;lia)) (by (clear hi hj c b a lt xn h1 hn;lia))) lt
 case post=>
  rintro c st' ⟨rfl,n,rfl,n1,nn,hs,hor⟩;dsimp only;have hsz:(arrOf st').size=a₀.size:=hB.size;refine aJ (fun e=> ?_) (fun e=> ?_)
  ·exact wpS_pure (h n _ hB Kb.refl n1 nn hs)
  have e:¬n=nrem:=fun z=>e (beq_iff_eq.mpr z);have lt:=hor.resolve_left e;have n2:n+1<=nrem:=by (clear lt hsz hor n1 h1 hn;lia)
  apply aJ
  case' h1=>
   intro gt;refine wpS_bind (iw C hB (by (clear gt n2 lt e hsz hor nn n1;lia)) (by (clear gt n2 lt e hsz hor n1;lia)) ?_);dsimp only;refine aJ (fun rose=> ?_) (fun rose=> ?_)
   ·exact wpS_pure (h n _ hB Kb.refl n1 nn hs)
   have rose:R rk (arrOf st') (lo+n - 1)<=R rk (arrOf st') lo:=Nat.le_of_not_lt fun z=>rose (decide_eq_true z)
   have all:∀k,lo<=k->k<lo+n->R rk (arrOf st') k=R rk (arrOf st') (lo+n - 1):=fun k k1 k2=>by
    have a1:=hs lo k (Nat.le_refl _) k1 k2;have a2:=hs k (lo+n - 1) k1 (by (clear a1 k1 rose gt n2 lt e hsz hor nn n1 h1 hn;lia)) (by (clear a1 k2 k1 rose gt n2 lt e hsz hor nn h1 hn;lia))
    (clear k2 k1 gt n2 lt e hsz hor nn n1 h1 hn;lia)
   rw [reverseSlice'_eq];refine wpS_bind (wpS_modify ?_);have xH:SB κ a₀ pd (setArr st' (mirror (arrOf st') lo (lo+n) ((lo+n - lo) / 2))):=hB.setArr (mirror_perm _ _ _ _);have k1:Kb lo st' (setArr st' (mirror (arrOf st') lo (lo+n) ((lo+n - lo) / 2))):=kY (by (clear rose gt n2 lt e hor n1 h1;lia)) (Nat.le_refl _)
   have dw:Rm rk (arrOf (setArr st' (mirror (arrOf st') lo (lo+n) ((lo+n - lo) / 2)))) lo (lo+n+1):=fun i j a b c=>by
    show R rk (mirror _ _ _ _) j<=R rk (mirror _ _ _ _) i;rw [gJ (by (clear c b a rose gt n2 lt e hor n1 h1;lia)) all,gJ (by (clear c b a rose gt n2 lt e hor n1 h1;lia)) all]
    by_cases hj:j<lo+n
    ·rw [all i a (by (clear c a rose gt n2 lt e hsz hor nn n1 h1 hn;lia)),all j (by (clear hj c rose gt n2 lt e hsz hor nn n1 h1 hn;lia)) hj];exact Nat.le_refl _
    ·have:j=lo+n:=by (clear b a rose gt n2 lt e hsz hor nn n1 h1 hn;lia)
     subst this
     by_cases hi:i=lo+n
     ·rw [hi];exact Nat.le_refl _
     ·rw [all i a (by (clear hj c a rose gt n2 lt e hsz hor nn n1 h1 hn;lia))];(clear hi hj c b a rose gt n2 lt hsz nn n1 h1 hn;lia)
   generalize setArr st' (mirror (arrOf st') lo (lo+n) ((lo+n - lo) / 2))=st1 at xH k1 dw ⊢
  case' h2=>
   intro gt;have xH:=hB;have k1:Kb lo st' st':=Kb.refl
   have dw:Rm rk (arrOf st') lo (lo+n+1):=fun i j a b c=>by
    have e1:n=1:=by (clear c b a n2 lt e hsz hor nn h1 hn;lia)
    subst e1
    by_cases hi:i=j
    ·rw [hi];exact Nat.le_refl _
    ·have:i=lo+1 - 1:=by (clear gt n2 lt e hor nn n1 hsz h1 hn;lia)
     have:j=lo+1:=by (clear this gt n2 lt e hor nn n1 hsz h1 hn;lia)
     subst_vars
     (clear hi b c a gt n2 lt nn n1 hsz h1 hn;lia)
   revert xH k1 dw;generalize hst:st'=st1;intro xH k1 dw
  all_goals
   refine wpS_bind (wpS_lift (wpAny_rule ⟨rfl, ?_⟩))
   refine wpS_bind (wpS_mono (wpS_forRange (I:=fun x c st2=>∃neq,c=(none,x,neq)/\SB κ a₀ pd st2/\Kb lo st1 st2/\Rm rk (arrOf st2) lo (lo+x)/\neq+1<=x/\(∀i,lo+x - (neq+1)<=i->i<lo+x->R rk (arrOf st2) i=R rk (arrOf st2) (lo+x - 1)))
    (Q:=fun c st2=>∃x neq,c=(none,x,neq)/\n+1<=x/\x<=nrem/\SB κ a₀ pd st2/\Kb lo st1 st2/\Rm rk (arrOf st2) lo (lo+x)/\neq+1<=x/\(∀i,lo+x - (neq+1)<=i->i<lo+x->R rk (arrOf st2) i=R rk (arrOf st2) (lo+x - 1))) ?_ ?_ ⟨0,rfl,xH,Kb.refl,dw,by (clear gt n2 lt e hsz hor nn n1 h1 hn;lia),fun i a b=>by congr 1;(clear gt n2 lt e hsz hor nn n1 h1 hn;lia)⟩) ?_)
   ·rintro x c st2 x1 xn ⟨neq,rfl,hB2,k2,d2,q2,e2⟩
    dsimp only;have iM:(arrOf st2).size=a₀.size:=hB2.size;refine wpS_bind (iw C hB2 (by (clear iM q2 x1 gt n2 lt e hsz hor nn n1 h1;lia)) (by (clear iM q2 x1 gt n2 lt e hsz hor nn n1 h1;lia)) ?_);dsimp only;refine aJ (fun lt=> ?_) (fun lt=> ?_)
    ·have lt:R rk (arrOf st2) (lo+x)<R rk (arrOf st2) (lo+x - 1):=of_decide_eq_true lt
     have step1:∀xs:Array Keyed,(∀k,R rk xs k=R rk (arrOf st2) k)->Rm rk xs lo (lo+(x+1)):=by
      intro xs hk i j a b c;rw [hk,hk]
      by_cases hj:j<lo+x
      ·exact d2 i j a b hj
      ·have:j=lo+x:=by (clear b a lt iM q2 xn x1 gt n2 e hsz hor nn n1 h1 hn;lia)
       subst this
       by_cases hi:i=lo+x
       ·rw [hi];exact Nat.le_refl _
       ·exact Nat.le_trans (Nat.le_of_lt lt) (d2 i (lo+x - 1) a (by (clear hj c a lt iM q2 xn x1 gt n2 e hsz hor nn n1 h1 hn;lia)) (by (clear hi hj c b a lt iM q2 xn gt n2 e hsz hor nn n1 h1 hn;lia)))
     refine aJ (fun _=> ?_) (fun _=> ?_)
     ·rw [reverseSlice'_eq]
      refine wpS_bind (wpS_modify (wpS_pure ⟨0,rfl,hB2.setArr (mirror_perm _ _ _ _),k2.trans (kY (by (clear lt q2 x1 gt n2 e hsz hor nn n1 h1;lia)) (by (clear lt iM xn x1 gt n2 e hsz hor nn n1 h1 hn;lia))),step1 _ (gJ (by (clear lt q2 x1 gt n2 e hsz hor nn n1 h1;lia)) e2),by (clear lt iM q2 xn x1 gt n2 e hsz hor nn n1 h1 hn;lia),fun i a b=>by congr 1;(clear lt iM q2 xn x1 gt n2 e hsz hor nn n1 h1 hn;lia)⟩))
     ·exact wpS_pure ⟨0,rfl,hB2,k2,step1 _ (fun _=>rfl),by (clear lt iM q2 xn x1 gt n2 e hsz hor nn n1 h1 hn;lia),fun i a b=>by congr 1;(clear lt iM q2 xn x1 gt n2 e hsz hor nn n1 h1 hn;lia)⟩
    ·have ge:R rk (arrOf st2) (lo+x - 1)<=R rk (arrOf st2) (lo+x):=Nat.le_of_not_lt fun z=>lt (decide_eq_true z)
     refine wpS_bind (iw C hB2 (by (clear ge lt iM q2 x1 gt n2 e hsz hor nn n1 h1;lia)) (by (clear ge lt iM q2 x1 gt n2 e hsz hor nn n1 h1;lia)) ?_);dsimp only;refine aJ (fun lg=> ?_) (fun lg=> ?_)
     ·exact wpS_pure ⟨x,neq,rfl,x1,by (clear lg ge lt iM q2 x1 gt n2 e hsz hor nn n1 h1 hn;lia),hB2,k2,d2,q2,e2⟩
     ·have le:R rk (arrOf st2) (lo+x)<=R rk (arrOf st2) (lo+x - 1):=Nat.le_of_not_lt fun z=>lg (decide_eq_true z)
      have LK:R rk (arrOf st2) (lo+x)=R rk (arrOf st2) (lo+x - 1):=by (clear lg lt iM q2 xn x1 gt n2 e hsz hor nn n1 h1 hn;lia)
      refine wpS_pure ⟨neq+1,rfl,hB2,k2,fun i j a b c=> ?_,by (clear LK le lg ge lt iM xn x1 gt n2 e hsz hor nn n1 h1 hn;lia),fun i a b=> ?_⟩
      ·by_cases hj:j<lo+x
       ·exact d2 i j a b hj
       ·have:j=lo+x:=by (clear b a LK le lg ge lt iM q2 xn x1 gt n2 e hsz hor nn n1 h1 hn;lia)
        subst this
        by_cases hi:i=lo+x
        ·rw [hi];exact Nat.le_refl _
        ·rw [LK];exact d2 i (lo+x - 1) a (by (clear hj c a LK le lg ge lt iM q2 xn x1 gt n2 e hsz hor nn n1 h1 hn;lia)) (by (clear hi hj c b a LK le lg ge lt iM q2 xn gt n2 e hsz hor nn n1 h1 hn;lia))
      ·rw [show lo+(x+1) - 1=lo+x by (clear b a LK le lg ge lt iM q2 xn x1 gt n2 e hsz hor nn n1 h1 hn;lia)]
       by_cases hi:i=lo+x
       ·rw [hi]
       ·rw [LK];exact e2 i (by (clear hi b LK le lg ge lt iM q2 xn x1 gt n2 e hsz hor nn n1 h1 hn;lia)) (by (clear a LK le lg ge lt iM q2 xn x1 gt n2 e hsz hor nn n1 h1 hn;lia))
   ·rintro c st2 ⟨neq,rfl,hB2,k2,d2,q2,e2⟩
    rw [show max (n+1) nrem=nrem by (clear q2 gt n2 lt hsz hor n1 h1 hn;lia)] at d2 q2 e2 ⊢;exact ⟨nrem,neq,rfl,n2,Nat.le_refl _,hB2,k2,d2,q2,e2⟩
   ·rintro c st2 ⟨x,neq,rfl,x1,xn,hB2,k2,d2,q2,e2⟩
    dsimp only;have iM:(arrOf st2).size=a₀.size:=hB2.size;apply aJ
    case' h1=>
     intro _;rw [reverseSlice'_eq];refine wpS_bind (wpS_modify ?_);have hB3:SB κ a₀ pd (setArr st2 (mirror (arrOf st2) (lo+x - (neq+1)) (lo+x) ((lo+x - (lo+x - (neq+1))) / 2))):=hB2.setArr (mirror_perm _ _ _ _);have k3:=k2.trans (kY (st:=st2) (lo:=lo) (i:=lo+x - (neq+1)) (j:=lo+x) (by (clear q2 x1 gt n2 lt e hsz hor nn n1 h1;lia)) (by (clear iM xn x1 gt n2 lt e hsz hor nn n1 h1 hn;lia)))
     have d3:Rm rk (arrOf (setArr st2 (mirror (arrOf st2) (lo+x - (neq+1)) (lo+x) ((lo+x - (lo+x - (neq+1))) / 2)))) lo (lo+x):=fun i j a b c=>by
      show R rk (mirror _ _ _ _) j<=R rk (mirror _ _ _ _) i;rw [gJ (by (clear c b a q2 x1 gt n2 lt e hsz hor nn n1 h1;lia)) e2,gJ (by (clear c b a q2 x1 gt n2 lt e hsz hor nn n1 h1;lia)) e2];exact d2 i j a b c
     generalize setArr st2 (mirror (arrOf st2) (lo+x - (neq+1)) (lo+x) ((lo+x - (lo+x - (neq+1))) / 2))=st3 at hB3 k3 d3 ⊢
    case' h2=>
     intro _;have hB3:=hB2;have k3:=k2;have d3:=d2;revert hB3 k3 d3;generalize st2=st3;intro hB3 k3 d3
    all_goals
     have Bc:(arrOf st3).size=a₀.size:=hB3.size;rw [reverseSlice'_eq];refine wpS_bind (wpS_modify ?_);have nQ:SB κ a₀ pd (setArr st3 (mirror (arrOf st3) lo (lo+x) ((lo+x - lo) / 2))):=hB3.setArr (mirror_perm _ _ _ _);have k4:=k3.trans (kY (st:=st3) (lo:=lo) (i:=lo) (j:=lo+x) (by (clear iM q2 x1 gt n2 lt e hsz hor nn n1 h1;lia)) (by (clear Bc iM q2 xn x1 gt n2 lt e hsz hor nn n1 h1 hn;lia)))
     have s4:Seg rk (arrOf (setArr st3 (mirror (arrOf st3) lo (lo+x) ((lo+x - lo) / 2)))) lo (lo+x):=fun i j a b c=>by
      show R rk (mirror _ _ _ _) i<=R rk (mirror _ _ _ _) j;rw [rE (by (clear c b a iM q2 x1 gt n2 lt e hsz hor nn n1 h1;lia)),rE (by (clear c b a iM q2 x1 gt n2 lt e hsz hor nn n1 h1;lia)),if_pos (by (clear Bc iM q2 xn x1 gt n2 lt e hsz hor nn n1 h1 hn;lia)),if_pos (by (clear Bc iM q2 xn x1 gt n2 lt e hsz hor nn n1 h1 hn;lia))];exact d3 _ _ (by (clear b a Bc iM q2 xn x1 gt n2 lt e hsz hor nn n1 h1 hn;lia)) (by (clear c a Bc iM q2 xn x1 gt n2 lt e hsz hor nn n1 h1 hn;lia)) (by (clear c b Bc iM q2 xn gt n2 lt e hsz hor nn n1 h1 hn;lia))
     generalize setArr st3 (mirror (arrOf st3) lo (lo+x) ((lo+x - lo) / 2))=j8 at nQ k4 s4 ⊢
     refine wpS_bind (wpS_mono (wpS_forRange (I:=fun y c rH=>rH=j8/\c=(none,y)/\Seg rk (arrOf j8) lo (lo+y))
      (Q:=fun c rH=>rH=j8 /\ ∃y,c=(none,y)/\x<=y/\y<=nrem/\Seg rk (arrOf j8) lo (lo+y)) ?_ ?_ ⟨rfl,rfl,s4⟩) ?_)
     ·rintro y c rH y1 yn ⟨rfl,rfl,Nq⟩
      dsimp only;refine wpS_bind (iw C nQ (by (clear y1 Bc iM q2 xn x1 gt n2 lt e hsz hor nn n1 h1;lia)) (by (clear y1 Bc iM q2 xn x1 gt n2 lt e hsz hor nn n1 h1;lia)) ?_);dsimp only;refine aJ (fun lt=> ?_) (fun lt=> ?_)
      ·exact wpS_pure ⟨rfl,y,rfl,y1,by (clear lt y1 Bc iM q2 xn x1 gt n2 e hsz hor nn n1 h1 hn;lia),Nq⟩
      ·have lt:R rk (arrOf rH) (lo+y - 1)<=R rk (arrOf rH) (lo+y):=Nat.le_of_not_lt fun z=>lt (decide_eq_true z)
       refine wpS_pure ⟨rfl,rfl,fun i j a b c=> ?_⟩
       by_cases hj:j<lo+y
       ·exact Nq i j a b hj
       ·have:j=lo+y:=by (clear b a lt yn y1 Bc iM q2 xn x1 gt n2 e hsz hor nn n1 h1 hn;lia)
        subst this
        by_cases hi:i=lo+y
        ·rw [hi];exact Nat.le_refl _
        ·exact Nat.le_trans (Nq i (lo+y - 1) a (by (clear hj c a lt yn y1 Bc iM q2 xn x1 gt n2 e hsz hor nn n1 h1 hn;lia)) (by (clear hi hj c b a lt yn Bc iM q2 xn gt n2 e hsz hor nn n1 h1 hn;lia))) lt
     ·rintro c rH ⟨rfl,rfl,Nq⟩
      rw [show max x nrem=nrem by (clear Bc iM q2 x1 gt n2 lt e hsz hor nn n1 h1 hn;lia)] at Nq ⊢;exact ⟨rfl,nrem,rfl,xn,Nat.le_refl _,Nq⟩
     ·rintro c rH ⟨rfl,y,rfl,y1,yn,Nq⟩
      exact wpS_pure (h y _ nQ (by first |exact k1.trans k4|(subst hst;exact k4)) (by (clear yn Bc iM q2 xn gt n2 lt e hsz hor nn n1 h1 hn;lia)) yn Nq)
theorem wpS_binarySort {st:SortSt} {lo n ok:Nat} {Q:Bool->SortSt->Prop} (C:yL prog w A s κ a₀ rk) (hn:lo+n<=a₀.size) (hok:ok<=n) (hB:SB κ a₀ pd st) (hs:Seg rk (arrOf st) lo (lo+ok))
 (h:∀st',SB κ a₀ pd st'->Kb lo st st'->Seg rk (arrOf st') lo (lo+n)->Q true st'):wpS (model prog w) A E s (binarySort' lo n ok) Q st:=by
 rw [binarySort'_eq]
 refine wpS_bind (wpS_mono (wpS_forRange (I:=fun k c st'=>c=(none,())/\SB κ a₀ pd st'/\Kb lo st st'/\Seg rk (arrOf st') lo (lo+min k n))
  (Q:=fun c st'=>c=(none,())/\SB κ a₀ pd st'/\Kb lo st st'/\Seg rk (arrOf st') lo (lo+n)) ?step ?fin ?init) ?post)
 case post=>
  rintro c st' ⟨rfl,hB',k',hs'⟩;exact wpS_pure (h st' hB' k' hs')
 case init=>
  refine ⟨rfl,hB,Kb.refl,fun i j a b c=> ?_⟩
  by_cases h1:ok=0
  ·rw [show i=j by (clear hok hn;lia)];exact Nat.le_refl _
  ·exact hs i j a b (by (clear b a hok hn;lia))
 case fin=>
  rintro c st' ⟨hc,hB',k',hs'⟩;refine ⟨hc,hB',k', ?_⟩;rwa [show min (max (max ok 1) n) n=n by (clear hc hok hn;lia)] at hs'
 case step=>
  rintro k c st' hak hkn ⟨rfl,hB',k',hs'⟩;rw [show min k n=k by (clear hak hok hn;lia)] at hs';have sz:(arrOf st').size=a₀.size:=hB'.size
  refine wpS_bind (wpS_mono (wpS_forRange (I:=fun x c st''=>st''=st' /\ ∃l r,c=(none,l,r)/\l<=r/\r<=k/\r - l<=k - x /\
   (∀i,i<l->R rk (arrOf st') (lo+i)<=R rk (arrOf st') (lo+k))/\(∀i,r<=i->i<k->R rk (arrOf st') (lo+k)<R rk (arrOf st') (lo+i)))
   (Q:=fun c st''=>st''=st' /\ ∃l r,c=(none,l,r)/\l<=k /\
     (∀i,i<l->R rk (arrOf st') (lo+i)<=R rk (arrOf st') (lo+k))/\(∀i,l<=i->i<k->R rk (arrOf st') (lo+k)<R rk (arrOf st') (lo+i))) ?istep ?ifin ?iinit) ?ipost)
  case iinit=>exact ⟨rfl,0,k,rfl,by (clear sz hkn hak hok hn;lia),by (clear sz hkn hak hok hn;lia),by (clear sz hkn hak hok hn;lia),fun i hi=>by (clear sz hkn hak hok hn;lia),fun i h1 h2=>by (clear sz hkn hak hok hn;lia)⟩
  case ifin=>
   rintro c st'' ⟨rfl,l,r,rfl,hlr,hrk,hm,hlo,hhi⟩;have:l=r:=by (clear hrk sz hkn hak hok hn;lia)
   subst this;exact ⟨rfl,l,l,rfl,hrk,hlo,hhi⟩
  case istep=>
   rintro x c st'' _ hxk ⟨rfl,l,r,rfl,hlr,hrk,hm,hlo,hhi⟩;dsimp only;refine aJ (fun hge=> ?_) (fun hge=> ?_)
   ·have:l=r:=by (clear hm hrk sz hxk hkn hak hok hn;lia)
    subst this;exact wpS_pure ⟨rfl,l,l,rfl,hrk,hlo,hhi⟩
   ·refine wpS_bind (iw C hB' (by (clear hge hm hrk hlr sz hxk hak hok;lia)) (by (clear hge hm sz hxk hak hok;lia)) ?_)
    dsimp only;refine aJ (fun lt=> ?_) (fun lt=> ?_)
    ·have lt:=of_decide_eq_true lt
     refine wpS_pure ⟨rfl,l,(l+r) / 2,rfl,by (clear lt hge hm hrk sz hxk hkn hak hok hn;lia),by (clear lt hge hm sz hxk hkn hak hok hn;lia),by (clear lt hge hrk hlr sz hxk hkn hak hok hn;lia),hlo,fun i h1 h2=> ?_⟩;exact Nat.lt_of_lt_of_le lt (hs' _ _ (by (clear h2 h1 lt hge hm hrk hlr sz hxk hkn hak hok hn;lia)) (by (clear h2 lt hge hm hrk hlr sz hxk hkn hak hok hn;lia)) (by (clear h1 lt hge hm hrk hlr sz hxk hkn hak hok hn;lia)))
    ·have lt:R rk (arrOf st'') (lo+(l+r) / 2)<=R rk (arrOf st'') (lo+k):=Nat.le_of_not_lt fun z=>lt (decide_eq_true z)
     refine wpS_pure ⟨rfl,(l+r) / 2+1,r,rfl,by (clear lt hm hrk hlr sz hxk hkn hak hok hn;lia),by (clear lt hge hm hlr sz hxk hkn hak hok hn;lia),by (clear lt hge hrk hlr sz hxk hkn hak hok hn;lia),fun i h1=> ?_,hhi⟩;exact Nat.le_trans (hs' (lo+i) (lo+(l+r) / 2) (by (clear h1 lt hge hm hrk hlr sz hxk hkn hak hok hn;lia)) (by (clear lt hge hm hrk hlr sz hxk hkn hak hok hn;lia)) (by (clear h1 lt hm hlr sz hxk hkn hak hok hn;lia))) lt
  case ipost=>
   rintro c st'' ⟨rfl,l,r,rfl,hlk,hlo,hhi⟩;show wpS _ _ _ _ (do moveDown' (lo+k) (lo+l);pure (ForInStep.yield (none,()))) _ _;rw [moveDown'_eq];refine wpS_bind (wpS_modify (wpS_pure ⟨rfl,hB'.setArr (bubble_perm _ _ _),k'.trans ?_, ?_⟩))
   ·intro i hi
    show (bubble (arrOf st'') (lo+k) (lo+k - (lo+l)))[i]? = _;rw [getElem?_bubble (by (clear hi hlk hak hok;lia)) _ (by (clear hi hlk sz hkn hak hok hn;lia)),if_neg (by (clear hlk sz hkn hak hok hn;lia)),if_neg (by (clear hlk sz hkn hak hok hn;lia))]
   rw [show min (k+1) n=k+1 by (clear hlk sz hak hok hn;lia)];intro i j a b c;show R rk (bubble (arrOf st'') (lo+k) (lo+k - (lo+l))) i<=R rk (bubble (arrOf st'') (lo+k) (lo+k - (lo+l))) j;rw [yE (by (clear c b a hlk hak hok;lia)) (by (clear c b a hlk sz hkn hak hok hn;lia)),yE (by (clear c b a hlk hak hok;lia)) (by (clear c b a hlk sz hkn hak hok hn;lia)),show lo+k - (lo+k - (lo+l))=lo+l by (clear c b a sz hkn hak hok hn;lia)]
   have L1:∀i,lo<=i->i<lo+l->R rk (arrOf st'') i<=R rk (arrOf st'') (lo+k):=fun i i1 i2=>by
    have:=hlo (i - lo) (by (clear c b a hlk sz hkn hak hok hn;lia));rwa [show lo+(i - lo)=i by (clear this i2 c b a hlk sz hkn hak hok hn;lia)] at this
   have L2:∀i,lo+l<=i->i<lo+k->R rk (arrOf st'') (lo+k)<R rk (arrOf st'') i:=fun i i1 i2=>by
    have:=hhi (i - lo) (by (clear i2 c b a hlk sz hkn hak hok hn;lia)) (by (clear i1 c b a hlk sz hkn hok hn;lia));rwa [show lo+(i - lo)=i by (clear this i2 c b a hlk sz hkn hak hok hn;lia)] at this
   repeat' split
   all_goals first
    | (exfalso;(clear a hlk sz hkn hak hok hn;lia))
    | exact Nat.le_refl _
    | exact L1 _ (by (clear c b hlk sz hkn hak hok hn;lia)) (by (clear c a hlk sz hkn hak hok hn;lia))
    | exact Nat.le_of_lt (L2 _ (by (clear c b a hlk sz hkn hak hok hn;lia)) (by (clear c b a hlk sz hkn hak hok hn;lia)))
    | exact hs' _ _ (by (clear c b hlk sz hkn hak hok hn;lia)) (by (clear c a hlk sz hkn hak hok hn;lia)) (by (clear b a sz hkn hak hok hn;lia))
end
end Tim
set_option Elab.async false
set_option linter.all false
set_option maxRecDepth 100000
set_option maxHeartbeats 4000000
namespace Tim
open PySem PyProof.Rows
theorem wR (i:Nat):mergeAt' i=(do
 let s ←get
 let (some (sa,na,power),some (sb,nb,_)):=((pendingOf s)[i]?,(pendingOf s)[i+1]?)|unsupported "internal:list.sort.pending"
 set (SortSt.mk' (kindOf s) (arrOf s) (((pendingOf s).setIfInBounds i (sa,na+nb,power)).eraseIdxIfInBounds (i+1)) (gallopOf s) (failedOf s))
 let some k ←i_ false (←elem' (arrOf s) sb) (arrOf s) sa na 0|return false
 let (sa,na):=(sa+k,na - k)
 if na==0 then return true
 let some nb ←i_ true (←elem' (arrOf s) (sa+na - 1)) (arrOf s) sb nb (nb - 1)|return false
 if nb==0 then return true
 let x:=(arrOf s).extract sa sb
 let y:=(arrOf s).extract sb (sb+nb)
 let merged ←if na<=nb then qC x y else qD x y
 modify fun s=>setArr s (merged.toList.zipIdx.foldl (fun a (p,j)=>a.setIfInBounds (sa+j) p) (arrOf s))
 return (failedOf (←get)).isNone):=rfl
section
variable {prog:Program} {w:World} {A:Around} {E:Value->Shared->Prop} {s:Shared} {κ:SortKind} {a₀:Array Keyed} {rk:Value->Nat} {pd:Array (Nat×Nat×Nat)}
theorem Bp (b:Nat) (m:List Keyed):∀(n:Nat) (xs:Array Keyed) (j:Nat),b+n+m.length<=xs.size->((m.zipIdx n).foldl (fun a x=>a.setIfInBounds (b+x.2) x.1) xs)[j]? = if b+n<=j/\j<b+n+m.length then m[j - (b+n)]? else xs[j]? :=by
 induction m with
 | nil=>intro n xs j h;rw [if_neg (by simp)];rfl
 | cons p m ih=>
   intro n xs j h;rw [List.length_cons] at h;rw [List.zipIdx_cons,List.foldl_cons,ih (n+1) _ j (by rw [Array.size_setIfInBounds];lia)]
   by_cases e:j=b+n
   ·subst e
    rw [if_neg (by (clear h;lia)),if_pos (by rw [List.length_cons];(clear h;lia)),Nat.sub_self];rw [Array.getElem?_setIfInBounds_self_of_lt (by lia)];rfl
   ·by_cases c:b+(n+1)<=j/\j<b+(n+1)+m.length
    ·rw [if_pos c,if_pos (by rw [List.length_cons];(clear e h;lia)),show j - (b+n)=(j - (b+(n+1)))+1 by (clear e h;lia),List.getElem?_cons_succ]
    ·rw [if_neg c,if_neg (by rw [List.length_cons];(clear h;lia)),Array.getElem?_setIfInBounds_ne (Ne.symm e)]
theorem GR {b n:Nat} {m:List Keyed} {xs:Array Keyed} (hl:m.length=n) (hb:b+n<=xs.size) (hp:m.Perm ((xs.toList.drop b).take n)):((m.zipIdx).foldl (fun a x=>a.setIfInBounds (b+x.2) x.1) xs).Perm xs:=by
 have e:((m.zipIdx).foldl (fun a x=>a.setIfInBounds (b+x.2) x.1) xs).toList=xs.toList.take b++(m++xs.toList.drop (b+n)):=by
  have hx:xs.toList.length=xs.size:=Array.length_toList;apply List.ext_getElem?;intro j;rw [Array.getElem?_toList,Bp b m 0 xs j (by (clear hx;lia))]
  by_cases j1:j<b
  ·rw [if_neg (by (clear hx hb hl;lia)),List.getElem?_append_left (by rw [List.length_take,hx];(clear hx hl;lia)),List.getElem?_take_of_lt j1,Array.getElem?_toList]
  ·rw [List.getElem?_append_right (by rw [List.length_take,hx];(clear hx hb hl;lia)),List.length_take,hx,Nat.min_eq_left (by (clear j1 hx hl;lia))]
   by_cases j2:j<b+n
   ·rw [if_pos (by (clear hx hb;lia)),List.getElem?_append_left (by (clear hx hb;lia))];rfl
   ·rw [if_neg (by (clear j1 hx hb;lia)),List.getElem?_append_right (by (clear j1 hx hb;lia)),List.getElem?_drop,Array.getElem?_toList]
    congr 1
    (clear j1 hx hb;lia)
 refine Array.perm_iff_toList_perm.mpr ?_;rw [e]
 have sp:xs.toList=xs.toList.take b++((xs.toList.drop b).take n++xs.toList.drop (b+n)):=by
  rw [←qM,List.take_append_drop]
 refine List.Perm.trans ?_ (List.Perm.of_eq sp.symm);exact List.Perm.append_left _ (List.Perm.append_right _ hp)
theorem oO {xs:Array Keyed} {lo hi i:Nat} (h:lo+i<hi) (hh:hi<=xs.size):R rk (xs.extract lo hi) i=R rk xs (lo+i):=by
 apply dZ;rw [Array.getElem?_extract];rw [if_pos (by lia)]
theorem JR {σ:Type} {M:Model} {A:Around} {E:Value->Shared->Prop} {s:Shared} {x:σ} {Q:PUnit->σ->Prop} {st:σ} (h:Q ⟨⟩ x):wpS M A E s (set x:StateT σ Sem PUnit) Q st:=by
 unfold wpS;rw [StateT.run_set];exact wpAny_pure ⟨rfl,h⟩
theorem vI {st:SortSt} {i sa na pw sb nb W5:Nat} {Q:Bool->SortSt->Prop} (C:yL prog w A s κ a₀ rk) (hB:SB κ a₀ pd st) (h1:pd[i]? = some (sa,na,pw)) (h2:pd[i+1]? = some (sb,nb,W5)) (hsb:sb=sa+na) (na1:1<=na) (cu:1<=nb) (hz:sb+nb<=a₀.size)
 (s1:Seg rk (arrOf st) sa (sa+na)) (s2:Seg rk (arrOf st) sb (sb+nb))
 (h:∀st',SB κ a₀ ((pd.setIfInBounds i (sa,na+nb,pw)).eraseIdxIfInBounds (i+1)) st'->(∀j,j<sa\/sb+nb<=j->(arrOf st')[j]? = (arrOf st)[j]?)->Seg rk (arrOf st') sa (sb+nb)->Q true st'):
 wpS (model prog w) A E s (mergeAt' i) Q st:=by
 rw [wR];refine wpS_bind (wpS_get ?_);rw [hB.pend,h1,h2];dsimp only;have sz:(arrOf st).size=a₀.size:=hB.size;have mQ:∀p∈(arrOf st).toList,p∈a₀.toList:=fun p hp=>hB.mem hp;have Nk:∀i,i<a₀.size -> ∃p,(arrOf st)[i]? = some p/\p∈a₀.toList/\R rk (arrOf st) i=rk p.1:=fun i hi=>⟨(arrOf st)[i]'(by (clear hz cu na1 hsb h2 h1;lia)),getElem?_pos (arrOf st) i (by (clear hz cu na1 hsb h2 h1;lia)),hB.mem (by simp),fJ (by (clear hz cu na1 hsb h2 h1;lia))⟩;refine wpS_bind (JR ?_);have xH:SB κ a₀ ((pd.setIfInBounds i (sa,na+nb,pw)).eraseIdxIfInBounds (i+1)) (SortSt.mk' (kindOf st) (arrOf st) ((pd.setIfInBounds i (sa,na+nb,pw)).eraseIdxIfInBounds (i+1)) (gallopOf st) (failedOf st)):=⟨hB.perm,hB.kind,hB.failed,rfl⟩;have bV:arrOf (SortSt.mk' (kindOf st) (arrOf st) ((pd.setIfInBounds i (sa,na+nb,pw)).eraseIdxIfInBounds (i+1)) (gallopOf st) (failedOf st))=arrOf st:=rfl;generalize (pd.setIfInBounds i (sa,na+nb,pw)).eraseIdxIfInBounds (i+1)=pd1 at xH bV h ⊢;generalize SortSt.mk' (kindOf st) (arrOf st) pd1 (gallopOf st) (failedOf st)=st1 at xH bV ⊢;obtain ⟨p,ep,mp,rp⟩:=Nk sb (by (clear bV sz na1 hsb h2 h1;lia));refine wpS_bind (bB ep (wpS_bind (fP C xH.kind mp mQ (by (clear rp ep bV cu na1 h2 h1;lia)) (by (clear rp ep bV sz hz cu hsb h2 h1;lia)) s1 fun k k1 k2 k3=> ?_)));dsimp only;refine aJ (fun e=> ?_) (fun e=> ?_)
 ·have e:na - k=0:=eq_of_beq e
  refine wpS_pure (h st1 xH (fun j _=>by rw [bV]) fun i j a b c=> ?_);rw [bV]
  by_cases hj:j<sb
  ·exact s1 i j a b (by (clear c b a e k1 rp ep bV sz hz cu na1 h2 h1;lia))
  ·by_cases hi:i<sb
   ·have e1:=Mu (k2 (i - sa) (by (clear hj c b a k1 rp ep bV sz hz cu h2 h1;lia)))
    rw [show sa+(i - sa)=i by (clear e1 hi hj c b e k1 rp ep bV sz hz cu na1 hsb h2 h1;lia)] at e1;have e2:=s2 sb j (Nat.le_refl _) (by (clear e1 hi c b a e k1 rp ep bV sz hz cu na1 hsb h2 h1;lia)) c
    (clear hi hj c b a e k1 ep bV sz hz cu na1 hsb h2 h1;lia)
   ·exact s2 i j (by (clear hj c b a e k1 rp ep bV sz hz cu na1 hsb h2 h1;lia)) b c
 have ek:k<na:=by have:¬na - k=0:=fun z=>e (beq_iff_eq.mpr z);(clear e k1 rp ep bV sz hz cu na1 hsb h2 h1;lia)
 obtain ⟨q,eq,mq,rq⟩:=Nk (sa+k+(na - k) - 1) (by (clear ek e rp ep bV sz cu h2 h1;lia));refine wpS_bind (bB eq (wpS_bind (fP C xH.kind mq mQ (by (clear rq eq ek e k1 rp ep bV cu na1 hsb h2 h1;lia)) (by (clear rq eq ek e k1 rp ep bV sz hz na1 hsb h2 h1;lia)) s2 fun n2 l1 l2 l3=> ?_)));dsimp only;have aL:sa+k+(na - k) - 1=sb - 1:=by (clear l1 rq eq ek e rp ep bV sz hz cu na1 h2 h1;lia)
 rw [aL] at rq;refine aJ (fun e=> ?_) (fun e=> ?_)
 ·have e:n2=0:=eq_of_beq e
  refine wpS_pure (h st1 xH (fun j _=>by rw [bV]) fun i j a b c=> ?_);rw [bV]
  by_cases hj:j<sb
  ·exact s1 i j a b (by (clear c b a e aL l1 rq eq ek k1 rp ep bV sz hz cu na1 h2 h1;lia))
  ·by_cases hi:i<sb
   ·have e1:=yJ (l3 (j - sb) (by (clear hi hj c b a aL l1 rq eq ek k1 rp ep bV sz hz cu na1 hsb h2 h1;lia)) (by (clear hi hj b a e aL l1 rq eq ek k1 rp ep bV sz hz na1 hsb h2 h1;lia)))
    rw [show sb+(j - sb)=j by (clear e1 hi c b a e aL l1 rq eq ek k1 rp ep bV sz hz cu na1 hsb h2 h1;lia)] at e1;have e2:=s1 i (sb - 1) a (by (clear e1 hj c b a e aL l1 rq eq ek k1 rp ep bV sz hz cu na1 hsb h2 h1;lia)) (by (clear e1 hi hj c b a e aL l1 rq eq ek k1 rp ep bV sz hz cu h2 h1;lia))
    (clear hi hj c b a e aL l1 eq ek k1 rp ep bV sz hz cu na1 hsb h2 h1;lia)
   ·exact s2 i j (by (clear hj c b a e aL l1 rq eq ek k1 rp ep bV sz hz cu na1 hsb h2 h1;lia)) b c
 have e2:¬n2=0:=fun z=>e (beq_iff_eq.mpr z);have dI:((arrOf st).extract (sa+k) sb).size=sb - (sa+k):=by rw [Array.size_extract,Nat.min_eq_left (by (clear e2 e aL l1 rq eq ek k1 rp ep bV cu na1 hsb h2 h1;lia))]
 have dJ:((arrOf st).extract sb (sb+n2)).size=n2:=by rw [Array.size_extract,Nat.min_eq_left (by (clear dI e2 e aL rq eq ek k1 rp ep bV cu na1 hsb h2 h1;lia))];(clear dI e2 e aL l1 rq eq ek k1 rp ep bV sz hz cu na1 hsb h2 h1;lia)
 have xin:∀p∈((arrOf st).extract (sa+k) sb).toList,p∈a₀.toList:=fun p hp=>mQ p (by rw [bT] at hp;exact List.mem_of_mem_drop (List.mem_of_mem_take hp));have yin:∀p∈((arrOf st).extract sb (sb+n2)).toList,p∈a₀.toList:=fun p hp=>mQ p (by rw [bT] at hp;exact List.mem_of_mem_drop (List.mem_of_mem_take hp))
 have sx:Seg rk ((arrOf st).extract (sa+k) sb) 0 ((arrOf st).extract (sa+k) sb).size:=fun i j a b c=>by
  rw [dI] at c;rw [oO (by (clear a dJ dI e2 e aL l1 rq eq ek k1 rp ep bV sz hz cu na1 hsb h2 h1;lia)) (by (clear c b a dJ dI e2 e aL l1 rq eq ek k1 rp ep bV cu na1 hsb h2 h1;lia)),oO (by (clear b a dJ dI e2 e aL l1 rq eq ek k1 rp ep bV sz hz cu na1 hsb h2 h1;lia)) (by (clear c b a dJ dI e2 e aL l1 rq eq ek k1 rp ep bV cu na1 hsb h2 h1;lia))];exact s1 _ _ (by (clear c b a dJ dI e2 e aL l1 rq eq ek k1 rp ep bV sz hz cu na1 hsb h2 h1;lia)) (by (clear c a dJ dI e2 e aL l1 rq eq ek k1 rp ep bV sz hz cu na1 hsb h2 h1;lia)) (by (clear b a dJ dI e2 e aL l1 rq eq ek k1 rp ep bV sz hz cu na1 h2 h1;lia))
 have sy:Seg rk ((arrOf st).extract sb (sb+n2)) 0 ((arrOf st).extract sb (sb+n2)).size:=fun i j a b c=>by
  rw [dJ] at c;rw [oO (by (clear a dJ dI e2 e aL l1 rq eq ek k1 rp ep bV sz hz cu na1 hsb h2 h1;lia)) (by (clear c b a dJ dI e2 e aL rq eq ek k1 rp ep bV cu na1 hsb h2 h1;lia)),oO (by (clear b a dJ dI e2 e aL l1 rq eq ek k1 rp ep bV sz hz cu na1 hsb h2 h1;lia)) (by (clear c b a dJ dI e2 e aL rq eq ek k1 rp ep bV cu na1 hsb h2 h1;lia))];exact s2 _ _ (by (clear c b a dJ dI e2 e aL l1 rq eq ek k1 rp ep bV sz hz cu na1 hsb h2 h1;lia)) (by (clear c a dJ dI e2 e aL l1 rq eq ek k1 rp ep bV sz hz cu na1 hsb h2 h1;lia)) (by (clear b a dJ dI e2 e aL rq eq ek k1 rp ep bV sz hz cu na1 hsb h2 h1;lia))
 have h0:R rk ((arrOf st).extract sb (sb+n2)) 0<=R rk ((arrOf st).extract (sa+k) sb) 0:=by
  rw [oO (by (clear dJ dI e aL l1 rq eq ek k1 rp ep bV sz hz cu na1 hsb h2 h1;lia)) (by (clear dJ dI e2 e aL rq eq ek k1 rp ep bV cu na1 hsb h2 h1;lia)),oO (by (clear dJ dI e2 e aL l1 rq eq k1 rp ep bV sz hz cu na1 h2 h1;lia)) (by (clear dJ dI e2 e aL l1 rq eq ek k1 rp ep bV cu na1 hsb h2 h1;lia)),Nat.add_zero,Nat.add_zero,rp];have:=JG (k3 k (Nat.le_refl _) ek)
  (clear dJ dI e2 e aL l1 rq eq ek k1 rp ep bV sz hz cu na1 hsb h2 h1;lia)
 have hl:R rk ((arrOf st).extract sb (sb+n2)) (((arrOf st).extract sb (sb+n2)).size - 1)<=R rk ((arrOf st).extract (sa+k) sb) (((arrOf st).extract (sa+k) sb).size - 1):=by
  rw [dI,dJ,oO (by (clear h0 dJ dI e aL l1 rq eq ek k1 rp ep bV sz hz cu na1 hsb h2 h1;lia)) (by (clear h0 dJ dI e2 e aL rq eq ek k1 rp ep bV cu na1 hsb h2 h1;lia)),oO (by (clear h0 dJ dI e2 e aL l1 rq eq k1 rp ep bV sz hz cu na1 h2 h1;lia)) (by (clear h0 dJ dI e2 e aL l1 rq eq ek k1 rp ep bV cu na1 hsb h2 h1;lia)),show sa+k+(sb - (sa+k) - 1)=sb - 1 by (clear h0 dJ dI e2 e aL l1 rq eq k1 rp ep bV sz hz cu na1 h2 h1;lia),rq];have:=Ra (l2 (n2 - 1) (by (clear h0 dJ dI e aL l1 rq eq ek k1 rp ep bV sz hz cu na1 hsb h2 h1;lia)))
  (clear h0 dJ dI e2 e aL l1 rq eq ek k1 rp ep bV sz hz cu na1 hsb h2 h1;lia)
 have fin:∀r st2,vC st1 st2->Mg rk ((arrOf st).extract (sa+k) sb) ((arrOf st).extract sb (sb+n2)) r->wpS (model prog w) A E s (do
  modify fun s=>setArr s (List.foldl (fun a x=>a.setIfInBounds (sa+k+x.snd) x.fst) (arrOf s) r.toList.zipIdx)
  let __do_lift ←get
  pure (failedOf __do_lift).isNone) Q st2:=by
  intro r st2 k2' mg;have ji:arrOf st2=arrOf st:=k2'.a.trans bV;refine wpS_bind (wpS_modify ?_);refine wpS_bind (wpS_get ?_);have hf:failedOf (setArr st2 (List.foldl (fun a x=>a.setIfInBounds (sa+k+x.snd) x.fst) (arrOf st2) r.toList.zipIdx))=none:=k2'.f.trans xH.failed;rw [hf]
  have rl:r.toList.length=sb - (sa+k)+n2:=by
   rw [mg.perm.length_eq,List.length_append,Array.length_toList,Array.length_toList,dI,dJ]
  have rp':r.toList.Perm (((arrOf st).toList.drop (sa+k)).take (sb - (sa+k)+n2)):=by
   refine mg.perm.trans (List.Perm.of_eq ?_);rw [bT,bT,List.take_add,List.drop_drop,show sb+n2 - sb=n2 by (clear rl hf ji hl h0 dJ dI e2 e aL l1 rq eq ek k1 rp ep bV sz hz cu na1 hsb h2 h1;lia),show sa+k+(sb - (sa+k))=sb by (clear rl hf ji hl h0 dJ dI e2 e aL l1 rq eq ek rp ep bV sz hz cu na1 h2 h1;lia)]
  have get:∀j,(arrOf (setArr st2 (List.foldl (fun a x=>a.setIfInBounds (sa+k+x.snd) x.fst) (arrOf st2) r.toList.zipIdx)))[j]? = if sa+k<=j/\j<sb+n2 then r.toList[j - (sa+k)]? else (arrOf st)[j]? :=fun j=>by
   show (List.foldl (fun a x=>a.setIfInBounds (sa+k+x.snd) x.fst) (arrOf st2) r.toList.zipIdx)[j]? = _;rw [ji,Bp (sa+k) r.toList 0 (arrOf st) j (by (clear hf ji hl h0 dJ dI e2 e aL rq eq ek rp ep bV cu na1 h2 h1;lia)),rl]
   by_cases c:sa+k<=j/\j<sb+n2
   ·rw [if_pos c,if_pos (by (clear rl hf ji hl h0 dJ dI e2 e aL l1 rq eq ek k1 rp ep bV sz hz cu na1 hsb h2 h1;lia))];rfl
   ·rw [if_neg c,if_neg (by (clear rl hf ji hl h0 dJ dI e2 e aL l1 rq eq ek rp ep bV sz hz cu na1 h2 h1;lia))]
  have hB2:SB κ a₀ pd1 (setArr st2 (List.foldl (fun a x=>a.setIfInBounds (sa+k+x.snd) x.fst) (arrOf st2) r.toList.zipIdx)):=by
   refine ⟨?_,k2'.k.trans xH.kind,hf,k2'.p.trans xH.pend⟩;show (List.foldl (fun a x=>a.setIfInBounds (sa+k+x.snd) x.fst) (arrOf st2) r.toList.zipIdx).Perm a₀;rw [ji];exact (GR rl (by (clear rl hf ji hl h0 dJ dI e2 e aL rq eq ek rp ep bV cu na1 h2 h1;lia)) rp').trans hB.perm
  generalize setArr st2 (List.foldl (fun a x=>a.setIfInBounds (sa+k+x.snd) x.fst) (arrOf st2) r.toList.zipIdx)=st3 at get hB2 ⊢;have out:∀j,¬(sa+k<=j/\j<sb+n2)->R rk (arrOf st3) j=R rk (arrOf st) j:=fun j hj=>dZ (by rw [get j,if_neg hj])
  have mid:∀j,sa+k<=j->j<sb+n2 -> ∃j0,sa+k<=j0/\j0<sb+n2/\R rk (arrOf st3) j=R rk (arrOf st) j0:=fun j j1 j2=>by
   have e:=get j;rw [if_pos ⟨j1,j2⟩,List.getElem?_eq_getElem (by (clear e j1 hf ji hl h0 dJ dI e2 aL l1 rq eq k1 rp ep bV sz hz cu na1 h2 h1;lia))] at e;have hm:r.toList[j - (sa+k)]'(by (clear e j1 hf ji hl h0 dJ dI e2 aL l1 rq eq k1 rp ep bV sz hz cu na1 h2 h1;lia))∈((arrOf st).toList.drop (sa+k)).take (sb - (sa+k)+n2):=rp'.mem_iff.mp (List.getElem_mem _);obtain ⟨j0,a1,a2,a3⟩:=gB (rk:=rk) hm;exact ⟨sa+k+j0,by (clear a3 a2 a1 e j1 hf ji hl h0 dJ dI e2 aL l1 rq eq k1 rp ep bV sz hz cu na1 h2 h1;lia),by (clear a3 a2 e j1 hf ji hl h0 dJ dI e2 aL l1 rq eq k1 rp ep bV sz hz cu na1 h2 h1;lia),by rw [rD e,a3]⟩
  refine wpS_pure (h st3 hB2 (fun j hj=>by rw [get j,if_neg (by (clear rl hf ji hl h0 dJ dI e2 e aL rq eq ek k1 rp ep bV sz hz cu na1 hsb h2 h1;lia))]) fun i j a b c=> ?_)
  by_cases i1:i<sa+k
  ·have ei:=Mu (k2 (i - sa) (by (clear c b rl hf ji hl h0 dJ dI e2 e aL l1 rq eq ek k1 rp ep bV sz hz cu na1 hsb h2 h1;lia)))
   rw [show sa+(i - sa)=i by (clear ei i1 c b rl hf ji hl h0 dJ dI e2 e aL l1 rq eq ek k1 rp ep bV sz hz cu na1 hsb h2 h1;lia),←rp] at ei;rw [out i (by (clear ei c b a rl hf ji hl h0 dJ dI e2 e aL l1 rq eq ek k1 rp ep bV sz hz cu na1 hsb h2 h1;lia))]
   have key:∀j0,sa+k<=j0->j0<sb+nb->R rk (arrOf st) i<=R rk (arrOf st) j0:=fun j0 b1 b2=>by
    by_cases c:j0<sb
    ·exact s1 i j0 a (by (clear c b2 ei b a rl hf ji hl h0 dJ dI e2 e aL l1 rq eq ek k1 rp ep bV sz hz cu na1 hsb h2 h1;lia)) (by (clear b2 b1 ei i1 b a rl hf ji hl h0 dJ dI e2 e aL l1 rq eq ek k1 rp ep bV sz hz cu na1 h2 h1;lia))
    ·have:=s2 sb j0 (Nat.le_refl _) (by (clear b2 b1 ei i1 b a rl hf ji hl h0 dJ dI e2 e aL l1 rq eq ek k1 rp ep bV sz hz cu na1 hsb h2 h1;lia)) b2;(clear c b2 b1 i1 b a rl hf ji hl h0 dJ dI e2 e aL l1 rq eq ek k1 rp ep bV sz hz cu na1 hsb h2 h1;lia)
   by_cases j1:sa+k<=j/\j<sb+n2
   ·obtain ⟨j0,b1,b2,b3⟩:=mid j j1.1 j1.2
    rw [b3];exact key j0 b1 (by (clear b3 b1 j1 ei i1 c b a rl hf ji hl h0 dJ dI e2 e aL rq eq ek k1 rp ep bV sz hz cu na1 hsb h2 h1;lia))
   ·rw [out j j1]
    by_cases j2:j<sa+k
    ·exact s1 i j a b (by (clear j1 ei i1 c b a rl hf ji hl h0 dJ dI e2 e aL l1 rq eq ek rp ep bV sz hz cu na1 hsb h2 h1;lia))
    ·exact key j (by (clear j1 ei i1 c b a rl hf ji hl h0 dJ dI e2 e aL l1 rq eq ek k1 rp ep bV sz hz cu na1 hsb h2 h1;lia)) c
  ·by_cases i2:i<sb+n2
   ·by_cases j2:j<sb+n2
    ·have e1:=get i
     have e2:=get j;rw [if_pos ⟨by (clear e2 e1 j2 i2 c b a rl hf ji hl h0 dJ dI e aL l1 rq eq ek k1 rp ep bV sz hz cu na1 hsb h2 h1;lia),i2⟩,List.getElem?_eq_getElem (by (clear e2 e1 j2 i1 c b a hf ji hl h0 dJ dI e aL l1 rq eq ek k1 rp ep bV sz hz cu na1 hsb h2 h1;lia))] at e1;rw [if_pos ⟨by (clear e2 e1 j2 i2 c a rl hf ji hl h0 dJ dI e aL l1 rq eq ek k1 rp ep bV sz hz cu na1 hsb h2 h1;lia),j2⟩,List.getElem?_eq_getElem (by (clear e2 e1 i2 i1 c b a hf ji hl h0 dJ dI e aL l1 rq eq ek k1 rp ep bV sz hz cu na1 hsb h2 h1;lia))] at e2;rw [rD e1,rD e2]
     by_cases eij:i=j
     ·subst eij;exact Nat.le_refl _
     ·exact List.pairwise_iff_getElem.mp mg.srt _ _ _ _ (by (clear e2 e1 j2 i2 c a rl hf ji hl h0 dJ dI e aL l1 rq eq ek k1 rp ep bV sz hz cu na1 hsb h2 h1;lia))
    ·obtain ⟨i0,b1,b2,b3⟩:=mid i (by (clear j2 i2 c b a rl hf ji hl h0 dJ dI e2 e aL l1 rq eq ek k1 rp ep bV sz hz cu na1 hsb h2 h1;lia)) i2
     rw [b3,out j (by (clear b3 b2 b1 i2 i1 c b a rl hf ji hl h0 dJ dI e2 e aL l1 rq eq ek k1 rp ep bV sz hz cu na1 hsb h2 h1;lia))]
     by_cases c':i0<sb
     ·have e1:=s1 i0 (sb - 1) (by (clear c' b3 b2 j2 i2 i1 c b a rl hf ji hl h0 dJ dI e2 e aL l1 rq eq ek k1 rp ep bV sz hz cu na1 hsb h2 h1;lia)) (by (clear b3 b2 b1 j2 i2 i1 c b a rl hf ji hl h0 dJ dI e2 e aL l1 rq eq ek k1 rp ep bV sz hz cu na1 hsb h2 h1;lia)) (by (clear c' b3 b2 b1 j2 i2 i1 c b a rl hf ji hl h0 dJ dI e2 e aL l1 rq eq ek k1 rp ep bV sz hz cu h2 h1;lia))
      have e2:=yJ (l3 (j - sb) (by (clear e1 c' b3 b2 b1 i2 i1 c b a rl hf ji hl h0 dJ dI e2 e aL l1 rq eq ek k1 rp ep bV sz hz cu na1 hsb h2 h1;lia)) (by (clear e1 c' b3 b2 b1 j2 i2 i1 b a rl hf ji hl h0 dJ dI e2 e aL l1 rq eq ek k1 rp ep bV sz hz na1 hsb h2 h1;lia)));rw [show sb+(j - sb)=j by (clear e2 e1 c' b3 b2 b1 i2 i1 c b a rl hf ji hl h0 dJ dI e aL l1 rq eq ek k1 rp ep bV sz hz cu na1 hsb h2 h1;lia),←rq] at e2
      (clear c' b3 b2 b1 j2 i2 i1 c b a rl hf ji hl h0 dJ dI e aL l1 rq eq ek k1 rp ep bV sz hz cu na1 hsb h2 h1;lia)
     ·exact s2 i0 j (by (clear b3 b2 b1 j2 i2 i1 c b a rl hf ji hl h0 dJ dI e2 e aL l1 rq eq ek k1 rp ep bV sz hz cu na1 hsb h2 h1;lia)) (by (clear c' b3 b1 i2 i1 c b a rl hf ji hl h0 dJ dI e2 e aL l1 rq eq ek k1 rp ep bV sz hz cu na1 hsb h2 h1;lia)) c
   ·rw [out i (by (clear i1 c b a rl hf ji hl h0 dJ dI e2 e aL l1 rq eq ek k1 rp ep bV sz hz cu na1 hsb h2 h1;lia)),out j (by (clear i1 c a rl hf ji hl h0 dJ dI e2 e aL l1 rq eq ek k1 rp ep bV sz hz cu na1 hsb h2 h1;lia))]
    exact s2 i j (by (clear i1 c b a rl hf ji hl h0 dJ dI e2 e aL l1 rq eq ek k1 rp ep bV sz hz cu na1 hsb h2 h1;lia)) b c
 refine aJ (fun _=> ?_) (fun _=> ?_)
 ·exact wpS_bind (vG C xH.kind xin yin (by (clear hl h0 dJ e2 e aL l1 rq eq k1 rp ep bV sz hz cu na1 h2 h1;lia)) (by (clear hl h0 dI e2 e aL l1 rq eq k1 rp ep bV sz hz cu na1 hsb h2 h1;lia)) sx sy h0 hl fin)
 ·exact wpS_bind (vH C xH.kind xin yin (by (clear hl h0 dJ e2 e aL l1 rq eq ek k1 rp ep bV sz hz cu na1 h2 h1;lia)) (by (clear hl h0 dI e aL l1 rq eq ek k1 rp ep bV sz hz cu na1 hsb h2 h1;lia)) sx sy h0 hl fin)
end
end Tim
set_option Elab.async false
set_option linter.all false
set_option maxRecDepth 100000
set_option maxHeartbeats 4000000
namespace Tim
open PySem PyProof.Rows
section
variable {prog:Program} {w:World} {A:Around} {E:Value->Shared->Prop} {s:Shared} {κ:SortKind} {a₀:Array Keyed} {rk:Value->Nat} {pd:Array (Nat×Nat×Nat)}
def Runs (rk:Value->Nat) (xs:Array Keyed):List (Nat×Nat×Nat)->Nat->Nat->Prop
 | [],a,e=>a=e
 | (s,n,_)::r,a,e=>s=a/\1<=n/\Seg rk xs a (a+n)/\Runs rk xs r (a+n) e
theorem Runs.le {xs:Array Keyed}:∀{l:List (Nat×Nat×Nat)} {a e:Nat},Runs rk xs l a e->a+l.length<=e
 | [],a,e,h=>Nat.le_of_eq h
 | (s,n,_)::r,a,e,h=>by
   have:=Runs.le h.2.2.2;have:=h.2.1;rw [List.length_cons];lia
theorem Runs.app {xs:Array Keyed} {r:List (Nat×Nat×Nat)}:∀{l:List (Nat×Nat×Nat)} {a e:Nat},Runs rk xs (l++r) a e ↔ ∃m,Runs rk xs l a m/\Runs rk xs r m e
 | [],a,e=>⟨fun h=>⟨a,rfl,h⟩,fun ⟨m,h1,h2⟩=>by
     have h1:a=m:=h1;subst h1;exact h2⟩
 | (s,n,_)::l,a,e=>by
   constructor
   ·rintro ⟨h1,h2,h3,h4⟩
    obtain ⟨m,m1,m2⟩:=Runs.app.mp h4;exact ⟨m,⟨h1,h2,h3,m1⟩,m2⟩
   ·rintro ⟨m,⟨h1,h2,h3,h4⟩,m2⟩
    exact ⟨h1,h2,h3,Runs.app.mpr ⟨m,h4,m2⟩⟩
theorem Runs.congr {xs ys:Array Keyed}:∀{l:List (Nat×Nat×Nat)} {a e:Nat},Runs rk xs l a e->(∀j,a<=j->j<e->R rk xs j=R rk ys j)->Runs rk ys l a e
 | [],a,e,h,_=>h
 | (s,n,_)::r,a,e,⟨h1,h2,h3,h4⟩,g=>by
   have le:=Runs.le h4;refine ⟨h1,h2,fun i j x y z=> ?_,Runs.congr h4 fun j x y=>g j (by (clear y le h2 h1;lia)) y⟩;rw [←g i x (by (clear x h2 h1;lia)),←g j (by (clear z le h2 h1;lia)) (by (clear y x h2 h1;lia))];exact h3 i j x y z
theorem Oj {α:Type} {l:List α} {i:Nat} (h:i+1<l.length):∃pre p q post,l=pre++p::q::post/\pre.length=i:=by
 refine ⟨l.take i,l[i],l[i+1],l.drop (i+2), ?_,by rw [List.length_take];lia⟩;rw [←List.drop_eq_getElem_cons,←List.drop_eq_getElem_cons,List.take_append_drop]
theorem lD {st:SortSt} {i e:Nat} {Q:Bool->SortSt->Prop} (C:yL prog w A s κ a₀ rk) (hB:SB κ a₀ pd st) (hr:Runs rk (arrOf st) pd.toList 0 e) (he:e<=a₀.size) (hi:i+1<pd.size)
 (h:∀Xn st',SB κ a₀ Xn st'->Runs rk (arrOf st') Xn.toList 0 e->Xn.size+1=pd.size->(∀j,e<=j->(arrOf st')[j]? = (arrOf st)[j]?)->Q true st'):wpS (model prog w) A E s (mergeAt' i) Q st:=by
 obtain ⟨pre,⟨sa,na,pw⟩,⟨sb,nb,W5⟩,post,el,pl⟩:=Oj (l:=pd.toList) (i:=i) (by rw [Array.length_toList];exact hi);rw [el] at hr;obtain ⟨m,r1,r2⟩:=Runs.app.mp hr;obtain ⟨e1,n1,s1,e2,n2,s2,r3⟩:=r2;subst e1;have eO:=Runs.le r3;have h1:pd[i]? = some (sa,na,pw):=by rw [←Array.getElem?_toList,el,List.getElem?_append_right (by (clear eO e2 n2 n1 el hi he;lia)),pl,Nat.sub_self];rfl
 have h2:pd[i+1]? = some (sb,nb,W5):=by rw [←Array.getElem?_toList,el,List.getElem?_append_right (by (clear h1 eO e2 n2 n1 el hi he;lia)),pl,show i+1 - i=1 by (clear h1 eO e2 n2 n1 pl el hi he;lia)];rfl
 refine vI C hB h1 h2 e2 n1 n2 (by (clear h2 h1 n2 n1 pl el hi;lia)) s1 (by rw [e2];exact s2) fun st' hB' out seg=> ?_
 have ep:((pd.setIfInBounds i (sa,na+nb,pw)).eraseIdxIfInBounds (i+1)).toList=pre++(sa,na+nb,pw)::post:=by
  rw [Array.toList_eraseIdxIfInBounds,Array.toList_setIfInBounds,el,List.set_append_right _ _ (by (clear h2 h1 eO e2 n2 n1 el hi he;lia)),pl,Nat.sub_self];rw [List.eraseIdx_append_of_length_le (by (clear h2 h1 eO e2 n2 n1 el hi he;lia)),pl,show i+1 - i=1 by (clear h2 h1 eO e2 n2 n1 pl el hi he;lia)];rfl
 refine h _ st' hB' ?_ ?_ fun j hj=>out j (.inr (by (clear ep h2 h1 n2 n1 pl el hi he;lia)))
 ·rw [ep]
  refine Runs.app.mpr ⟨sa,r1.congr fun j _ j2=>dZ (out j (.inl j2)).symm,rfl,by (clear ep h2 h1 eO e2 n2 pl el hi he;lia), ?_, ?_⟩
  ·rw [show sa+(na+nb)=sb+nb by (clear ep h2 h1 eO n2 n1 pl el hi he;lia)];exact seg
  ·rw [←Nat.add_assoc]
   exact r3.congr fun j j1 j2=>dZ (out j (.inr (by (clear j2 ep h2 h1 eO n2 n1 pl el hi he;lia)))).symm
 ·rw [←Array.length_toList,ep,←Array.length_toList,el]
  simp only [List.length_append,List.length_cons]
  (clear ep h2 h1 eO e2 n2 n1 pl el hi he;lia)
theorem Runs.modify {xs:Array Keyed} {f:Nat×Nat×Nat->Nat×Nat×Nat} (hf:∀x,(f x).1=x.1/\(f x).2.1=x.2.1) (l:List (Nat×Nat×Nat)):∀(i a e:Nat),Runs rk xs l a e->Runs rk xs (l.modify i f) a e:=by
 induction l with
 | nil=>intro i a e h;cases i<;>exact h
 | cons t r ih=>
   obtain ⟨s,n,p⟩:=t;intro i a e h;obtain ⟨h1,h2,h3,h4⟩:=h;cases i with
   | zero=>
     rw [List.modify_zero_cons];have e2:=hf (s,n,p);rcases hfp:f (s,n,p) with ⟨s',n',p'⟩
     rw [hfp] at e2;obtain ⟨q1,q2⟩:=e2;have q1:s'=s:=q1;have q2:n'=n:=q2;rw [q1,q2];exact ⟨h1,h2,h3,h4⟩
   | succ i=>
     rw [List.modify_succ_cons];exact ⟨h1,h2,h3,ih i _ _ h4⟩
theorem wpS_sortRuns {st:SortSt} {Q:Unit->SortSt->Prop} (C:yL prog w A s κ a₀ rk) (hB:SB κ a₀ #[] st) (h2:2<=a₀.size)
 (h:∀st',(arrOf st').Perm a₀->failedOf st'=none->Seg rk (arrOf st') 0 a₀.size->Q () st'):wpS (model prog w) A E s sortRuns' Q st:=by
 rw [sortRuns'_eq];refine wpS_bind (wpS_get ?_);dsimp only;simp only [hB.size];generalize minRun' a₀.size a₀.size 0=mr
 refine wpS_bind (wpS_mono (wpS_forRange (I:=fun x c st'=>∃lo pd,c=(none,lo)/\x<=lo/\lo<=a₀.size/\SB κ a₀ pd st'/\Runs rk (arrOf st') pd.toList 0 lo)
  (Q:=fun c st'=>∃pd,c=(none,a₀.size)/\SB κ a₀ pd st'/\Runs rk (arrOf st') pd.toList 0 a₀.size) ?step ?fin ⟨0, #[],rfl,by (clear h2;lia),by (clear h2;lia),hB,rfl⟩) ?post)
 case fin=>
  rintro c st' ⟨lo,pd,rfl,x1,x2,hB',hr⟩;have:lo=a₀.size:=by (clear h2;lia)
  subst this;exact ⟨pd,rfl,hB',hr⟩
 case step=>
  rintro x c st' _ hx ⟨lo,pd,rfl,x1,x2,hB',hr⟩;dsimp only;refine aJ (fun ge=> ?_) (fun ge=> ?_)
  ·have:lo=a₀.size:=by (clear x1 hx h2;lia)
   subst this;exact wpS_pure ⟨pd,rfl,hB',hr⟩
  refine wpS_bind (wpS_countRun C (by (clear ge x1 hx h2;lia)) (by (clear x2 x1 hx h2;lia)) hB' fun m st2 hB2 kb2 m1 m2 hs2=> ?_);dsimp only;have hr2:=hr.congr (ys:=arrOf st2) fun j _ j2=>dZ (kb2 j j2).symm;apply aJ
  case' h1=>
   intro lt;refine wpS_bind (wpS_lift (wpAny_rule ⟨rfl, ?_⟩));refine wpS_bind (wpS_binarySort C (by (clear lt m2 m1 ge x1 hx h2;lia)) (by (clear m1 ge x2 x1 hx h2;lia)) hB2 hs2 fun st3 hB3 kb3 hs3=> ?_);simp only [Bool.not_true,Bool.false_eq_true,if_false];have Tq:=hr2.congr (ys:=arrOf st3) fun j _ j2=>dZ (kb3 j j2).symm;have n1:1<=min (a₀.size - lo) mr:=by (clear m2 m1 x2 x1 hx h2;lia)
   have n2:min (a₀.size - lo) mr<=a₀.size - lo:=by (clear n1 lt m2 m1 ge x2 x1 hx h2;lia)
   generalize min (a₀.size - lo) mr=n at hs3 n1 n2 ⊢
  case' h2=>
   intro lt;have Tq:=hr2;have hB3:=hB2;have hs3:=hs2;have n1:=m1;have n2:=m2;revert Tq hB3 hs3;generalize st2=st3;revert n1 n2;generalize m=n;intro n1 n2 Tq hB3 hs3
  all_goals
   refine wpS_bind (wpS_get ?_)
   have done:∀j4 j8,SB κ a₀ j4 j8->Runs rk (arrOf j8) j4.toList 0 lo->Seg rk (arrOf j8) lo (lo+n)->wpS (model prog w) A E s (do
    modify fun s=>setPending s ((pendingOf s).push (lo,n,0))
    pure (ForInStep.yield ((none:Option Unit),lo+n))) (fun r st'=>match r with
     | ForInStep.done c'=>∃pd,c'=(none,a₀.size)/\SB κ a₀ pd st'/\Runs rk (arrOf st') pd.toList 0 a₀.size
     | ForInStep.yield c'=>∃lo pd,c'=(none,lo)/\x+1<=lo/\lo<=a₀.size/\SB κ a₀ pd st'/\Runs rk (arrOf st') pd.toList 0 lo) j8:=by
    intro j4 j8 nQ uV Qo;refine wpS_bind (wpS_modify (wpS_pure ⟨lo+n,j4.push (lo,n,0),rfl,by (clear n2 lt m2 m1 ge x2 hx h2;lia),by (clear n1 lt m2 m1 ge x1 hx h2;lia),⟨nQ.perm,nQ.kind,nQ.failed,by show (pendingOf j8).push _=_;rw [nQ.pend]⟩, ?_⟩));rw [Array.toList_push];exact Runs.app.mpr ⟨lo,uV,rfl,n1,Qo,rfl⟩
   cases hb:(pendingOf st3).back? with
   | none=>exact done _ _ hB3 Tq hs3
   | some t=>
     obtain ⟨s1,Yv,pw⟩:=t;dsimp only;generalize power' a₀.size (2*s1+Yv) (2*s1+Yv+Yv+n) a₀.size=pwr
     refine wpS_bind (wpS_mono (wpS_forRange (I:=fun y c j8=>∃j4,c=(none,())/\SB κ a₀ j4 j8/\Runs rk (arrOf j8) j4.toList 0 lo/\Seg rk (arrOf j8) lo (lo+n))
      (Q:=fun c j8=>∃j4,c=(none,())/\SB κ a₀ j4 j8/\Runs rk (arrOf j8) j4.toList 0 lo/\Seg rk (arrOf j8) lo (lo+n)) ?_ (fun _ _ z=>z) ⟨_,rfl,hB3,Tq,hs3⟩) ?_)
     ·rintro y c j8 _ hy ⟨j4,rfl,nQ,uV,Qo⟩
      refine wpS_bind (wpS_get ?_);rw [nQ.pend];cases hg:(if j4.size>1 then j4[j4.size - 2]? else none) with
      | none=>exact wpS_pure ⟨j4,rfl,nQ,uV,Qo⟩
      | some t=>
        obtain ⟨f1,f2,older⟩:=t;dsimp only
        have gt:j4.size>1:=by
         by_cases g:j4.size>1
         ·exact g
         ·rw [if_neg g] at hg;cases hg
        refine aJ (fun _=> ?_) (fun _=> ?_)
        ·exact wpS_pure ⟨j4,rfl,nQ,uV,Qo⟩
        ·refine wpS_bind (lD C nQ uV x2 (by (clear hg hy hb n2 n1 lt m2 m1 ge x2 x1 hx h2;lia)) fun Xm rH ZD Zt _ R5=> ?_)
         simp only [Bool.not_true,Bool.false_eq_true,if_false];refine wpS_pure ⟨Xm,rfl,ZD,Zt,fun i j a b c=> ?_⟩;rw [dZ (R5 i a),dZ (R5 j (by (clear c gt hg hy hb n2 n1 lt m2 m1 ge x2 x1 hx h2;lia)))];exact Qo i j a b c
     ·rintro c j8 ⟨j4,rfl,nQ,uV,Qo⟩
      dsimp only;refine wpS_bind (wpS_modify ?_);refine done _ _ ⟨nQ.perm,nQ.kind,nQ.failed,rfl⟩ ?_ Qo;rw [←nQ.pend] at uV;rw [Array.toList_modify];refine Runs.modify (fun x=> ?_) _ _ _ _ uV;exact ⟨rfl,rfl⟩
 case post=>
  rintro c st' ⟨pd,rfl,hB',hr⟩;dsimp only;have le:=Runs.le hr;rw [Array.length_toList] at le
  refine wpS_bind (wpS_mono (wpS_forRange (I:=fun y c j8=>∃j4,c=(none,())/\SB κ a₀ j4 j8/\Runs rk (arrOf j8) j4.toList 0 a₀.size/\j4.size<=max 1 (a₀.size - y))
   (Q:=fun c j8=>∃j4,c=(none,())/\SB κ a₀ j4 j8/\Runs rk (arrOf j8) j4.toList 0 a₀.size/\j4.size<=1) ?_ ?_ ⟨pd,rfl,hB',hr,by (clear h2;lia)⟩) ?_)
  ·rintro y c j8 _ hy ⟨j4,rfl,nQ,uV,SJ⟩
   refine wpS_bind (wpS_get ?_);rw [nQ.pend];refine aJ (fun l1=> ?_) (fun l1=> ?_)
   ·exact wpS_pure ⟨j4,rfl,nQ,uV,l1⟩
   ·have hix:∀(c:Prop) [Decidable c],(if c then j4.size - 2 - 1 else j4.size - 2)+1<j4.size:=by
     intro c _;split<;>(clear SJ hy le h2;lia)
    refine wpS_bind (lD C nQ uV (Nat.le_refl _) (hix _) fun Xm rH ZD Zt z5 _=> ?_);simp only [Bool.not_true,Bool.false_eq_true,if_false];exact wpS_pure ⟨Xm,rfl,ZD,Zt,by (clear l1 hy le h2;lia)⟩
  ·rintro c j8 ⟨j4,rfl,nQ,uV,SJ⟩
   exact ⟨j4,rfl,nQ,uV,by (clear le h2;lia)⟩
  ·rintro c j8 ⟨j4,rfl,nQ,uV,SJ⟩
   refine wpS_pure (h j8 nQ.perm nQ.failed ?_);have ll:j4.toList.length<=1:=by rw [Array.length_toList];exact SJ
   match hl:j4.toList,ll,uV with
   | [],_,uV=>have:0=a₀.size:=uV;(clear hl ll SJ le;lia)
   | [(s,n,p)],_,uV=>
     obtain ⟨_,_,hs,e⟩:=uV;have e:0+n=a₀.size:=e;rw [e] at hs;exact hs
end
end Tim
set_option Elab.async false
set_option linter.all false
set_option maxRecDepth 100000
set_option maxHeartbeats 4000000
namespace Tim
open PySem PyProof.Rows
section
variable {prog:Program} {w:World} {A:Around} {E:Value->Shared->Prop} {s:Shared} {κ:SortKind} {rk:Value->Nat}
theorem Pk {vs:List Value} {xs:Array Keyed} (hp:xs.Perm (pairsOf vs)) (hs:Seg rk xs 0 (pairsOf vs).size):(xs.map (·.2)).toList.Perm vs/\(xs.map (·.2)).toList.Pairwise (fun x y=>rk x<=rk y):=by
 have hl:xs.toList.Perm (vs.zip vs):=by rw [←pairsOf_toList];exact Array.perm_iff_toList_perm.mp hp
 have hmem:∀p,p∈xs.toList->p.1=p.2:=fun p hp'=>(mem_zip_self (hl.mem_iff.mp hp')).1
 have e:(xs.map (·.2)).toList=xs.toList.map (·.1):=by
  rw [Array.toList_map];exact List.map_congr_left fun p hp'=>(hmem p hp').symm
 rw [e];constructor
 ·have:=hl.map Prod.fst
  rwa [List.map_fst_zip (Nat.le_refl _)] at this
 ·rw [List.pairwise_map,List.pairwise_iff_getElem]
  intro i j hi hj hij;rw [Array.length_toList] at hi hj;have:=hs i j (Nat.zero_le _) (Nat.le_of_lt hij) (by rw [←hp.size_eq];exact hj);rw [fJ hi,fJ hj] at this;simpa using this
theorem lJ {a:Addr} {vs:List Value} {n:Nat} {P:PySem.Fin->Shared->Prop} (ho:s.heap.get? a=some (seqObj "list" vs.toArray n)) (hz:vs.length<=sizeLine)
 (hk:2<=vs.length -> ∀h':Heap,(∀b o,b≠a->s.heap.get? b=some o->h'.get? b=some o)->(∀(Q:SortKind->Shared->Prop) (E:Value->Shared->Prop),Q κ {s with heap:=h'}->wpAny (model prog w) A (keyKind' vs.toArray) Q E {s with heap:=h'})/\yL prog w A {s with heap:=h'} κ (pairsOf vs) rk)
 (h:∀out:List Value,out.Perm vs->out.Pairwise (fun x y=>rk x<=rk y)->P (.done (.ret .none)) {s with heap:=sortedHeap s.heap a vs out.toArray}):
 wpAny (model prog w) A (Builtin.«list.sort» ⟨[.ref a],[]⟩) P E s:=by
 rw [list_sort_plain];have ha:a<s.heap.objs.size:=Heap.lt_size ho;refine wpAny_bind (listItems_at ho rfl ?_);refine wpAny_bind (listUpdate_at ho rfl ?_ (by rw [List.size_toArray];exact hz) (Nat.zero_le _));obtain ⟨e1,ho1⟩:∃e1,(s.heap.update a (Obj.mapSeq fun _=> #[])).get? a=some (seqObj "list" #[] e1):=⟨_,get?_update_seq ho (fun _=> #[])⟩;refine wpAny_bind (seqEpoch_at ho1 rfl ?_);refine wpAny_bind (wpAny_newTuple ?_ (by show vs.length<=_;exact hz));refine wpAny_bind (wpAny_newList ?_ (Nat.zero_le _));refine wpAny_holding ?_
 have keep:∀b o,b≠a->s.heap.get? b=some o->(((s.heap.update a (Obj.mapSeq fun _=> #[])).push (seqObj "tuple" vs.toArray 0)).push (seqObj "list" #[] 0)).get? b=some o:=fun b o nb e=>by
  refine Heap.get?_push_of_some _ (Heap.get?_push_of_some _ ?_);rw [Heap.get?_update_ne _ _ _ _ nb];exact e
 have ho6:(((s.heap.update a (Obj.mapSeq fun _=> #[])).push (seqObj "tuple" vs.toArray 0)).push (seqObj "list" #[] 0)).get? a=some (seqObj "list" #[] e1):=Heap.get?_push_of_some _ (Heap.get?_push_of_some _ ho1);show wpAny (model prog w) A _ P E {s with heap:=((s.heap.update a (Obj.mapSeq fun _=> #[])).push (seqObj "tuple" vs.toArray 0)).push (seqObj "list" #[] 0)};dsimp only;have hsz:vs.toArray.size=vs.length:=by simp
 have fin:∀st':SortSt,(arrOf st').Perm (pairsOf vs)->Seg rk (arrOf st') 0 (pairsOf vs).size ->
  P (.done (.ret .none)) {s with heap:=sortedHeap s.heap a vs ((arrOf st').map (·.2))}:=by
  intro st' hp hs;obtain ⟨h1,h2⟩:=Pk hp hs;have:=h _ h1 h2;rwa [Array.toArray_toList] at this
 by_cases h2:vs.toArray.size<2
 ·rw [if_pos h2,if_pos h2]
  refine wpAny_bind (wpAny_pure ?_);rw [StateT.run_pure];refine wpAny_bind (wpAny_pure ?_);dsimp only;refine wpAny_bind (seqEpoch_at ho6 rfl ?_);refine wpAny_bind (listUpdate_at ho6 rfl ?_ (Nat.zero_le _) (by rw [Array.size_map];show (pairsOf vs).size<=_;rw [pairsOf_size];omega));simp only [bne_self_eq_false,Bool.false_eq_true,if_false];refine wpAny_pure (fin (SortSt.mk' general' (vs.toArray.zip vs.toArray) #[] 7 none) (Array.Perm.refl _) ?_);intro i j _ hij hj;have:i=j:=by rw [pairsOf_size] at hj;omega
  subst this;exact Nat.le_refl _
 ·rw [if_neg h2,if_neg h2]
  obtain ⟨kk,kc⟩:=hk (by omega) _ keep;refine wpAny_bind (kk _ _ ?_)
  refine wpAny_bind (wpAny_mono (wpS_sortRuns (a₀:=pairsOf vs) (rk:=rk) (st:=SortSt.mk' κ (vs.toArray.zip vs.toArray) #[] 7 none)
   (Q:=fun _ st'=>(arrOf st').Perm (pairsOf vs)/\failedOf st'=none/\Seg rk (arrOf st') 0 (pairsOf vs).size)
   kc ⟨Array.Perm.refl _,rfl,rfl,rfl⟩ (by rw [pairsOf_size];omega) fun st' a1 a2 a3=>⟨a1,a2,a3⟩) ?_ fun _ _ e=>e)
  rintro ⟨⟨⟩,st'⟩ s' ⟨rfl,hp,hf,hs⟩;dsimp only;refine wpAny_bind (seqEpoch_at ho6 rfl ?_);refine wpAny_bind (listUpdate_at ho6 rfl ?_ (Nat.zero_le _) (Nat.le_trans (Nat.le_of_eq ((Array.size_map ..).trans (hp.size_eq.trans (pairsOf_size _)))) (Nat.le_succ_of_le hz)));rw [hf];simp only [bne_self_eq_false,Bool.false_eq_true,if_false];exact wpAny_pure (fin st' hp hs)
theorem zf {l:Addr} {vs:List Value} {Q:Value->Shared->Prop} (hl:s.heap.IsList l vs.toArray) (hz:vs.length<=sizeLine)
 (hk:2<=vs.length -> ∀h':Heap,(∀b o,s.heap.get? b=some o->h'.get? b=some o)->(∀(Q:SortKind->Shared->Prop) (E:Value->Shared->Prop),Q κ {s with heap:=h'}->wpAny (model prog w) A.in1.in1 (keyKind' vs.toArray) Q E {s with heap:=h'})/\yL prog w A.in1.in1 {s with heap:=h'} κ (pairsOf vs) rk)
 (h:∀(h':Heap) (D:Addr) (c:Nat) (out:List Value),(∀b o,s.heap.get? b=some o->h'.get? b=some o)->s.heap.objs.size<=D->h'.get? D=some (seqObj "list" out.toArray c)->out.Perm vs->out.Pairwise (fun x y=>rk x<=rk y)->Q (.ref D) {s with heap:=h'}):
 wpAny (model prog w) A (call (.builtin "sorted") [.ref l]) Q E s:=by
 refine Calls.call_function_entry kind_sorted plain_sorted entry_sorted (args_sorted1 _) ?_;unfold Builtin.«sorted»;refine wpAny_bind (m:=checkCount "sorted" 1 1 _) (wpAny_pure ?_);refine wpAny_bind (collect_list hl ?_ hz);refine wpAny_bind (wpAny_newList ?_ hz)
 have hsz:((s.heap.push (seqObj "list" #[] 0)).update s.heap.objs.size (Obj.mapSeq (· ++ vs.toArray))).objs.size=s.heap.objs.size+1:=by
  rw [Heap.size_update,size_push']
 have hoL:(((s.heap.push (seqObj "list" #[] 0)).update s.heap.objs.size (Obj.mapSeq (· ++ vs.toArray))).push (seqObj "list" vs.toArray 0)).get? (s.heap.objs.size+1)=some (seqObj "list" vs.toArray 0):=by
  rw [←hsz];exact Heap.get?_push_size _ rfl
 have keep:∀b o,s.heap.get? b=some o->(((s.heap.push (seqObj "list" #[] 0)).update s.heap.objs.size (Obj.mapSeq (· ++ vs.toArray))).push (seqObj "list" vs.toArray 0)).get? b=some o:=fun b o q=>by
  have hlt:b<s.heap.objs.size:=Heap.lt_size q;rw [Heap.get?_push_ne _ _ _ (by rw [hsz];exact Nat.ne_of_lt (Nat.lt_succ_of_lt hlt)),Heap.get?_update_ne _ _ _ _ (Nat.ne_of_lt hlt),Heap.get?_push_ne _ _ _ (Nat.ne_of_lt hlt)];exact q
 show wpAny _ _ _ _ _ {s with heap:=((s.heap.push (seqObj "list" #[] 0)).update s.heap.objs.size (Obj.mapSeq (· ++ vs.toArray))).push (seqObj "list" vs.toArray 0)};rw [hsz];generalize ((s.heap.push (seqObj "list" #[] 0)).update s.heap.objs.size (Obj.mapSeq (· ++ vs.toArray))).push (seqObj "list" vs.toArray 0)=h1 at keep hoL ⊢;have nD:∀b o,s.heap.get? b=some o->b≠s.heap.objs.size+1:=fun b o e=>Nat.ne_of_lt (Nat.lt_succ_of_lt (Heap.lt_size e));refine wpAny_bind (wpAny_holding (wpAny_call_entry slot_list_sort ⟨_,hoL,rfl⟩ entry_list_sort (lJ (s:={s with heap:=h1}) hoL hz (fun h2 h' kp=>hk h2 h' fun b o e=>kp b o (nD b o e) (keep b o e)) fun out p1 p2=>⟨_,rfl, ?_⟩) (args_list_sort _)));refine wpAny_pure ⟨_,rfl, ?_⟩;obtain ⟨e1,ho1⟩:∃e1,(h1.update (s.heap.objs.size+1) (Obj.mapSeq fun _=> #[])).get? (s.heap.objs.size+1)=some (seqObj "list" #[] e1):=⟨_,get?_update_seq hoL (fun _=> #[])⟩;have ho2:(((h1.update (s.heap.objs.size+1) (Obj.mapSeq fun _=> #[])).push (seqObj "tuple" vs.toArray 0)).push (seqObj "list" #[] 0)).get? (s.heap.objs.size+1)=some (seqObj "list" #[] e1):=Heap.get?_push_of_some _ (Heap.get?_push_of_some _ ho1);refine h (sortedHeap h1 (s.heap.objs.size+1) vs out.toArray) _ _ out (fun b o e=> ?_) (Nat.le_succ _) (by unfold sortedHeap;exact get?_update_seq ho2 (fun _=>out.toArray)) p1 p2;unfold sortedHeap;rw [Heap.get?_update_ne _ _ _ _ (nD b o e)];refine Heap.get?_push_of_some _ (Heap.get?_push_of_some _ ?_);rw [Heap.get?_update_ne _ _ _ _ (nD b o e)];exact keep b o e
end
section
theorem tM {α:Type} {p q:α->Bool} {u:α}:∀{l:List α},u∈l->q u=true->p u=false->(∀x,p x=true->q x=true)->l.countP p<l.countP q
 | [],hm,_,_,_=>by simp at hm
 | x::l,hm,hq,hp,hi=>by
   have mono:l.countP p<=l.countP q:=List.countP_mono_left fun x _=>hi x;rw [List.countP_cons,List.countP_cons];rcases List.mem_cons.mp hm with rfl|hm
   ·rw [hq,hp];simp;omega
   ·have:=tM hm hq hp hi
    cases e:p x with
    | true=>rw [hi x e];simp;omega
    | false=>simp;omega
def jK {α:Type} (L:α->α->Bool) (vs:List α) (v:α):Nat:=vs.countP fun u=>L u v
structure Swo {α:Type} (L:α->α->Bool):Prop where
 irr:∀a,L a a=false
 tr:∀a b c,L a b=true->L b c=true->L a c=true
 Yj:∀a b c,L a b=false->L b c=false->L a c=false
theorem Bl {α:Type} {L:α->α->Bool} (S:Swo L) {vs:List α} {u v:α} (hu:u∈vs):decide (jK L vs u<jK L vs v)=L u v:=by
 cases e:L u v with
 | true=>exact decide_eq_true (tM hu e (S.irr u) fun x hx=>S.tr x u v hx e)
 | false=>
   refine decide_eq_false fun z=> ?_
   have:jK L vs v<=jK L vs u:=List.countP_mono_left fun x _ hx=>by
    cases e':L x u with
    | true=>rfl
    | false=>rw [S.Yj x u v e' e] at hx;cases hx
   omega
theorem Bm {α:Type} {L:α->α->Bool} (S:Swo L) {vs:List α} {u v:α} (hv:v∈vs) (h:jK L vs u<=jK L vs v):L v u=false:=by
 have:=Bl S (u:=v) (v:=u) hv;rw [←this];exact decide_eq_false (by omega)
def d_:List Int->List Int->Bool
 | _,[]=>false
 | [],_::_=>true
 | a::as,b::bs=>if a=b then d_ as bs else decide (a<b)
theorem wZ (a:List Int):d_ a []=false:=by cases a<;>rfl
theorem w5:∀a,d_ a a=false
 | []=>rfl
 | a::as=>by unfold d_;rw [if_pos rfl];exact w5 as
theorem Cg:∀a b c,d_ a b=true->d_ b c=true->d_ a c=true
 | a,[],_,h,_=>by rw [wZ] at h;cases h
 | [],_::_,[],_,h=>by cases h
 | [],_::_,_::_,_,_=>rfl
 | _::_,_::_,[],_,h=>by cases h
 | a::as,b::bs,c::cs,h1,h2=>by
   unfold d_ at h1 h2 ⊢
   by_cases e1:a=b
   ·rw [if_pos e1] at h1
    by_cases e2:b=c
    ·rw [if_pos e2] at h2
     rw [if_pos (e1.trans e2)];exact Cg as bs cs h1 h2
    ·rw [if_neg e2] at h2
     rw [if_neg (e1▸e2),e1];exact h2
   ·rw [if_neg e1] at h1
    have h1:=of_decide_eq_true h1
    by_cases e2:b=c
    ·rw [←e2,if_neg e1];exact decide_eq_true h1
    ·rw [if_neg e2] at h2
     have h2:=of_decide_eq_true h2;rw [if_neg (by omega)];exact decide_eq_true (by omega)
theorem wY:∀a b c,d_ a b=false->d_ b c=false->d_ a c=false
 | a,_,[],_,_=>wZ a
 | [],[],_::_,_,h=>by cases h
 | [],_::_,_::_,h,_=>by cases h
 | _::_,[],_::_,_,h=>by cases h
 | a::as,b::bs,c::cs,h1,h2=>by
   unfold d_ at h1 h2 ⊢
   by_cases e1:a=b
   ·rw [if_pos e1] at h1
    by_cases e2:b=c
    ·rw [if_pos e2] at h2
     rw [if_pos (e1.trans e2)];exact wY as bs cs h1 h2
    ·rw [if_neg e2] at h2
     rw [if_neg (e1▸e2),e1];exact h2
   ·rw [if_neg e1] at h1
    have h1:=of_decide_eq_false h1
    by_cases e2:b=c
    ·rw [←e2,if_neg e1];exact decide_eq_false h1
    ·rw [if_neg e2] at h2
     have h2:=of_decide_eq_false h2;rw [if_neg (by omega)];exact decide_eq_false (by omega)
theorem wX:∀a b,d_ a b=false->d_ b a=false->a=b
 | [],[],_,_=>rfl
 | [],_::_,h,_=>by cases h
 | _::_,[],_,h=>by cases h
 | a::as,b::bs,h1,h2=>by
   unfold d_ at h1 h2
   by_cases e:a=b
   ·rw [if_pos e] at h1
    rw [if_pos e.symm] at h2;rw [e,wX as bs h1 h2]
   ·rw [if_neg e] at h1
    rw [if_neg (Ne.symm e)] at h2;have h1:=of_decide_eq_false h1;have h2:=of_decide_eq_false h2;omega
theorem uf {α:Type} (key:α->List Int):Swo fun a b=>d_ (key a) (key b):=⟨fun a=>w5 _,fun a b c=>Cg _ _ _,fun a b c=>wY _ _ _⟩
end
end Tim
set_option Elab.async false
set_option linter.all false
set_option maxRecDepth 100000
set_option maxHeartbeats 4000000
namespace L2
open PySem PySem.Spec PyProof.Rows PySem.W
section
variable {X:Cx}
def keyOf (h:Heap):Value->List Int
 | .int n _=>[n]
 | .ref a=>match h.get? a with
   | some o=>match o.data with
     | .seq xs _=>xs.toList.map numOf
     | _=>[]
   | none=>[]
 | _=>[]
theorem Ce {prog:Program} {w:World} {A:Around} {s:Shared} {Q:Bool->Shared->Prop}:∀(xs ys:List Value) (ns ms:List Int) (i:Nat),IntsAre xs ns->IntsAre ys ms -> ∀(fin:Bool),(ns.length=ms.length->fin=false)->ns.length=ms.length->Q (Tim.d_ ns ms) s->KatLex prog w A true fin Q (xs.zip ys) i s
 | _,_,[],[],i,.nil,.nil,fin,hf,_,h=>by
   show Q fin s;rw [hf rfl];exact h
 | _,_,_::_,[],_,_,_,_,_,hl,_=>by cases hl
 | _,_,[],_::_,_,_,_,_,_,hl,_=>by cases hl
 | _,_,n::ns,m::ms,i,.cons _ t hx,.cons _ u hy,fin,hf,hl,h=>by
   rw [List.zip_cons_cons];refine kat_cons (wpAny_eqBool_int ?_);have hl':ns.length=ms.length:=by simpa using hl
   by_cases e:n=m
   ·subst e
    rw [show (n==n)=true by simp];refine kat_yes (Ce _ _ ns ms (i+1) hx hy fin (fun z=>hf (by simpa using z)) hl' ?_);unfold Tim.d_ at h;rwa [if_pos rfl] at h
   ·rw [show (n==m)=false by simpa using e]
    unfold Tim.d_ at h;rw [if_neg e] at h;refine kat_no ?_;cases (true&&i==0) with
    | true=>exact oneLt_int h
    | false=>exact kat_one _ _ (lt_int (show W.BoolBack Q (.bool (decide (n<m))) s from h))
theorem iy {h:Heap} {a:Addr} {its:List Value} {ns:List Int} (ht:IsTup h a its.toArray) (hi:IntsAre its ns):keyOf h (.ref a)=ns:=by
 obtain ⟨o,e,_,n,d⟩:=ht
 show (match h.get? a with
  | some o=>match o.data with
    | .seq xs _=>xs.toList.map numOf
    | _=>[]
  | none=>[])=ns
 rw [e];dsimp only;rw [d];dsimp only;exact hi.nums
def yD (h:Heap) (k:Nat) (vs:List Value):Prop:=∀v∈vs,∃a its ns,v = .ref a/\IsTup h a its.toArray/\IntsAre its ns/\ns.length=k
theorem vN {prog:Program} {w:World} {A:Around} {s:Shared} {vs:List Value} {k:Nat} {h0:Heap} (T:yD h0 k vs) (kp:∀b o,h0.get? b=some o->s.heap.get? b=some o):
 Tim.yL prog w A s (tuples' true) (pairsOf vs) (Tim.jK (fun a b=>Tim.d_ (keyOf h0 a) (keyOf h0 b)) vs):=by
 refine ⟨fun p hp q hq E Q h=> ?_⟩;rw [pairsOf_toList] at hp hq;obtain ⟨_,mp⟩:=mem_zip_self hp;obtain ⟨_,mq⟩:=mem_zip_self hq;rw [Tim.Bl (Tim.uf (keyOf h0)) mp] at h;obtain ⟨a,its,ns,ep,ta,ia,la⟩:=T _ mp;obtain ⟨b,jts,ms,eq,tb,ib,lb⟩:=T _ mq;rw [ep,eq] at h ⊢;rw [iy ta ia,iy tb ib] at h;obtain ⟨oa,ea,ca,n1,da⟩:=ta;obtain ⟨ob,eb,cb,n2,db⟩:=tb;have l1:its.length=ns.length:=ia.length;have l2:jts.length=ms.length:=ib.length;refine kat_lt (kp _ _ ea) da (kp _ _ eb) db ?_;have e1:its.toArray.toList=its:=by simp
 have e2:jts.toArray.toList=jts:=by simp
 rw [e1,e2];exact Ce its jts ns ms 0 ia ib _ (fun z=>decide_eq_false (by rw [List.size_toArray,List.size_toArray];omega)) (by omega) h
theorem ou {h0 h1:Heap} {k:Nat} (hk:1<=k) (kp:∀b o,h0.get? b=some o->h1.get? b=some o):∀{vs:List Value},yD h0 k vs -> ∃fs,KatTups h1 vs fs/\fs.length=vs.length /\ ∀f∈fs,∃n t,f=Value.int n t
 | [],_=>⟨[],trivial,rfl,fun _ z=>absurd z (by simp)⟩
 | v::vs,T=>by
   obtain ⟨fs,t1,t2,t3⟩:=ou hk kp (vs:=vs) fun u hu=>T u (List.mem_cons_of_mem _ hu);obtain ⟨a,its,ns,rfl,⟨o,e,c,n,d⟩,ia,la⟩:=T v (List.mem_cons_self ..)
   match its,ns,ia,la,d with
   | _,_,.nil,la,d=>simp at la;omega
   | _,_,.cons m t r,la,d=>
     refine ⟨_::fs,KatTups.cons (kp _ _ e) c d rfl t1,by simp [t2],fun f hf=> ?_⟩;rcases List.mem_cons.mp hf with rfl|hf
     ·exact ⟨_,_,rfl⟩
     ·exact t3 f hf
theorem rY {prog:Program} {w:World} {A:Around} {s:Shared} {vs:List Value} {k:Nat} {h0:Heap} {Q:SortKind->Shared->Prop} {E:Value->Shared->Prop} (hk:1<=k) (T:yD h0 k vs) (hv:2<=vs.length) (kp:∀b o,h0.get? b=some o->s.heap.get? b=some o)
 (h:Q (tuples' true) s):wpAny (model prog w) A (keyKind' vs.toArray) Q E s:=by
 obtain ⟨fs,t1,t2,t3⟩:=ou hk kp T;refine kat_kind (T:= .type "int") t1 (by omega) (fun v hv=> ?_) rfl h;obtain ⟨n,t,rfl⟩:=t3 v hv;exact .now
theorem Di {ys:List V} {us out:List Value} (r:Vals ys us) (p:out.Perm us):∃zs,Vals zs out/\zs.Perm ys:=by
 induction p generalizing ys with
 | nil=>cases r;exact ⟨[],.nil,.refl _⟩
 | cons x p ih=>
   cases r with
   | cons rx rt=>
     obtain ⟨zs,z1,z2⟩:=ih rt;exact ⟨_::zs,.cons rx z1,.cons _ z2⟩
 | swap x y l=>
   cases r with
   | cons rx rt=>
     cases rt with
     | cons ry rl=>exact ⟨_,.cons ry (.cons rx rl),.swap _ _ _⟩
 | trans p q ih1 ih2=>
   obtain ⟨zs,z1,z2⟩:=ih2 r;obtain ⟨ws,w1,w2⟩:=ih1 z1;exact ⟨ws,w1,w2.trans z2⟩
theorem kZ:∀{ns:List Int} {vs:List Value},Vals (ns.map V.int) vs->IntsAre vs ns
 | [],_,.nil=> .nil
 | n::ns,_,.cons ⟨t,e⟩ r=>by subst e;exact .cons n t (kZ r)
theorem rT {R:Value->Value->Prop} {S:V->V->Prop} (hRS:∀x y u v,RelV x u->RelV y v->R u v->S x y):∀{zs:List V} {out:List Value},Vals zs out->out.Pairwise R->zs.Pairwise S
 | _,_,.nil,_=> .nil
 | _,_,.cons rx rt,p=>by
   rw [List.pairwise_cons] at p;refine .cons (fun y hy=> ?_) (rT hRS rt p.2);obtain ⟨i,hi,e⟩:=List.getElem_of_mem hy;obtain ⟨v,hv,ry⟩:=Vals.get rt (i:=i) (x:=y) (by rw [List.getElem?_eq_getElem hi,e]);exact hRS _ _ _ _ rx ry (p.1 v (List.mem_of_getElem? hv))
def aaS (K:PySem.W.Frag) (H:Hp) (k:Nat) (f:V->List Int) (x:V):Prop:=∃a,x = .ref a/\dG K H a ((f x).map V.int)/\(f x).length=k
def zy (K:PySem.W.Frag):List V->Hp->VK->Prop:=fun xs H Q=>∃(p:Addr) (ys:List V) (k:Nat) (f:V->List Int),xs=[.ref p]/\bf K H p ys/\1<=k/\(∀y∈ys,aaS K H k f y) /\
 ∀l zs,H l=none->zs.Perm ys->zs.Pairwise (fun x y=>Tim.d_ (f y) (f x)=false)->Q (.ref l) (upd H l (.lst zs))
theorem Aa:fO X (.builtin "sorted") (zy X.K):=by
 intro pins s σ H xs us Q I r h;obtain ⟨p,ys,k,f,rfl,hq,hk,ht,q⟩:=h;obtain ⟨u,rfl,rx⟩:=vals1 r;cases rx;obtain ⟨its,rv,pl,hz⟩:=I.list hq;have hlen:its.length=ys.length:=by rw [←rv.length]
 have item:∀x v,x∈ys->RelV x v -> ∃a jts,v = .ref a/\IsTup s.heap a jts.toArray/\IntsAre jts (f x)/\(f x).length=k:=by
  intro x v hx rxv;obtain ⟨a,rfl,sq,hl⟩:=ht x hx;cases rxv;obtain ⟨jts,rj,tj,_⟩:=I.tuple sq;exact ⟨a,jts,rfl,tj,kZ rj,hl⟩
 have T:yD s.heap k its:=fun v hv=>by
  obtain ⟨i,hi,e⟩:=List.getElem_of_mem hv;have hy:i<ys.length:=by omega
  obtain ⟨v',hv',ry⟩:=rv.get (i:=i) (x:=ys[i]) (by rw [List.getElem?_eq_getElem hy]);rw [List.getElem?_eq_getElem hi,e] at hv';cases hv';obtain ⟨a,jts,e1,e2,e3,e4⟩:=item _ _ (List.getElem_mem hy) ry;exact ⟨a,jts,_,e1,e2,e3,e4⟩
 refine Tim.zf (κ:=tuples' true) (rk:=Tim.jK (fun a b=>Tim.d_ (keyOf s.heap a) (keyOf s.heap b)) its) pl.isList (by omega)
  (fun h2 h' kp=>⟨fun Q E hQ=>rY hk T h2 kp hQ,vN T kp⟩) fun h' D c out kp hD hd hp hs=> ?_
 obtain ⟨zs,z1,z2⟩:=Di rv hp;have Zj:zs.length<=sizeLine:=by rw [z2.length_eq];omega
 refine ⟨.ref D,_,I.laid (t':=s.toks) kp hD (show bJ X.prog X.w _ h' _ (.lst zs) from ⟨Zj,out,c,z1,hd⟩),rfl,q D zs (I.hok.fresh hD) z2 ?_⟩
 have hs':out.Pairwise (fun u v=>u∈its/\v∈its/\Tim.d_ (keyOf s.heap v) (keyOf s.heap u)=false):=by
  refine List.Pairwise.imp_of_mem (fun {u v} hu hv huv=> ?_) hs;have mu:=hp.mem_iff.mp hu;have mv:=hp.mem_iff.mp hv;exact ⟨mu,mv,Tim.Bm (Tim.uf (keyOf s.heap)) mv huv⟩
 have zin:∀z∈zs,z∈ys:=fun z hz=>z2.mem_iff.mp hz
 have zp:zs.Pairwise (fun x y=>x∈zs/\y∈zs):=by
  rw [List.pairwise_iff_getElem];intro i j hi hj _;exact ⟨List.getElem_mem hi,List.getElem_mem hj⟩
 have:=rT (S:=fun x y=>x∈ys->y∈ys->Tim.d_ (f y) (f x)=false) (fun x y u v rx ry huv hx hy=>by
  obtain ⟨a,jts,rfl,e2,e3,e4⟩:=item x u hx rx;obtain ⟨b,kts,rfl,g2,g3,g4⟩:=item y v hy ry;have:=huv.2.2;rwa [iy e2 e3,iy g2 g3] at this) z1 hs'
 exact List.Pairwise.imp₂ (fun {x y} (h1:x∈ys->y∈ys->Tim.d_ (f y) (f x)=false) (h2:x∈zs/\y∈zs)=>h1 (zin _ h2.1) (zin _ h2.2)) this zp
theorem xW {K:PySem.W.Frag} (hK:X.K=K):fO X (.builtin "sorted") (zy K):=by subst hK;exact Aa
end
end L2
set_option Elab.async false
set_option linter.all false
set_option maxRecDepth 100000
set_option maxHeartbeats 4000000
namespace L2
open PySem PySem.Spec PyProof.Rows PySem.W
section
variable {X:Cx}
end
end L2
set_option Elab.async false
set_option linter.all false
set_option maxRecDepth 100000
set_option maxHeartbeats 4000000
namespace L2
open PySem PySem.Spec PyProof.Rows
section
variable {X:Cx}
end
end L2
set_option Elab.async false
set_option linter.all false
set_option maxRecDepth 100000
set_option maxHeartbeats 4000000
namespace L2
open PySem PySem.Spec PyProof.Rows
section
variable {prog:Program} {w:World} {A:Around} {E:Value->Shared->Prop} {s:Shared} {it d:Addr} {ep:Nat} {od:Obj} {es:Array DictEntry}
theorem zZ {Q:Value->Shared->Prop} (nsm:(d==sysModules)=false) (ho:s.heap.get? d=some od) (hx:od.ExactDict) (he:od.data = .dict es ep)
 (k:Q (.ref s.heap.objs.size) {s with heap:=s.heap.push {cls:= .type "dict_keyiterator",data:= .fields #[.ref d,.int 0 0,.int es.size 0,.int ep 0]}}):wpAny (model prog w) A (pyIter (.ref d)) Q E s:=by
 have ty:s.TypeIs (.ref d) "dict" :=⟨od,ho,hx.1⟩
 refine wpAny_pyIter_slot ty F.slot_dict_iter (wpAny_call_entry F.slot_dict_iter ty F.entry_dict_iter (by
  unfold Builtin.«dict.__iter__» Builtin.Dict.dictSlotNone;refine wpAny_bind (wpAny_bind (wpAny_notOrdered_dict ty ?_));show wpAny _ _ (pure (Value.ref d)) _ _ s;refine wpAny_pure ?_;show wpAny _ _ (Builtin.Dict.showsAll d >>= _) _ _ s;unfold Builtin.Dict.showsAll;rw [nsm];rw [if_neg Bool.false_ne_true];refine wpAny_bind (wpAny_pure (wpAny_bind (wpAny_dictEntries ho he (wpAny_bind (wpAny_dictEpoch ho he (wpAny_bind (wpAny_newObj_type (wpAny_pure ?_))))))));exact ⟨_,rfl,"dict_keyiterator",_,⟨_,Heap.get?_push_size _ rfl,rfl⟩,F.slot_dict_keyiterator_next.lookup,by simpa [rawInt] using k⟩) (F.args_dict_iter_1 _))
theorem El {i:Nat} {Q:Option Value->Shared->Prop} (st:s.heap.IsKeyIter it d i es.size ep) (ho:s.heap.get? d=some od) (he:od.data = .dict es ep) (hi:i<es.size)
 (k:∀h',h'.IsKeyIter it d (i+1) es.size ep->Heap.SameBut it s.heap h'->Q (some es[i].key) {s with heap:=h'}):wpAny (model prog w) A (pyNext (.ref it)) Q E s:=by
 obtain ⟨oi,hoi,ci,di⟩:=id st;have ty:=st.typeIs;have Ec:Builtin.Dict_items.ownsTuple "dict_keyiterator" = false:=by decide
 have PJ:¬((i:Int)<0):=by omega
 have st':(s.heap.update it (Obj.mapFields (·.setIfInBounds 1 (rawInt ((i:Int)+1))))).IsKeyIter it d (i+1) es.size ep:=
  ⟨_,Heap.get?_update_self _ hoi (Obj.isFreed_of_fields (Obj.data_mapFields di _)),by rw [Obj.cls_mapFields];exact ci,by rw [Obj.data_mapFields di];simp [rawInt]⟩
 unfold pyNext
 refine wpAny_bind (wpAny_attempt (wpAny_callSpecial?_slot (name:=Str.ofString "__next__") ty F.slot_dict_keyiterator_next (wpAny_call_entry F.slot_dict_keyiterator_next ty F.entry_dict_keyiterator_next (by
  refine wpAny_bind (wpAny_pure (wpAny_bind (wpAny_bind ?_)));refine wpAny_bind (wpAny_typeNameOfWhole_keyiter ty (wpAny_pure (wpAny_bind (wpAny_fieldsOf hoi di ?_))));rw [Ec];simp only [Bool.false_eq_true,if_false];show wpAny _ _ (if (Value.ref d==Value.none)=true then _ else _) _ _ s;rw [show (Value.ref d==Value.none)=false from rfl];rw [if_neg Bool.false_ne_true];refine wpAny_bind (wpAny_pure (wpAny_bind (wpAny_dictEntries ho he ?_)));rw [if_neg (by simp)];refine wpAny_bind (wpAny_pure (wpAny_bind (wpAny_dictEpoch ho he ?_)));rw [if_neg (by simp)];refine wpAny_pure ?_;simp only [PJ,if_false,Int.toNat_natCast,Array.getElem?_eq_getElem hi];refine wpAny_bind (wpAny_bind (wpAny_typeNameOfWhole_keyiter ty (wpAny_pure (wpAny_bind (wpAny_isOneOf_keyiter ty ?_)))));show wpAny _ _ (setField (.ref it) 1 (rawInt ((i:Int)+1)) >>= _) _ _ s;refine wpAny_bind (wpAny_setField hoi di (by simp) ?_);refine wpAny_bind (wpAny_holding (wpAny_bind (wpAny_isOneOf_keyiter (s:={s with heap:=s.heap.update it (Obj.mapFields (·.setIfInBounds 1 (rawInt ((i:Int)+1))))}) st'.typeIs ?_)));show wpAny _ _ (pure es[i].key) _ _ _;exact wpAny_pure (wpAny_pure ⟨_,rfl,wpAny_pure (k _ st' (Heap.SameBut.update ..))⟩)) (F.args_dict_keyiterator_next_1 _))))
theorem Ik {i:Nat} {Q:Option Value->Shared->Prop} (calm:A.handled=none) (st:s.heap.IsKeyIter it d i es.size ep) (ho:s.heap.get? d=some od) (he:od.data = .dict es ep) (hi:es.size<=i)
 (k:∀h',Heap.ExtBut it s.heap h'->Q none {s with heap:=h'}):wpAny (model prog w) A (pyNext (.ref it)) Q E s:=by
 obtain ⟨oi,hoi,ci,di⟩:=id st;have ty:=st.typeIs;have Ec:Builtin.Dict_items.ownsTuple "dict_keyiterator" = false:=by decide
 have PJ:¬((i:Int)<0):=by omega
 unfold pyNext
 refine wpAny_bind (wpAny_attempt (wpAny_callSpecial?_slot (name:=Str.ofString "__next__") ty F.slot_dict_keyiterator_next (wpAny_call_entry F.slot_dict_keyiterator_next ty F.entry_dict_keyiterator_next (by
  refine wpAny_bind (wpAny_pure (wpAny_bind (wpAny_bind ?_)));refine wpAny_bind (wpAny_typeNameOfWhole_keyiter ty (wpAny_pure (wpAny_bind (wpAny_fieldsOf hoi di ?_))));rw [Ec];simp only [Bool.false_eq_true,if_false];show wpAny _ _ (if (Value.ref d==Value.none)=true then _ else _) _ _ s;rw [show (Value.ref d==Value.none)=false from rfl];rw [if_neg Bool.false_ne_true];refine wpAny_bind (wpAny_pure (wpAny_bind (wpAny_dictEntries ho he ?_)));rw [if_neg (by simp)];refine wpAny_bind (wpAny_pure (wpAny_bind (wpAny_dictEpoch ho he ?_)));rw [if_neg (by simp)];refine wpAny_pure ?_;simp only [PJ,if_false,Int.toNat_natCast,Array.getElem?_eq_none hi];refine wpAny_bind (wpAny_bind (wpAny_typeNameOfWhole_keyiter ty (wpAny_pure ?_)));show wpAny _ _ (setField (.ref it) 0 .none >>= _) _ _ s;refine wpAny_bind (wpAny_setField hoi di (by simp) ?_);show wpAny _ _ (newExc (.type "StopIteration") [] >>= _) _ _ _;refine wpAny_bind ?_;simp only [newExc,newTuple];refine wpAny_bind (wpAny_newObj_type ?_ (by size_fits));refine wpAny_bind (m:=firstArgMember _ _) (wpAny_of_eq (a:=Value.none) (by first |rfl|(simp only [firstArgMember];rfl)) (wpAny_newObj_type ?_ (by size_fits)));simp only [raiseNew];refine wpAny_bind (wpAny_handled ?_);rw [show A.in1.handled=none from calm];refine wpAny_bind (wpAny_pure (wpAny_throw ?_));refine wpAny_bind (wpAny_isInstance (T:= "StopIteration") (b:=true) ⟨_,Heap.get?_push_size _ rfl,rfl⟩ isSubtype_stop ?_);exact wpAny_pure (k _ (((Heap.SameBut.update ..).extBut.push _).push _))) (F.args_dict_keyiterator_next_1 _))))
end
end L2
set_option Elab.async false
set_option linter.all false
set_option maxRecDepth 100000
set_option maxHeartbeats 4000000
namespace L2
open PySem PySem.Spec PyProof.Rows
section
variable {X:Cx} {pins:List (Addr×Obj)} {σ:St} {H:Hp} {s:Shared} {d:Addr}
theorem Ih {kvs:List (List Key×V)} {xs:List (List Key×Addr×Value)} {u v:HO} (r:KT H kvs xs) (e:H d=some u) (h1:∀ys,u ≠ .tup ys):KT (upd H d v) kvs xs:=by
 refine Paired.PX r fun p q z=>⟨z.1, ?_,z.2.2⟩;have:q.2.1≠d:=fun w=>by rw [w,e] at z;exact h1 _ (Option.some.inj z.2.1)
 rw [aP this];exact z.2.1
theorem Inv.HD {kvs:List (List Key×V)} (I:Inv X pins σ H s) (e:H d=some (.dT kvs)):∀o v,X.H₀ d≠some (.gK o v):=fun o v q=>by
 have:=I.base.mU d o v q;rw [e] at this;cases this
theorem Inv.Lw {kvs:List (List Key×V)} {o:Obj} (I:Inv X pins σ H s) (e:H d=some (.dT kvs)) (ho:s.heap.get? d=some o):Inv X pins σ (upd H d (.gK o (.dT kvs))) s:=by
 refine I.Bh e (fun _ z=>by cases z) (fun _ z=>by cases z) (fun _ z=>by cases z) (I.HD e) ⟨ho, ?_⟩;obtain ⟨z,y,xs,r,dd⟩:=(show bJ X.prog X.w H s.heap d (.dT kvs) from I.hok d _ e);exact ⟨z,y,xs,Ih r e (fun _ z=>by cases z),dd⟩
theorem Inv.Rq {kvs:List (List Key×V)} {o:Obj} (I:Inv X pins σ H s) (e:H d=some (.gK o (.dT kvs))) (hz:∀o v,X.H₀ d≠some (.gK o v)):Inv X pins σ (upd H d (.dT kvs)) s:=by
 refine I.Bh e (fun _ z=>by cases z) (fun _ z=>by cases z) (fun _ z=>by cases z) hz ?_;obtain ⟨_,z,y,xs,r,dd⟩:=(show bJ X.prog X.w H s.heap d (.gK o (.dT kvs)) from I.hok d _ e);exact ⟨z,y,xs,Ih r e (fun _ z=>by cases z),dd⟩
end
def Q7 (d:Addr) (o:Obj) (kvs:List (List Key×V)):It:=
 ⟨fun i H=>i<kvs.length/\H d=some (.gK o (.dT kvs)),fun i H x H'=>H'=H /\ ∃k v b,kvs[i]? = some (k,v)/\x = .ref b/\H b=some (.tup (k.map kV)),fun i H=>kvs.length<=i/\H d=some (.gK o (.dT kvs))⟩
theorem Qd {H:Hp} {kvs:List (List Key×V)} {xs:List (List Key×Addr×Value)} (r:KT H kvs xs):∀(i:Nat) (k:List Key) (v:V),kvs[i]? = some (k,v) -> ∃q,xs[i]? = some q/\H q.2.1=some (.tup (k.map kV)):=by
 induction r with
 | nil=>intro i k v h;cases h
 | @cons p q ps qs h r ih=>
   intro i k v e;cases i with
   | zero=>
     have e':p=(k,v):=Option.some.inj e;subst e';exact ⟨q,rfl,h.2.1⟩
   | succ i=>exact ih i k v (by simpa using e)
theorem yR {P:Program} {w:World} {K:PySem.W.Frag} {tg:Expr} (d it:Addr) (o:Obj) (kvs:List (List Key×V)) (es:Array DictEntry) (ep:Nat) (hd:o.data = .dict es ep):Turn P w K tg (Q7 d o kvs) [it] it (fun i h=>h.IsKeyIter it d i es.size ep) where
 mem:=by simp
 obj:=fun i h st b hb=>by
  have e:b=it:=by simpa using hb
  subst e;obtain ⟨o,e,c,d⟩:=st;exact ⟨o,e,fun v z=>by rw [d] at z;cases z⟩
 keep:=fun i h h' st k=>by
  obtain ⟨o,e,c,d⟩:=st;exact ⟨o,k it (by simp) o e,c,d⟩
 item:=by
  intro X hP hw hK hc i pins s σ H E I hf st hg;subst hP hw hK;obtain ⟨hi,hH⟩:=hg;obtain ⟨ho,z,y,xs,r,o',es',ep',q1,q2,q3,q4,q5⟩:=(show bJ X.prog X.w H s.heap d (.gK o (.dT kvs)) from I.hok d _ hH);rw [ho] at q1;cases q1;rw [hd] at q3;cases q3;have hl:kvs.length=xs.length:=Paired.length r;have hsz:es.size=xs.length:=by rw [←Array.length_toList,q4,List.length_map]
  obtain ⟨k,v,QF⟩:∃k v,kvs[i]? = some (k,v):=⟨kvs[i].1,kvs[i].2,by simp [hi]⟩;obtain ⟨q,eq,hq⟩:=Qd r i k v QF;have ie:i<es.size:=by omega
  have ek:es[i].key = .ref q.2.1:=by
   have e1:es.toList[i]? = some es[i]:=by simp [ie]
   rw [q4,List.getElem?_map,eq] at e1;have:=Option.some.inj e1;rw [←this];rfl
  obtain ⟨f0,f1,f2,f3,f4,f5⟩:=hf it (by simp);refine El st ho hd ie fun h' st' sb=> ?_;have I1:Inv X pins σ H {s with heap:=h'}:=I.turned (t':=s.toks) (fun b o hb e=>(sb.2 b hb).trans e) f0 f1 f3 f4 f5;obtain ⟨ob,e,c,dd⟩:=id st';rw [ek];exact ⟨.ref q.2.1,rfl,tG (s:={s with heap:=h'}) e c dd (by decide) ⟨.ref q.2.1,H,I1,rfl,⟨rfl,k,v,q.2.1,QF,rfl,hq⟩,st',fun b hb=>(hf b hb).1⟩⟩
 done:=by
  intro X hP hw hK hc i pins s σ H E I hf st hg;subst hP hw hK;obtain ⟨hi,hH⟩:=hg;obtain ⟨ho,z,y,xs,r,o',es',ep',q1,q2,q3,q4,q5⟩:=(show bJ X.prog X.w H s.heap d (.gK o (.dT kvs)) from I.hok d _ hH);rw [ho] at q1;cases q1;rw [hd] at q3;cases q3;have hl:kvs.length=xs.length:=Paired.length r;have hsz:es.size=xs.length:=by rw [←Array.length_toList,q4,List.length_map]
  obtain ⟨f0,f1,f2,f3,f4,f5⟩:=hf it (by simp);exact Ik (I.ok.hd hc) st ho hd (by omega) fun h' eb=>⟨rfl,I.turned (t':=s.toks) (fun b o hb e=>eb b o hb e) f0 f1 f3 f4 f5⟩
 self:=fun _ _ _ _ _ st h=>wpAny_pyIter_keyiter st h
section
variable {X:Cx} {tg:Expr}
def Qm (tl:TE):TI:=fun σ H R=>tl σ H fun x H1=>∃d kvs,x = .ref d/\H1 d=some (.dT kvs) /\ ∀o,R (Q7 d o kvs) (upd H1 d (.gK o (.dT kvs)))
theorem G_ {l:Expr} {tl:TE} (hl:PE X l tl):PI X tg l (Qm tl):=by
 intro pins s σ H R I h;refine cC (hl pins s σ H _ I h) fun v s1 ⟨x,H1,I1,r1,q1⟩=> ?_;obtain ⟨d,kvs,e,hH,q⟩:=q1;subst e;cases r1;obtain ⟨z,hd,xs,r,o,es,ep,ho,q2,q3,q4,q5⟩:=(show bJ X.prog X.w H1 s1.heap d (.dT kvs) from I1.hok d _ hH);refine zZ hd ho q2 q3 ?_;have If:=I1.Lw hH ho
 have K4:(upd H1 d (HO.gK o (.dT kvs))) s1.heap.objs.size=none:=by
  rw [aP (Ne.symm (Nat.ne_of_lt (Heap.lt_size ho)))];exact I1.hok.fresh (Nat.le_refl _)
 refine ⟨s1.heap.objs.size,[s1.heap.objs.size],_,_,upd H1 d (.gK o (.dT kvs)),rfl,If.kept (t':=s1.toks) fun b o e=>Heap.get?_push_of_some _ e,yR d _ o kvs es ep q3,⟨_,Heap.get?_push_size _ rfl,rfl,rfl⟩,fun b hb=> ?_,q o⟩;have e:b=s1.heap.objs.size:=by simpa using hb
 subst e;exact If.qK (Nat.le_refl _) K4
end
def Ux (H H' Ms:Hp):Prop:=∃d Ig o kvs,H d=some (.dT Ig)/\H' d=some (.gK o (.dT kvs))/\Ms=upd H' d (.dT kvs)
def Ox (t:TS):TS:=fun D σ H=>t {D with nx:=fun σ' H'=>∃Ms,Ux H H' Ms/\D.nx σ' Ms} σ H
theorem G4 {X:Cx} {st:Stmt} {t:TS} (h:PS X st t):PS X st (Ox t):=by
 intro pins s σ H D I q;refine wpAny_mono (h pins s σ H _ I q) (fun f s1 q1=> ?_) fun _ _ z=>z;cases f with
 | next=>
   obtain ⟨σ1,H1,I1,H2,⟨d,Ig,o,kvs,e1,e2,rfl⟩,q2⟩:=q1;exact ⟨σ1,_,I1.Rq e2 (I.HD e1),q2⟩
 | brk=>exact q1
 | cont=>exact q1
 | ret u=>exact q1
section
variable {d D:Addr} {o:Obj} {kvs:List (List Key×V)} {tc:TT} {te:TE} {Q:VK} {rest:St} {H1:Hp}
theorem Fd (f:Nat->Option PyData) (hf:∀i d,f i=some d->FN d=true) (hD:H1 D=none) (hq:H1 d=some (.gK o (.dT kvs))) (hx:kvs.length<=100000)
 (hs:∀i k v b H (G:Hp->Prop) (F:VK),kvs[i]? = some (k,v)->H b=some (.tup (k.map kV))->Same H1 H->(∀H',Same H H'->f i=none->G H')->(∀y d H',Same H H'->f i=some d->Dat H' y d->F y H')->tc (some (.ref b)::rest) H fun b' H3=>if b'=true then te (some (.ref b)::rest) H3 F else G H3)
 (hd:∀H vs,Same H1 H->H D=some (.lst vs)->aC H vs ((List.range kvs.length).filterMap f)->Q (.ref D) H):m7 (Q7 d o kvs) (jZ 0) tc te Q D (none::rest) H1:=by
 have Zi:∀l:List Nat,rP (l.filterMap f)=true:=fun l=>by
  induction l with
  | nil=>rfl
  | cons i l ih=>
    rw [List.filterMap_cons];cases e:f i with
    | none=>exact ih
    | some dd=>simp only [rP,hf i dd e,ih,Bool.and_self]
 refine ⟨fun i m σ H=>m=kvs.length - i/\i<=kvs.length/\(∃v,σ=v::rest)/\Same H1 H /\ ∃vs,H D=some (.lst vs)/\aC H vs ((List.range i).filterMap f),⟨kvs.length,by simp,Nat.zero_le _,⟨none,rfl⟩,aD hD,[],ak,by simp [aC]⟩, ?_⟩;rintro i m σ H ⟨rfl,hi,⟨v,rfl⟩,sm,vs,e,dd⟩
 by_cases hlt:i<kvs.length
 ·refine .inr ⟨⟨hlt,sm _ _ hq⟩,fun σ' H'=>i+1<=kvs.length/\(∃v,σ'=v::rest)/\Same H1 H' /\ ∃vs,H' D=some (.lst vs)/\aC H' vs ((List.range (i+1)).filterMap f),fun σ' H' p'=>⟨kvs.length - (i+1),by omega,rfl,p'⟩,fun x H' y=> ?_⟩
  obtain ⟨rfl,k,w,b,QF,rfl,hb⟩:=y;have im:=Zi (List.range i);refine hs i k w b _ _ _ QF hb sm (fun H3 s3 ef=>⟨hlt,⟨_,rfl⟩,sm.trans s3,vs,s3 _ _ e, ?_⟩) (fun y dy H4 s4 ef hy=> ?_)
  ·rw [dF,ef]
   simpa using aC.keep s3.tups _ im dd
  ·have hl:vs.length<=i:=by rw [dd.length];exact nR f i
   have kp:Kp D H4 (upd H4 D (.lst (vs++[y]))):=Kp.set;have tp:=kp.tups (s4 _ _ e);refine ⟨vs,s4 _ _ e, ?_,hlt,⟨_,rfl⟩,(sm.trans s4).newly hD,vs++[y],ak, ?_⟩
   ·rw [sizeLine_eq];omega
   ·rw [dF,ef]
    exact tL (aC.keep (fun a xs h=>tp _ _ (s4.tups _ _ h)) _ im dd) (Dat.keep tp _ (hf i dy ef) hy)
 ·have e':i=kvs.length:=by omega
  subst e';exact .inl ⟨⟨Nat.le_refl _,sm _ _ hq⟩,hd H vs sm e dd⟩
end
end L2
set_option Elab.async false
set_option linter.all false
set_option maxRecDepth 100000
set_option maxHeartbeats 4000000
namespace L2
open PySem PySem.Spec PyProof.Rows
section
variable {prog:Program} {w:World} {A:Around} {E:Value->Shared->Prop} {s:Shared}
theorem vL {l:Addr} {u v:Value} {Q:List Value->Shared->Prop} (hh:A.handled=none) (hl:s.heap.IsList l #[u,v]) (hQ:∀h',Heap.ExtBut s.heap.objs.size s.heap h'->Q [u,v] {s with heap:=h'}):
 wpAny (model prog w) A (unpackItems (.ref l) 2 none) Q E s:=by
 obtain ⟨o,ho,hc,hd⟩:=id hl;have ne:l≠s.heap.objs.size:=Nat.ne_of_lt (Heap.lt_size ho);unfold unpackItems notIterableAtAll;refine wpAny_bind (wpAny_bind (wpAny_specialOf (T:= "list") ⟨o,ho,hc⟩ F.slot_list_iter.lookup (wpAny_pure ?_)));simp only [Bool.false_eq_true,if_false];refine wpAny_bind (wpAny_holding (wpAny_pyIter_list hl (wpAny_bind (wpAny_holding ?_))));have l1:(s.heap.push {cls:= .type "list_iterator",data:= .fields #[.ref l,.int 0 0]}).IsList l #[u,v]:=⟨o,Heap.get?_push_of_some _ ho,hc,hd⟩;show wpAny _ _ (pyNext (.ref s.heap.objs.size) >>= _) _ _ _;refine wpAny_bind (wpAny_pyNext_list_item ⟨_,Heap.get?_push_size _ rfl,rfl,rfl⟩ l1 (x:=u) rfl fun h1 i1 b1=>wpAny_bind (wpAny_holding ?_));have l2:h1.IsList l #[u,v]:=by obtain ⟨o',ho',r⟩:=l1;exact ⟨o',(b1.2 l ne).trans ho',r⟩
 show wpAny _ _ (pyNext (.ref s.heap.objs.size) >>= _) _ _ _;refine wpAny_bind (wpAny_pyNext_list_item i1 l2 (x:=v) rfl fun h2 i2 b2=>wpAny_bind (wpAny_holding ?_));have l3:h2.IsList l #[u,v]:=by obtain ⟨o',ho',r⟩:=l2;exact ⟨o',(b2.2 l ne).trans ho',r⟩
 show wpAny _ _ (pure []) _ _ _;refine wpAny_pure (wpAny_pure (wpAny_pure ?_));rw [if_neg (by simp)];refine wpAny_bind (wpAny_holding (wpAny_pyNext_list_end hh i2 l3 rfl fun h3 e3=> ?_));simp only [Option.isSome_none,Bool.false_eq_true,if_false];exact wpAny_pure (hQ h3 fun b o hb e=>e3 b o hb ((b2.2 b hb).trans ((b1.2 b hb).trans (Heap.get?_push_of_some _ e))))
end
section
variable {X:Cx} {pos:Pos}
def TF (K:PySem.W.Frag) (t:JN):TG:=fun v σ H Q=>∃a x y,v = .ref a/\bf K H a [x,y]/\t [x,y] σ H Q
theorem Hf {K:PySem.W.Frag} {es:List Expr} {k:Nat} {t:JN} (hK:X.K=K) (hc:X.calm=true) (h:Rk X es t)
 (hn:(assignEach es X.env).length=2:=by rfl) (hst:(assignEach es X.env).findIdx? (·.1)=none:=by rfl):PG X (.Tuple es k pos) (TF K t):=by
 subst hK;intro pins s σ H v u Q I r hw;obtain ⟨a,x,y,e1,hq,hw⟩:=hw;subst e1;cases r;obtain ⟨its,rv,p,hz⟩:=I.list hq;obtain ⟨u1,u2,rfl,r1,r2⟩:=vals2 rv;rw [assign_Tuple];refine wpAny_bind (wpAny_standAt ?_);unfold unpack;rw [hn,hst];refine wpAny_bind (wpAny_holding (vL (I.ok.hd hc) p.isList fun h' hx=> ?_));have I1:Inv X pins σ H {s with heap:=h'}:=I.kept (t':=s.toks) fun b o e=>hx b o (Nat.ne_of_lt (Heap.lt_size e)) e;exact h pins _ σ H _ _ Q I1 rv hw
end
end L2
set_option Elab.async false
set_option linter.all false
set_option maxRecDepth 100000
set_option maxHeartbeats 4000000
namespace L2
open PySem PySem.Spec PyProof.Rows
section
variable {prog:Program} {w:World} {K:Type} [DecidableEq K] {knd:HeapKind prog w K} {A:Around} {E:Value->Shared->Prop} {s:Shared}
end
section
variable {X:Cx}
end
end L2
set_option Elab.async false
set_option linter.all false
set_option maxRecDepth 100000
set_option maxHeartbeats 4000000
namespace L2
open PySem PySem.Spec PyProof.Rows
section
variable {prog:Program} {w:World} {K:Type} [DecidableEq K] {knd:HeapKind prog w K} {A:Around} {E:Value->Shared->Prop} {s:Shared} {d:Addr} {xs:List (K×Addr×Value)}
end
section
variable {X:Cx} {pos:Pos} {k v a:Expr} {tk tv ta:TE}
end
end L2
namespace L2
open PySem PySem.Spec PyProof.Rows
section
variable {d:Addr} {o:Obj} {kvs:List (List Key×V)} {g:TG} {tb:TS} {D:Ends} {σ:St} {H:Hp}
end
end L2
namespace L2
open PySem PySem.Spec PyProof.Rows
section
variable {X:Cx}
end
end L2
set_option Elab.async false
set_option linter.all false
set_option maxRecDepth 100000
set_option maxHeartbeats 4000000
namespace L2
open PySem PySem.Spec PyProof.Rows
section
variable {prog:Program} {w:World} {A:Around} {E:Value->Shared->Prop} {s:Shared}
theorem sV {h:Heap} {a:Addr} (l:h.objs.size<=a):h.get? a=none:=by
 cases e:h.get? a with
 | none=>rfl
 | some q=>exact absurd (Heap.lt_size e) (Nat.not_lt.mpr l)
end
section
variable {X:Cx}
variable {pos:Pos} {k v:Expr} {tk tv:TE}
end
end L2
set_option Elab.async false
set_option linter.all false
set_option maxRecDepth 100000
set_option maxHeartbeats 4000000
namespace L2
open PySem PySem.Spec PyProof.Rows PySem.W
section
variable {prog:Program} {w:World} {A:Around} {E:Value->Shared->Prop} {s:Shared} {d r:Addr} {o:Obj} {es:Array DictEntry} {ep:Nat}
end
end L2
namespace Tim
open PySem PySem.W PyProof.Rows
section
variable {prog:Program} {w:World} {A:Around} {E:Value->Shared->Prop} {s:Shared} {T:String} {r d:Addr} {n:Nat} {P:Nat->Value->Prop} {OK:Heap->Prop}
theorem zc {Q:Value->Shared->Prop} (S:KdlSrc prog w T r d n P OK) (hh:A.handled=none) (hok:OK s.heap) (hn:n<=sizeLine)
 (h:∀(vs:List Value) (tk:Nat),vs.length=n->(∀i v,vs[i]? = some v->P i v) -> ∃(κ:SortKind) (rk:Value->Nat),
   (2<=vs.length -> ∀h':Heap,(∀b o,s.heap.get? b=some o->h'.get? b=some o)->(∀(Q:SortKind->Shared->Prop) (E:Value->Shared->Prop),Q κ {s with heap:=h',toks:=tk}->wpAny (model prog w) A.in1.in1 (keyKind' vs.toArray) Q E {s with heap:=h',toks:=tk})/\yL prog w A.in1.in1 {s with heap:=h',toks:=tk} κ (pairsOf vs) rk) /\
   ∀(h0 h':Heap) (D:Addr) (c:Nat) (out:List Value),(∀b o,s.heap.get? b=some o->h0.get? b=some o)->(∀b o,h0.get? b=some o->h'.get? b=some o)->h0.objs.size<=D->h'.get? D=some (seqObj "list" out.toArray c)->out.Perm vs->out.Pairwise (fun x y=>rk x<=rk y)->Q (.ref D) {s with heap:=h',toks:=tk}):
 wpAny (model prog w) A (call (.builtin "sorted") [.ref r]) Q E s:=by
 refine Calls.call_function_entry kind_sorted plain_sorted entry_sorted (args_sorted1 _) ?_;unfold Builtin.«sorted»;refine wpAny_bind (m:=checkCount "sorted" 1 1 _) (wpAny_pure ?_);refine wpAny_bind (kdu_collect S (show A.in1.handled=none from hh) hok hn fun h0 tk acc Im hacc=> ?_);obtain ⟨κ,rk,hk,fin⟩:=h acc.toList tk (by rw [Array.length_toList];exact hacc.1) fun i v e=>hacc.2 i v (by rw [←Array.getElem?_toList];exact e);have hz:acc.toList.length<=sizeLine:=by rw [Array.length_toList,hacc.1];exact hn
 generalize acc.toList=vs at hk fin hz ⊢;refine wpAny_bind (wpAny_newList ?_ hz);have lt0:∀b o,h0.get? b=some o->b<h0.objs.size:=fun b o e=>Heap.lt_size e;have hoL:(h0.push (seqObj "list" vs.toArray 0)).get? h0.objs.size=some (seqObj "list" vs.toArray 0):=Heap.get?_push_size _ rfl;have keep:∀b o,h0.get? b=some o->(h0.push (seqObj "list" vs.toArray 0)).get? b=some o:=fun b o q=>Heap.get?_push_of_some _ q;show wpAny _ _ _ _ _ {s with heap:=h0.push (seqObj "list" vs.toArray 0),toks:=tk};generalize h0.push (seqObj "list" vs.toArray 0)=h1 at keep hoL ⊢;have le0:=Nat.le_refl h0.objs.size;generalize e0:h0.objs.size=Dl at hoL lt0 ⊢;rw [e0] at le0;have nD:∀b o,h0.get? b=some o->b≠Dl:=fun b o e=>Nat.ne_of_lt (lt0 b o e);refine wpAny_bind (wpAny_holding (wpAny_call_entry slot_list_sort ⟨_,hoL,rfl⟩ entry_list_sort (lJ (s:={s with heap:=h1,toks:=tk}) hoL hz (fun h2 h' kp=>hk h2 h' fun b o e=>kp b o (nD b o (Im b o e)) (keep b o (Im b o e))) fun out p1 p2=>⟨_,rfl, ?_⟩) (args_list_sort _)));refine wpAny_pure ⟨_,rfl, ?_⟩;obtain ⟨e1,ho1⟩:∃e1,(h1.update Dl (Obj.mapSeq fun _=> #[])).get? Dl=some (seqObj "list" #[] e1):=⟨_,get?_update_seq hoL (fun _=> #[])⟩;have ho2:(((h1.update Dl (Obj.mapSeq fun _=> #[])).push (seqObj "tuple" vs.toArray 0)).push (seqObj "list" #[] 0)).get? Dl=some (seqObj "list" #[] e1):=Heap.get?_push_of_some _ (Heap.get?_push_of_some _ ho1);refine fin h0 (sortedHeap h1 Dl vs out.toArray) Dl _ out Im (fun b o e=> ?_) (Nat.le_of_eq e0) (by unfold sortedHeap;exact get?_update_seq ho2 (fun _=>out.toArray)) p1 p2;unfold sortedHeap;rw [Heap.get?_update_ne _ _ _ _ (nD b o e)];refine Heap.get?_push_of_some _ (Heap.get?_push_of_some _ ?_);rw [Heap.get?_update_ne _ _ _ _ (nD b o e)];exact keep b o e
end
end Tim
namespace L2
open PySem PySem.Spec PyProof.Rows PySem.W
section
variable {prog:Program} {w:World} {d:Addr}
end
section
variable {X:Cx}
end
end L2
set_option Elab.async false
set_option linter.all false
set_option maxRecDepth 100000
set_option maxHeartbeats 1000000
namespace L2
open PySem
def tE:Nat->Nat->Nat
 | 0,x=>x
 | n+1,x=>tE n (5*x+1)
theorem Cp:∀(n m x:Nat),tE (n+m) x=tE m (tE n x)
 | 0,m,x=>by rw [Nat.zero_add];rfl
 | n+1,m,x=>by rw [Nat.succ_add];exact Cp n m (5*x+1)
theorem xr:∀(n x:Nat),4*tE n x+1=5 ^ n*(4*x+1)
 | 0,x=>by simp [tE]
 | n+1,x=>by
   have h:=xr n (5*x+1);have e:4*(5*x+1)+1=5*(4*x+1):=by omega
   rw [e,←Nat.mul_assoc,←Nat.pow_succ] at h;exact h
theorem uT (m:Nat):∀(n x:Nat),tE n (x % m) % m=tE n x % m
 | 0,x=>by simp [tE]
 | n+1,x=>by
   show tE n (5*(x % m)+1) % m=tE n (5*x+1) % m;rw [←uT m n (5*(x % m)+1),←uT m n (5*x+1)];congr 2;rw [Nat.add_mod,Nat.mul_mod,Nat.mod_mod,←Nat.mul_mod,←Nat.add_mod]
theorem R0:∀k:Nat,∃u,5 ^ (2 ^ k)=1+4*2 ^ k*(2*u+1)
 | 0=>⟨0,rfl⟩
 | k+1=>by
   obtain ⟨u,h⟩:=R0 k;refine ⟨u+2 ^ k*(2*u+1)*(2*u+1), ?_⟩;rw [Nat.pow_succ,Nat.pow_mul,h];generalize 2 ^ k=P
   grind
theorem half (k x:Nat):∃v,tE (2 ^ k) x=x+2 ^ k*(2*v+1):=by
 obtain ⟨u,h⟩:=R0 k;have f:=xr (2 ^ k) x;rw [h] at f;refine ⟨u*(4*x+1)+2*x, ?_⟩;generalize tE (2 ^ k) x=y at f ⊢;generalize 2 ^ k=P at f ⊢;have e:(1+4*P*(2*u+1))*(4*x+1)=4*(x+P*(2*(u*(4*x+1)+2*x)+1))+1:=by grind
 rw [e] at f;omega
theorem cover:∀(k x j:Nat),j<2 ^ k -> ∃n,n<2 ^ k/\tE n x % 2 ^ k=j
 | 0,x,j,h=>⟨0,by decide,by simp at h;subst h;simp [Nat.mod_one]⟩
 | k+1,x,j,h=>by
   have hp:0<2 ^ k:=Nat.pow_pos (by decide);obtain ⟨n,hn,e⟩:=cover k x (j % 2 ^ k) (Nat.mod_lt _ hp);rw [Nat.pow_succ] at h ⊢;generalize hP:2 ^ k=P at *;have hj:j % P+P*(j / P % 2)=j:=by rw [←Nat.mod_mul,Nat.mod_eq_of_lt h]
   by_cases q:tE n x / P % 2=j / P % 2
   ·refine ⟨n,by omega, ?_⟩
    rw [Nat.mod_mul,e,q,hj]
   ·refine ⟨n+P,by omega, ?_⟩
    obtain ⟨v,hv⟩:=half k (tE n x);rw [hP] at hv;rw [Cp,hv,Nat.mod_mul,Nat.add_mul_mod_self_left,e,Nat.add_mul_div_left _ _ hp];have:(tE n x / P+(2*v+1)) % 2=j / P % 2:=by omega
    rw [this,hj]
def lps (mask:Nat):Nat->Nat×Nat->Nat×Nat
 | 0,s=>s
 | n+1,s=>lps mask n (SetTable.leap mask s.1 s.2)
theorem Cd (mask:Nat):∀(n m:Nat) (s:Nat×Nat),lps mask (n+m) s=lps mask m (lps mask n s)
 | 0,m,s=>by rw [Nat.zero_add];rfl
 | n+1,m,s=>by rw [Nat.succ_add];exact Cd mask n m _
theorem H_ (mask:Nat):∀(n:Nat) (s:Nat×Nat),s.1<=mask->(lps mask n s).1<=mask
 | 0,s,h=>h
 | n+1,s,_=>H_ mask n _ (Nat.le_of_lt_succ (Nat.mod_lt _ (Nat.succ_pos _)))
theorem wV (mask:Nat):∀(n:Nat) (s:Nat×Nat),(lps mask n s).2=s.2 / 32 ^ n
 | 0,s=>by simp [lps]
 | n+1,s=>by
   show (lps mask n _).2=_;rw [wV mask n];show s.2 / 32 / 32 ^ n=_;rw [Nat.div_div_eq_div_mul,Nat.pow_succ,Nat.mul_comm]
theorem wU (mask:Nat):∀(n i:Nat),i<=mask->lps mask n (i,0)=(tE n i % (mask+1),0)
 | 0,i,h=>by simp [lps,tE,Nat.mod_eq_of_lt (Nat.lt_succ_of_le h)]
 | n+1,i,h=>by
   show lps mask n ((i*5+1+0 / 32) % (mask+1),0 / 32)=_;rw [Nat.zero_div,Nat.add_zero,wU mask n _ (Nat.le_of_lt_succ (Nat.mod_lt _ (Nat.succ_pos _))),uT];show _=(tE n (5*i+1) % (mask+1),0);rw [Nat.mul_comm 5 i]
theorem reach {mask k:Nat} (hm:mask+1=2 ^ k) {i p j:Nat} (hi:i<=mask) (hp:p<2 ^ 64) (hj:j<=mask):∃n,n<=mask+13/\(lps mask n (i,p)).1=j:=by
 have h0:(lps mask 13 (i,p)).2=0:=by
  rw [wV];exact Nat.div_eq_of_lt (Nat.lt_of_lt_of_le hp (by decide))
 have h1:=H_ mask 13 (i,p) hi;obtain ⟨n,hn,e⟩:=cover k (lps mask 13 (i,p)).1 j (by omega);refine ⟨13+n,by omega, ?_⟩;rw [Cd];have e2:lps mask 13 (i,p)=((lps mask 13 (i,p)).1,0):=by rw [←h0]
 rw [e2,wU mask n _ h1,hm];exact e
end L2
set_option Elab.async false
set_option linter.all false
set_option maxRecDepth 100000
set_option maxHeartbeats 1000000
namespace L2
open PySem
theorem sub_len {α:Type} [DecidableEq α]:∀{l m:List α},l.Nodup->(∀x∈l,x∈m)->l.length<=m.length
 | [],m,_,_=>Nat.zero_le _
 | x::l,m,nd,h=>by
   have hx:=h x (.head _);obtain ⟨n1,n2⟩:=List.nodup_cons.mp nd;have:=sub_len (l:=l) (m:=m.erase x) n2 fun y hy=>(List.mem_erase_of_ne (fun (e:y=x)=>n1 (by rw [←e];exact hy))).mpr (h y (.tail _ hy));rw [List.length_erase_of_mem hx] at this;have:0<m.length:=List.length_pos_of_mem hx;rw [List.length_cons];omega
section
variable {t:SetTable}
theorem pZ (hd:t.dummies = #[]) (j:Nat):t.slot j ≠ .dummy:=by
 unfold SetTable.slot;dsimp only;split
 ·intro h;cases h
 ·rw [hd]
  have:SetTable.has #[] j=false:=rfl;rw [this];intro h;cases h
theorem sE {j i:Nat} (h:t.slot j = .live i):t.place[i]? = some j:=by
 unfold SetTable.slot at h;dsimp only at h;split at h
 ·rename_i q
  cases h;exact eq_of_beq q
 ·split at h<;>cases h
theorem Eu (hd:t.dummies = #[]) (hs:t.place.size<=t.mask):∃j,j<=t.mask/\t.slot j = .empty:=by
 refine Classical.byContradiction fun no=> ?_
 have all:∀j∈List.range (t.mask+1),j∈t.place.toList:=fun j hj=>by
  have hj:j<=t.mask:=Nat.le_of_lt_succ (List.mem_range.mp hj);cases e:t.slot j with
  | empty=>exact absurd ⟨j,hj,e⟩ no
  | dummy=>exact absurd e (pZ hd j)
  | live i=>
    have q:=sE e;rw [←Array.getElem?_toList] at q;exact List.mem_of_getElem? q
 have:=sub_len List.nodup_range all;rw [List.length_range,Array.length_toList] at this;omega
inductive gH (t:SetTable):Nat->SetTable.Probe->Prop
 | here {d:Nat} {p:SetTable.Probe}:t.slot p.j = .empty->gH t d p
 | next {d:Nat} {p:SetTable.Probe}:gH t d (t.advance p)->gH t (d+1) p
theorem gH.mono {d e:Nat} {p:SetTable.Probe} (h:gH t d p) (le:d<=e):gH t e p:=by
 induction h generalizing e with
 | here q=>exact .here q
 | next _ ih=>
   cases e with
   | zero=>omega
   | succ e=>exact .next (ih (by omega))
theorem Iw (hd:t.dummies = #[]) (f:Nat->Int) (h:Int):∀(fuel d:Nat) (p:SetTable.Probe),gH t d p->d<fuel->p.dummy=none ->
 ∃met,SetTable.probe.go t f h fuel p=some met/\((∃j,met = .empty j none/\t.slot j = .empty) \/ ∃j i q d',met = .candidate j i q/\d'<d/\gH t d' q/\q.dummy=none/\t.slot j = .live i)
 | 0,d,p,_,lt,_=>absurd lt (Nat.not_lt_zero _)
 | fuel+1,d,p,r,lt,nd=>by
   have adv:(t.advance p).dummy=none:=by
    unfold SetTable.advance;split
    ·exact nd
    ·exact nd
   unfold SetTable.probe.go;cases e:t.slot p.j with
   | empty=>exact ⟨_,rfl,.inl ⟨p.j,by rw [nd],e⟩⟩
   | dummy=>exact absurd e (pZ hd _)
   | live i=>
     cases r with
     | here q=>rw [e] at q;cases q
     | @next d' _ r=>
       dsimp only;split
       ·exact ⟨_,rfl,.inr ⟨p.j,i,_,d',rfl,Nat.lt_succ_self _,r,adv,e⟩⟩
       ·obtain ⟨met,a,b⟩:=Iw hd f h fuel d' _ r (by omega) adv
        refine ⟨met,a, ?_⟩;rcases b with b|⟨j,i,q,d'',b1,b2,b3⟩
        ·exact .inl b
        ·exact .inr ⟨j,i,q,d'',b1,by omega,b3⟩
theorem Bg (mask i:Nat):SetTable.runEnd mask i - i<=9:=by
 unfold SetTable.runEnd;split<;>omega
theorem qg {j0:Nat} (e0:t.slot j0 = .empty):∀(n m:Nat) (p:SetTable.Probe),p.more=m->(lps t.mask n (SetTable.leap t.mask p.i p.perturb)).1=j0->gH t (m+1+10*n) p
 | n,m+1,p,hm,h=>by
   refine (gH.next (d:=m+1+10*n) ?_).mono (by omega);have e:t.advance p={p with j:=p.j+1,more:=p.more - 1}:=by unfold SetTable.advance;rw [if_pos (by omega)]
   rw [e];exact qg e0 n m _ (by show p.more - 1=m;omega) h
 | 0,0,p,hm,h=>by
   refine (gH.next (d:=0) ?_).mono (by omega);refine .here ?_;have e:(t.advance p).j=(SetTable.leap t.mask p.i p.perturb).1:=by unfold SetTable.advance;rw [if_neg (by omega)]
   rw [e,show (SetTable.leap t.mask p.i p.perturb).1=j0 from h];exact e0
 | n+1,0,p,hm,h=>by
   have e:t.advance p={p with j:=(SetTable.leap t.mask p.i p.perturb).1,more:=SetTable.runEnd t.mask (SetTable.leap t.mask p.i p.perturb).1 - (SetTable.leap t.mask p.i p.perturb).1,i:=(SetTable.leap t.mask p.i p.perturb).1,perturb:=(SetTable.leap t.mask p.i p.perturb).2}:=by unfold SetTable.advance;rw [if_neg (by omega)]
   have r:=qg e0 n _ (t.advance p) rfl (by rw [e];exact h);refine (gH.next (r.mono (e:=10*(n+1)) ?_)).mono (by omega);rw [e];have:=Bg t.mask (SetTable.leap t.mask p.i p.perturb).1;show SetTable.runEnd t.mask (SetTable.leap t.mask p.i p.perturb).1 - (SetTable.leap t.mask p.i p.perturb).1+1+10*n<=_;omega
termination_by n m=>(n,m)
theorem DG {k:Nat} (hm:t.mask+1=2 ^ k) (hd:t.dummies = #[]) (hs:t.place.size<=t.mask) (h:Int):gH t (10*(t.mask+14)) (t.probeStart h)/\(t.probeStart h).dummy=none:=by
 obtain ⟨j0,hj,e0⟩:=Eu hd hs;have hb:SetTable.bits h<2 ^ 64:=by unfold SetTable.bits;omega
 have hl:(SetTable.leap t.mask (t.probeStart h).i (t.probeStart h).perturb).1<=t.mask:=Nat.le_of_lt_succ (Nat.mod_lt _ (Nat.succ_pos _));have hp:(SetTable.leap t.mask (t.probeStart h).i (t.probeStart h).perturb).2<2 ^ 64:=Nat.lt_of_le_of_lt (Nat.div_le_self _ _) hb;obtain ⟨n,hn,e⟩:=reach hm hl hp hj;have few:(t.probeStart h).more<=9:=Bg _ _;exact ⟨(qg e0 n _ _ rfl e).mono (by omega),rfl⟩
end
theorem Cr {owner:Array (Option Nat)} {mask:Nat}:∀(n fuel i p:Nat),n<fuel->owner[(lps mask n (i,p)).1]? = some none -> ∃j,SetTable.layClean.free mask owner fuel i p=some j/\owner[j]? = some none
 | n,0,i,p,lt,_=>absurd lt (Nat.not_lt_zero _)
 | n,fuel+1,i,p,lt,h=>by
   unfold SetTable.layClean.free;cases e:(List.range (SetTable.runEnd mask i+1 - i)).find? fun k=>(owner.getD (i+k) (some 0)).isNone with
   | some k=>
     refine ⟨i+k,rfl, ?_⟩;have q:=List.find?_some e;rw [Array.getD_eq_getD_getElem?] at q;cases e2:owner[i+k]? with
     | none=>rw [e2] at q;cases q
     | some o=>rw [e2] at q;cases o with
       | none=>rfl
       | some x=>cases q
   | none=>
     cases n with
     | zero=>
       exfalso;have h0:(0:Nat)∈List.range (SetTable.runEnd mask i+1 - i):=List.mem_range.mpr (by unfold SetTable.runEnd;split<;>omega);have q:=List.find?_eq_none.mp e 0 h0;apply q;rw [Array.getD_eq_getD_getElem?];have h:owner[i]? = some none:=h;show ((owner[i+0]?).getD (some 0)).isNone=true;rw [Nat.add_zero,h];rfl
     | succ n=>
       exact Cr n fuel _ _ (by omega) h
theorem Gx {l:List (Option Nat)} {j k:Nat} (h:l[j]? = some none):((l.set j (some k)).filterMap id).Perm (l.filterMap id++[k]):=by
 have hl:j<l.length:=(List.getElem?_eq_some_iff.mp h).1
 have e:l=l.take j++none::l.drop (j+1):=by
  have h1:=(List.take_append_drop j l).symm;rw [List.drop_eq_getElem_cons hl] at h1;have h2:l[j]=none:=(List.getElem?_eq_some_iff.mp h).2;rw [h2] at h1;exact h1
 have e2:l.set j (some k)=l.take j++some k::l.drop (j+1):=by
  rw [List.set_eq_take_append_cons_drop,if_pos hl]
 rw [e2]
 conv=>rhs;rw [e]
 simp only [List.filterMap_append,List.filterMap_cons,id];rw [List.append_assoc];exact List.Perm.append_left _ (List.perm_append_singleton k _).symm
theorem K1 {l:List (Option Nat)} {k:Nat} (h:(l.filterMap id).Perm (List.range k)) (lt:k<l.length):∃j:Nat,l[j]? = some none:=by
 refine Classical.byContradiction fun no=> ?_
 have all:∀l:List (Option Nat),(∀j:Nat,l[j]? ≠ some none)->(l.filterMap id).length=l.length:=by
  intro l
  induction l with
  | nil=>intro _;rfl
  | cons x l ih=>
    intro h;cases x with
    | none=>exact absurd rfl (h 0)
    | some x=>
      simp only [List.filterMap_cons,id,List.length_cons];rw [ih fun j=>h (j+1)]
 have a:=all l fun j e=>no ⟨j,e⟩;rw [h.length_eq,List.length_range] at a;omega
def mK (mask:Nat):Option (Array (Option Nat)×Nat)->Int->Option (Array (Option Nat)×Nat):=fun acc h=>do
 let (owner,k) ←acc
 let j ←SetTable.layClean.free mask owner (SetTable.turns mask) (SetTable.bits h % (mask+1)) (SetTable.bits h)
 pure (owner.setIfInBounds j (some k),k+1)
theorem Ia {mask e:Nat} (hm:mask+1=2 ^ e):∀(hs:List Int) (owner:Array (Option Nat)) (k:Nat),owner.size=mask+1->(owner.toList.filterMap id).Perm (List.range k)->k+hs.length<=mask ->
 ∃o',hs.foldl (mK mask) (some (owner,k))=some (o',k+hs.length)/\o'.size=mask+1/\(o'.toList.filterMap id).Perm (List.range (k+hs.length))
 | [],owner,k,h1,h2,_=>⟨owner,rfl,h1,h2⟩
 | h::hs,owner,k,h1,h2,h3=>by
   rw [List.length_cons] at h3;obtain ⟨j0,e0⟩:=K1 h2 (by rw [Array.length_toList];omega);rw [Array.getElem?_toList] at e0;have j0l:j0<owner.size:=(Array.getElem?_eq_some_iff.mp e0).1;have hb:SetTable.bits h<2 ^ 64:=by unfold SetTable.bits;omega
   obtain ⟨n,hn,q⟩:=reach hm (i:=SetTable.bits h % (mask+1)) (p:=SetTable.bits h) (j:=j0) (Nat.le_of_lt_succ (Nat.mod_lt _ (Nat.succ_pos _))) hb (by omega);obtain ⟨j,f1,f2⟩:=Cr (owner:=owner) (mask:=mask) n (SetTable.turns mask) _ _ (by unfold SetTable.turns;omega) (by rw [q];exact e0)
   have st:mK mask (some (owner,k)) h=some (owner.setIfInBounds j (some k),k+1):=by
    unfold mK;simp only [Option.bind_eq_bind,Option.bind_some,f1];rfl
   rw [List.foldl_cons,st]
   obtain ⟨o',a,b,c⟩:=Ia hm hs (owner.setIfInBounds j (some k)) (k+1) (by simp [h1]) (by
    rw [Array.toList_setIfInBounds];rw [←Array.getElem?_toList] at f2;exact (Gx f2).trans ((h2.append_right _).trans (by rw [List.range_succ]))) (by omega)
   refine ⟨o', ?_,b, ?_⟩
   ·rw [a,List.length_cons];congr 2;omega
   ·rw [List.length_cons,show k+(hs.length+1)=k+1+hs.length by omega];exact c
theorem wg:∀l:List (Option Nat),(List.range l.length).filterMap (fun j=>(l[j]?).getD none)=l.filterMap id
 | []=>rfl
 | x::l=>by
   rw [List.length_cons,List.range_succ_eq_map,List.filterMap_cons,List.filterMap_map,List.filterMap_cons];have e:List.filterMap ((fun j=>((x::l)[j]?).getD none)∘Nat.succ) (List.range l.length)=l.filterMap id:=by rw [←wg l];rfl
   rw [e];rfl
theorem K9 {mask e finger moves:Nat} {led plain:Bool} (hm:mask+1=2 ^ e) (hs:Array Int) (hl:hs.size<=mask):
 ∃t' order,SetTable.laid mask finger moves led plain hs=some (t',order)/\t'.mask=mask/\t'.dummies = #[]/\t'.place.size=hs.size/\t'.led=led/\t'.plain=plain/\t'.place.toList.Pairwise (· < ·)/\order.toList.Perm (List.range hs.size):=by
 obtain ⟨o',a,b,c⟩:=Ia hm hs.toList (Array.replicate (mask+1) none) 0 (by simp) (by
  have:∀n,(List.replicate n (none:Option Nat)).filterMap id=[]:=by
   intro n
   induction n with
   | zero=>rfl
   | succ n ih=>rw [List.replicate_succ,List.filterMap_cons];exact ih
  rw [Array.toList_replicate,this];exact List.Perm.refl _) (by rw [Array.length_toList];omega)
 have lc:SetTable.layClean mask hs=some o':=by
  unfold SetTable.layClean;rw [←Array.foldl_toList];have:hs.toList.foldl (mK mask) (some (Array.replicate (mask+1) none,0))=some (o',0+hs.toList.length):=a;unfold mK at this;rw [this];rfl
 have e2:(List.range (mask+1)).filterMap (fun j=>o'.getD j none)=o'.toList.filterMap id:=by
  rw [←wg,Array.length_toList,b];congr 1;funext j;rw [Array.getD_eq_getD_getElem?,Array.getElem?_toList]
 have e3:((List.range (mask+1)).filterMap fun j=>(o'.getD j none).map (j,·)).map (·.2)=o'.toList.filterMap id:=by
  rw [←e2,List.map_filterMap];congr 1;funext j;cases o'.getD j none<;>rfl
 rw [Nat.zero_add,Array.length_toList] at c;refine ⟨_,_,by unfold SetTable.laid;rw [lc];rfl,rfl,rfl, ?_,rfl,rfl, ?_, ?_⟩
 ·have:=congrArg List.length e3
  rw [List.length_map,c.length_eq,List.length_range] at this;simpa using this
 ·dsimp only
  rw [List.pairwise_map];refine List.Pairwise.filterMap _ (fun {x y} lt u hu v hv=> ?_) List.pairwise_lt_range;cases ex:o'.getD x none with
  | none=>rw [ex] at hu;cases hu
  | some p=>
    cases ey:o'.getD y none with
    | none=>rw [ey] at hv;cases hv
    | some q=>
      rw [ex] at hu;rw [ey] at hv;cases hu;cases hv;exact lt
 ·dsimp only
  rw [e3];exact c
end L2
set_option Elab.async false
set_option linter.all false
set_option maxRecDepth 100000
set_option maxHeartbeats 1000000
namespace L2
open PySem PySem.Spec PyProof.Rows
section
variable {prog:Program} {w:World} {A:Around} {E:Value->Shared->Prop} {s:Shared}
abbrev lE (prog:Program) (w:World):HeapKind prog w (List Int):=tupleKind (intKind prog w)
theorem items_int {ks:List Int} {vs:List Value} (h:ItemsAre (intKind prog w) ks vs):∀v∈vs,∃n t,v=Value.int n t:=by
 induction h with
 | nil=>intro v hv;cases hv
 | @cons k v' ks vs h1 _ ih=>
   intro v hv;rcases List.mem_cons.mp hv with rfl|hv
   ·obtain ⟨t,rfl⟩:=Value.isInt_shape h1
    exact ⟨_,t,rfl⟩
   ·exact ih v hv
theorem Jk {ks:List Int} {a:Addr} {Q:Bool->Shared->Prop} (hk:(lE prog w).is s.heap ks a) (h:Q true s):wpAny (model prog w) A (hashByValue 8 (.ref a)) Q E s:=by
 have hT:=IsTupleKey.typeIs hk;obtain ⟨o,items,n,ho,_,hd,hi⟩:=hk;unfold hashByValue;refine wpAny_bind (wpAny_specialOf hT F.slot_tuple_hash.lookup ?_);show wpAny _ _ (seqItems? (.ref a) >>= _) _ _ s;refine wpAny_bind (wpAny_seqItems ho hd ?_);refine wpAny_bind ?_;show wpAny _ _ (forIn items _ _) _ _ s;rw [←Array.forIn_toList];refine wpAny_forIn_list _ (fun rest r s'=>r.1=none/\s'=s /\ ∀v∈rest,∃n t,v=Value.int n t) _ ?_ ?_ _ _ ⟨rfl,rfl,items_int hi⟩
 ·rintro v rest r s' ⟨hr,rfl,hall⟩
  obtain ⟨m,t,rfl⟩:=hall v (.head _);refine wpAny_bind (wpAny_of_eq (show hashByValue 7 (.int m t)=pure true from rfl) ?_);exact wpAny_pure ⟨rfl,rfl,fun u hu=>hall u (.tail _ hu)⟩
 ·rintro ⟨r1,r2⟩ s' ⟨hr,rfl,_⟩
  simp only at hr;subst hr;exact wpAny_pure h
theorem wJ {ks:List Int} {a:Addr} {Q:Bool->Shared->Prop} (hk:(lE prog w).is s.heap ks a) (h:Q false s):wpAny (model prog w) A (ofAClassStatement 8 (.ref a)) Q E s:=by
 have hT:=IsTupleKey.typeIs hk;obtain ⟨o,items,n,ho,_,hd,hi⟩:=hk;unfold ofAClassStatement;refine wpAny_bind (wpAny_typeOf hT ?_);dsimp only;rw [if_pos (by decide)];refine wpAny_bind (wpAny_pure ?_);simp only [Bool.not_true,Bool.false_eq_true,if_false];refine wpAny_bind (wpAny_seqItems ho hd ?_);dsimp only;refine wpAny_bind ?_;show wpAny _ _ (forIn items _ _) _ _ s;rw [←Array.forIn_toList];refine wpAny_forIn_list _ (fun rest r s'=>r.1=none/\s'=s /\ ∀v∈rest,∃n t,v=Value.int n t) _ ?_ ?_ _ _ ⟨rfl,rfl,items_int hi⟩
 ·rintro v rest r s' ⟨hr,rfl,hall⟩
  obtain ⟨m,t,rfl⟩:=hall v (.head _);refine wpAny_bind (wpAny_of_eq (show ofAClassStatement 7 (.int m t)=pure false from rfl) ?_);exact wpAny_pure ⟨rfl,rfl,fun u hu=>hall u (.tail _ hu)⟩
 ·rintro ⟨r1,r2⟩ s' ⟨hr,rfl,_⟩
  simp only at hr;subst hr;exact wpAny_pure h
theorem N_ {ks:List Int} {a:Addr} {Q:Bool->Shared->Prop} (hk:(lE prog w).is s.heap ks a) (l:List Value) (hl:∀v∈l,∃b js,v = .ref b/\(lE prog w).is s.heap js b) (h:Q false s):wpAny (model prog w) A (searchCouldBeSeen (.ref a) l) Q E s:=by
 unfold searchCouldBeSeen;refine wpAny_bind ?_;refine wpAny_forIn_list _ (fun rest r s'=>r.1=none/\s'=s /\ ∀v∈rest,∃b js,v = .ref b/\(lE prog w).is s.heap js b) _ ?_ ?_ _ _ ⟨rfl,rfl,hl⟩
 ·rintro v rest r s' ⟨hr,rfl,hall⟩
  obtain ⟨b,js,rfl,hb⟩:=hall v (.head _);dsimp only;split
  ·exact wpAny_pure ⟨rfl,rfl,fun u hu=>hall u (.tail _ hu)⟩
  ·refine wpAny_bind ((lE prog w).quiet hk ?_)
   simp only [Bool.not_true,Bool.false_eq_true,if_false];refine wpAny_bind ((lE prog w).quiet hb ?_);simp only [Bool.not_true,Bool.false_eq_true,if_false];refine wpAny_bind (wJ hk ?_);simp only [Bool.false_eq_true,if_false];refine wpAny_bind (wJ hb ?_);simp only [Bool.false_eq_true,if_false];exact wpAny_pure ⟨rfl,rfl,fun u hu=>hall u (.tail _ hu)⟩
 ·rintro ⟨r1,r2⟩ s' ⟨hr,rfl,_⟩
  simp only at hr;subst hr;exact wpAny_pure h
def vo (mask n:Nat):Prop:=(mask=7/\n<=4)\/(mask=31/\n<=18)\/(mask=127/\n<=76)\/(mask=511/\n<=306)\/(mask=2047/\n<=1228)\/(mask=8191/\n<=4914)
structure TabOk (t:SetTable) (n:Nat):Prop where
 dm:t.dummies = #[]
 pl:t.place.size=n
 sz:vo t.mask n
 plain:t.plain=true
 WW:t.place.toList.Pairwise (· < ·)
theorem vo.pow {mask n:Nat} (h:vo mask n):(∃k,mask+1=2 ^ k)/\n<=mask/\mask<=8191/\mask % 2=1:=by
 rcases h with ⟨rfl,h⟩|⟨rfl,h⟩|⟨rfl,h⟩|⟨rfl,h⟩|⟨rfl,h⟩|⟨rfl,h⟩
 ·exact ⟨⟨3,by decide⟩,by omega,by omega,by decide⟩
 ·exact ⟨⟨5,by decide⟩,by omega,by omega,by decide⟩
 ·exact ⟨⟨7,by decide⟩,by omega,by omega,by decide⟩
 ·exact ⟨⟨9,by decide⟩,by omega,by omega,by decide⟩
 ·exact ⟨⟨11,by decide⟩,by omega,by omega,by decide⟩
 ·exact ⟨⟨13,by decide⟩,by omega,by omega,by decide⟩
theorem TabOk.fits {t:SetTable} {n:Nat} (h:TabOk t n):t.fits n=true:=by
 unfold SetTable.fits SetTable.fill;rw [h.dm,h.pl];have:=h.sz.pow.2.1;simp;omega
abbrev EK:=List Int×Addr
def QG (prog:Program) (w:World) (x:EK):Int×Value:=((lE prog w).hash x.1,.ref x.2)
structure nZ (prog:Program) (w:World) (h:Heap) (a:Addr) (o:Obj) (es:Array (Int×Value)) (ep:Nat) (t:SetTable) (xs:List EK):Prop where
 at_:h.get? a=some o
 ex:o.ExactSet
 dat:o.data = .set es ep t
 els:es.toList=xs.map (QG prog w)
 is_:∀x∈xs,(lE prog w).is h x.1 x.2
 tab:TabOk t es.size
def UL (t:SetTable) (d:Nat) (met:SetTable.Met):Prop:=(∃j,met = .empty j none/\t.slot j = .empty) \/ ∃j i q d',met = .candidate j i q/\d'<d/\gH t d' q/\q.dummy=none/\t.slot j = .live i
theorem zF {t:SetTable} {d:Nat} {h:Int} {p:SetTable.Probe} (hd:t.dummies = #[]) (r:gH t d p) (le:d<=10*(t.mask+14)) (nd:p.dummy=none) {f:Nat->Int} (e:∀met,t.probe f h p=some met->False):False:=by
 obtain ⟨met,g1,_⟩:=Iw hd f h (10*SetTable.turns t.mask) d p r (by unfold SetTable.turns;omega) nd;exact e met g1
theorem zE {t:SetTable} {d:Nat} {h:Int} {p:SetTable.Probe} (hd:t.dummies = #[]) (r:gH t d p) (le:d<=10*(t.mask+14)) (nd:p.dummy=none) {f:Nat->Int} {met:SetTable.Met} (e:t.probe f h p=some met):UL t d met:=by
 obtain ⟨met',g1,g2⟩:=Iw hd f h (10*SetTable.turns t.mask) d p r (by unfold SetTable.turns;omega) nd;unfold SetTable.probe at e;rw [g1] at e;cases e;exact g2
theorem Du {a:Addr} {o:Obj} {es:Array (Int×Value)} {ep:Nat} {t:SetTable} {xs:List EK} {k:List Int} {x:Addr} {Q:SetFound->Shared->Prop} (hr:(lE prog w).room A) (S:nZ prog w s.heap a o es ep t xs) (hk:(lE prog w).is s.heap k x)
 (h1:∀j,t.slot j = .empty->Q (.free j false) s) (h2:(∃y∈xs,y.1=k)->Q (.there none) s):∀(fuel d:Nat) (stand:Option SetTable.Probe),gH t d (stand.getD (t.probeStart ((lE prog w).hash k)))->(stand.getD (t.probeStart ((lE prog w).hash k))).dummy=none->d<fuel->d<=10*(t.mask+14) ->
 wpAny (model prog w) A (setSearchFrom a (.ref x) ((lE prog w).hash k) true fuel stand) Q E s:=by
 intro fuel
 induction fuel with
 | zero=>intro d stand _ _ lt;exact absurd lt (Nat.not_lt_zero _)
 | succ fuel ih=>
   intro d stand r nd lt le;unfold setSearchFrom;refine wpAny_bind (wpAny_setState_of S.at_ S.dat S.tab.fits ?_);dsimp only
   have gw:t.gaveWay=false:=by
    unfold SetTable.gaveWay;rw [S.tab.sz.pow.2.2.2];rfl
   rw [gw];simp only [Bool.false_eq_true,if_false];split
   rotate_left
   ·rename_i e
    exact (zF S.tab.dm r le nd e).elim
   rename_i met e;have g2:=zE S.tab.dm r le nd e;rcases g2 with ⟨j,rfl,ej⟩|⟨j,i,q,d',rfl,aeY,r',nd',ej⟩
   ·exact wpAny_pure (h1 j ej)
   ·have pl:=sE ej
    have il:i<es.size:=by rw [←S.tab.pl];exact (Array.getElem?_eq_some_iff.mp pl).1
    obtain ⟨y,hy,ey⟩:∃y∈xs,es[i]? = some ((lE prog w).hash y.1,Value.ref y.2):=by
     have el:xs.length=es.size:=by rw [←Array.length_toList,S.els,List.length_map]
     have hx:xs[i]? = some (xs[i]'(by omega)):=by simp [show i<xs.length by omega]
     refine ⟨_,List.mem_of_getElem? hx, ?_⟩;rw [←Array.getElem?_toList,S.els,List.getElem?_map,hx];rfl
    have sm:t.sameMemory t.moves t.mask=some true:=by unfold SetTable.sameMemory;simp
    have seen:∀v∈((es.filter (·.1==(lE prog w).hash k)).toList.map (·.2)),∃b js,v=Value.ref b/\(lE prog w).is s.heap js b:=fun v hv=>by
     obtain ⟨e,he,rfl⟩:=List.mem_map.mp hv
     have he:e∈es.toList:=by
      rw [Array.toList_filter] at he;exact (List.mem_filter.mp he).1
     rw [S.els] at he;obtain ⟨z,hz,rfl⟩:=List.mem_map.mp he;exact ⟨z.2,z.1,rfl,S.is_ z hz⟩
    dsimp only;split
    ·refine wpAny_bind (N_ hk _ seen ?_)
     simp only [Bool.false_eq_true,if_false];rw [ey];dsimp only;refine wpAny_bind (wpAny_holding ((lE prog w).eqBool hr (S.is_ y hy) hk ?_));refine wpAny_bind (wpAny_setState_of S.at_ S.dat S.tab.fits ?_)
     by_cases q1:y.1=k
     ·rw [decide_eq_true q1]
      exact wpAny_pure (h2 ⟨y,hy,q1⟩)
     ·rw [decide_eq_false q1]
      dsimp only;rw [sm];simp only [Bool.and_false,Bool.false_eq_true,if_false,if_true,ej,ey];refine wpAny_bind (wpAny_isSame_ref_self ?_);refine wpAny_bind (wpAny_pure ?_);exact ih d' (some q) r' nd' (by omega) (by omega)
    ·rw [ey]
     dsimp only;refine wpAny_bind (wpAny_holding ((lE prog w).eqBool hr (S.is_ y hy) hk ?_));refine wpAny_bind (wpAny_setState_of S.at_ S.dat S.tab.fits ?_)
     by_cases q1:y.1=k
     ·rw [decide_eq_true q1]
      exact wpAny_pure (h2 ⟨y,hy,q1⟩)
     ·rw [decide_eq_false q1]
      dsimp only;rw [sm];simp only [Bool.and_false,Bool.false_eq_true,if_false,if_true,ej,ey];refine wpAny_bind (wpAny_isSame_ref_self ?_);refine wpAny_bind (wpAny_pure ?_);exact ih d' (some q) r' nd' (by omega) (by omega)
end
end L2
set_option Elab.async false
set_option linter.all false
set_option maxRecDepth 100000
set_option maxHeartbeats 1000000
namespace L2
open PySem PySem.Spec PyProof.Rows
section
variable {prog:Program} {w:World} {A:Around} {E:Value->Shared->Prop} {s:Shared}
theorem J0 {mask n:Nat} (h:vo mask n) (hn:n+1<=4914):((n+1)*5<mask*3/\vo mask (n+1))\/(mask*3<=(n+1)*5/\vo (SetTable.sizeAbove (SetTable.grown (n+1)) - 1) (n+1)/\SetTable.sizeAbove (SetTable.grown (n+1))<=8192):=by
 have full:∀m,m=5\/m=19\/m=77\/m=307\/m=1229->vo (SetTable.sizeAbove (SetTable.grown m) - 1) m/\SetTable.sizeAbove (SetTable.grown m)<=8192:=by
  rintro m (rfl|rfl|rfl|rfl|rfl)
  ·exact ⟨.inr (.inl ⟨by decide,by decide⟩),by decide⟩
  ·exact ⟨.inr (.inr (.inl ⟨by decide,by decide⟩)),by decide⟩
  ·exact ⟨.inr (.inr (.inr (.inl ⟨by decide,by decide⟩))),by decide⟩
  ·exact ⟨.inr (.inr (.inr (.inr (.inl ⟨by decide,by decide⟩)))),by decide⟩
  ·exact ⟨.inr (.inr (.inr (.inr (.inr ⟨by decide,by decide⟩)))),by decide⟩
 rcases h with ⟨rfl,h⟩|⟨rfl,h⟩|⟨rfl,h⟩|⟨rfl,h⟩|⟨rfl,h⟩|⟨rfl,h⟩
 ·by_cases q:n+1<=4
  ·exact .inl ⟨by omega,.inl ⟨rfl,q⟩⟩
  ·exact .inr ⟨by omega,full _ (by omega)⟩
 ·by_cases q:n+1<=18
  ·exact .inl ⟨by omega,.inr (.inl ⟨rfl,q⟩)⟩
  ·exact .inr ⟨by omega,full _ (by omega)⟩
 ·by_cases q:n+1<=76
  ·exact .inl ⟨by omega,.inr (.inr (.inl ⟨rfl,q⟩))⟩
  ·exact .inr ⟨by omega,full _ (by omega)⟩
 ·by_cases q:n+1<=306
  ·exact .inl ⟨by omega,.inr (.inr (.inr (.inl ⟨rfl,q⟩)))⟩
  ·exact .inr ⟨by omega,full _ (by omega)⟩
 ·by_cases q:n+1<=1228
  ·exact .inl ⟨by omega,.inr (.inr (.inr (.inr (.inl ⟨rfl,q⟩))))⟩
  ·exact .inr ⟨by omega,full _ (by omega)⟩
 ·exact .inl ⟨by omega,.inr (.inr (.inr (.inr (.inr ⟨rfl,hn⟩))))⟩
theorem Il {h h':Heap} {k:List Int} {x a:Addr} {o:Obj} {es:Array (Int×Value)} {ep:Nat} {t:SetTable} (hk:(lE prog w).is h k x) (ho:h.get? a=some o) (hd:o.data = .set es ep t) (hs:Heap.SameBut a h h'):(lE prog w).is h' k x:=by
 obtain ⟨o',items,n,ho',hc,hd',hi⟩:=hk
 have hne:x≠a:=by
  rintro rfl;obtain rfl:o'=o:=Option.some.inj (ho'.symm.trans ho);rw [hd] at hd';exact nomatch hd'
 exact ⟨o',items,n,(hs.2 x hne).trans ho',hc,hd',hi⟩
theorem Bo {h:Heap} {a:Addr} {o:Obj} {es es':Array (Int×Value)} {ep:Nat} {t t':SetTable} (ho:h.get? a=some o) (hex:o.ExactSet) (hd:o.data = .set es ep t):
 (h.update a (Obj.putSet es' t')).get? a=some {o with data:= .set es' (ep+1) t'}:=by
 have:=Heap.get?_update_self (Obj.putSet es' t') ho (by rw [putSet_of es' t' hd];rfl);rw [putSet_of es' t' hd] at this;exact this
theorem Kg {t:SetTable} (hd:t.dummies = #[]) (j:Nat):t.put j=({t with place:=SetTable.insertAt t.place (SetTable.below t.place j) j},SetTable.below t.place j):=by
 unfold SetTable.put;rw [hd];have:SetTable.has #[] j=false:=rfl;rw [this];obtain ⟨m,p,d,f,l,mo,pl⟩:=t;simp only at hd;subst hd;rfl
theorem xu {α:Type} (xs:Array α) (p:Nat) (x:α):(SetTable.insertAt xs p x).size=xs.size+1:=by
 rw [←Array.length_toList,(SetTable.insertAt_perm xs p x).length_eq,Array.length_toList,Array.size_push]
theorem GK {a:Addr} {o:Obj} {es:Array (Int×Value)} {ep wanted:Nat} {t:SetTable} {xs:List EK} {Q:Unit->Shared->Prop} (ho:s.heap.get? a=some o) (hex:o.ExactSet) (hd:o.data = .set es ep t) (hf:t.fits es.size=true) (he:es.toList=xs.map (QG prog w))
 (sz:vo (SetTable.sizeAbove wanted - 1) es.size) (le:SetTable.sizeAbove wanted<=8192)
 (h:∀(es':Array (Int×Value)) (t':SetTable) (xs':List EK),es'.toList=xs'.map (QG prog w)->xs'.Perm xs->t'.dummies = #[]->t'.place.size=es'.size->vo t'.mask es'.size->t'.plain=t.plain->t'.led=t.led->t'.place.toList.Pairwise (· < ·)->Q () {s with heap:=s.heap.update a (Obj.putSet es' t')}):
 wpAny (model prog w) A (setRelay a wanted) Q E s:=by
 unfold setRelay;refine wpAny_bind (wpAny_setState_of ho hd hf ?_);dsimp only;rw [if_neg (by rw [sizeLine_eq];omega)];obtain ⟨⟨k,hm⟩,Yo,mle,_⟩:=sz.pow;obtain ⟨t',order,l1,l2,l3,l4,l5,l6,l7,l8⟩:=K9 (finger:=t.finger) (moves:=t.movedTo (SetTable.sizeAbove wanted - 1)) (led:=t.led) (plain:=t.plain) hm (es.map (·.1)) (by rw [Array.size_map];exact Yo);rw [Array.size_map] at l4 l8;have e1:t.relaid (es.map (·.1)) wanted=some (t',order):=l1;have el:xs.length=es.size:=by rw [←Array.length_toList,he,List.length_map]
 have p1:(order.filterMap (es[·]?)).toList=(order.toList.filterMap fun i=>xs[i]?).map (QG prog w):=by
  rw [Array.toList_filterMap,List.map_filterMap];congr 1;funext i;rw [←Array.getElem?_toList,he,List.getElem?_map]
 have p2:(order.toList.filterMap fun i=>xs[i]?).Perm xs:=by
  have:=l8.filterMap fun i=>xs[i]?;rw [←el] at this;exact this.trans (by rw [List.filterMap_getElem?_range_length])
 have iM:(order.filterMap (es[·]?)).size=es.size:=by rw [←Array.length_toList,p1,List.length_map,p2.length_eq,el]
 show wpAny (model prog w) A ((do
  let some (t,order):=t.relaid (es.map (·.1)) wanted|unsupported "internal:set-table-without-room"
  let es':=order.filterMap (es[·]?)
  if es'.size != es.size then unsupported "internal:set-table-lost-an-element"
  pure (es',t):Sem (Array (Int×Value)×SetTable)) >>= fun x=>storeSet a x.1 x.2) Q E s
 rw [e1];dsimp only;rw [if_neg (by rw [iM];simp)];refine wpAny_bind (wpAny_pure ?_);refine wpAny_storeSet_of ho hd ?_ (by rw [sizeLine_eq,iM];omega);exact h _ _ _ p1 p2 l3 (by rw [iM];exact l4) (by rw [iM,l2];exact sz) l6 l5 l7
theorem rA {xs:Array Nat} {j:Nat} (hp:xs.toList.Pairwise (· < ·)):∀(fuel lo hi:Nat),hi<=xs.size->lo<=hi->hi - lo<=fuel->(∀(i v:Nat),i<lo->xs[i]? = some v->v<j)->(∀(i v:Nat),hi<=i->xs[i]? = some v->j<=v) ->
 SetTable.below.go xs j fuel lo hi<=xs.size/\(∀(i v:Nat),i<SetTable.below.go xs j fuel lo hi->xs[i]? = some v->v<j) /\ ∀(i v:Nat),SetTable.below.go xs j fuel lo hi<=i->xs[i]? = some v->j<=v
 | 0,lo,hi,h1,h2,h3,h4,h5=>by
   unfold SetTable.below.go;have:lo=hi:=by omega
   subst this;exact ⟨h1,h4,h5⟩
 | fuel+1,lo,hi,h1,h2,h3,h4,h5=>by
   have mono:∀(a b u v:Nat),a<=b->xs[a]? = some u->xs[b]? = some v->u<=v:=fun a b u v ab ea eb=>by
    rcases Nat.eq_or_lt_of_le ab with e|lt
    ·subst e
     rw [ea] at eb;cases eb;exact Nat.le_refl _
    ·rw [←Array.getElem?_toList] at ea eb
     obtain ⟨l1,q1⟩:=List.getElem?_eq_some_iff.mp ea;obtain ⟨l2,q2⟩:=List.getElem?_eq_some_iff.mp eb;have:=List.pairwise_iff_getElem.mp hp a b l1 l2 lt;rw [q1,q2] at this;exact Nat.le_of_lt this
   unfold SetTable.below.go;split
   ·rename_i lt
    dsimp only;have ml:(lo+hi) / 2<xs.size:=by omega
    have em:xs[(lo+hi) / 2]? = some xs[(lo+hi) / 2]:=by simp [ml]
    have eg:xs.getD ((lo+hi) / 2) j=xs[(lo+hi) / 2]:=by rw [Array.getD_eq_getD_getElem?,em];rfl
    rw [eg];split
    ·rename_i q
     exact rA hp fuel _ hi h1 (by omega) (by omega) (fun i v hi' e=>Nat.lt_of_le_of_lt (mono _ _ _ _ (by omega) e em) q) h5
    ·rename_i q
     exact rA hp fuel lo _ (by omega) (by omega) (by omega) h4 (fun i v hi' e=>Nat.le_trans (by omega) (mono _ _ _ _ hi' em e))
   ·have:lo=hi:=by omega
    subst this;exact ⟨h1,h4,h5⟩
theorem rm {xs:Array Nat} {j:Nat} (hp:xs.toList.Pairwise (· < ·)):SetTable.below xs j<=xs.size/\(∀(i v:Nat),i<SetTable.below xs j->xs[i]? = some v->v<j) /\ ∀(i v:Nat),SetTable.below xs j<=i->xs[i]? = some v->j<=v:=by
 unfold SetTable.below;refine rA hp xs.size 0 xs.size (Nat.le_refl _) (Nat.zero_le _) (by omega) (fun i v h=>absurd h (Nat.not_lt_zero _)) (fun i v h e=> ?_);have:=(Array.getElem?_eq_some_iff.mp e).1;omega
theorem Ah {xs:Array Nat} {i v:Nat} (hp:xs.toList.Pairwise (· < ·)) (e:xs[i]? = some v):SetTable.below xs (v+1)=i+1:=by
 obtain ⟨b1,b2,b3⟩:=rm (j:=v+1) hp
 have l1:i<SetTable.below xs (v+1):=by
  refine Classical.byContradiction fun q=> ?_;have:=b3 i v (by omega) e;omega
 have il:=(Array.getElem?_eq_some_iff.mp e).1;refine Classical.byContradiction fun q=> ?_;have l2:i+1<xs.size:=by omega
 have e2:xs[i+1]? = some xs[i+1]:=by simp [l2]
 have r1:=b2 (i+1) _ (by omega) e2;rw [←Array.getElem?_toList] at e e2;obtain ⟨k1,q1⟩:=List.getElem?_eq_some_iff.mp e;obtain ⟨k2,q2⟩:=List.getElem?_eq_some_iff.mp e2;have:=List.pairwise_iff_getElem.mp hp i (i+1) k1 k2 (by omega);rw [q1,q2] at this;omega
theorem Lh {t:SetTable} {j:Nat} (hd:t.dummies = #[]) (hp:t.place.toList.Pairwise (· < ·)) (e:t.slot j = .empty):(SetTable.insertAt t.place (SetTable.below t.place j) j).toList.Pairwise (· < ·):=by
 obtain ⟨b1,b2,b3⟩:=rm (j:=j) hp
 have nj:∀i:Nat,t.place[i]? ≠ some j:=fun i q=>by
  have l1:i=SetTable.below t.place j:=by
   refine Classical.byContradiction fun ne=> ?_;rcases Nat.lt_or_gt_of_ne ne with lt|gt
   ·exact Nat.lt_irrefl _ (b2 i j lt q)
   ·have il:=(Array.getElem?_eq_some_iff.mp q).1
    have bl:SetTable.below t.place j<t.place.size:=by omega
    have eb:t.place[SetTable.below t.place j]? = some t.place[SetTable.below t.place j]:=by simp [bl]
    have r:=b3 _ _ (Nat.le_refl _) eb;rw [←Array.getElem?_toList] at q eb;obtain ⟨k1,q1⟩:=List.getElem?_eq_some_iff.mp q;obtain ⟨k2,q2⟩:=List.getElem?_eq_some_iff.mp eb;have:=List.pairwise_iff_getElem.mp hp _ i k2 k1 gt;rw [q1,q2] at this;omega
  rw [l1] at q;unfold SetTable.slot at e;dsimp only at e;rw [if_pos (by rw [q];simp)] at e;cases e
 rw [SetTable.toList_insertAt]
 have tk:∀x∈t.place.toList.take (SetTable.below t.place j),x<j:=fun x hx=>by
  obtain ⟨i,hi⟩:=List.getElem?_of_mem hx
  have il:i<SetTable.below t.place j:=by
   have:=(List.getElem?_eq_some_iff.mp hi).1;rw [List.length_take] at this;omega
  rw [List.getElem?_take_of_lt il,Array.getElem?_toList] at hi;exact b2 i x il hi
 have dr:∀x∈t.place.toList.drop (SetTable.below t.place j),j<x:=fun x hx=>by
  obtain ⟨i,hi⟩:=List.getElem?_of_mem hx;rw [List.getElem?_drop,Array.getElem?_toList] at hi;have:=b3 _ x (Nat.le_add_right _ i) hi;rcases Nat.eq_or_lt_of_le this with z|z
  ·subst z;exact absurd hi (nj _)
  ·exact z
 have hp':=hp;rw [←List.take_append_drop (SetTable.below t.place j) t.place.toList] at hp';obtain ⟨p1,p2,p3⟩:=List.pairwise_append.mp hp';refine List.pairwise_append.mpr ⟨p1,List.pairwise_cons.mpr ⟨dr,p2⟩,fun x hx y hy=> ?_⟩;rcases List.mem_cons.mp hy with rfl|hy
 ·exact tk x hx
 ·exact p3 x hx y hy
end
end L2
set_option Elab.async false
set_option linter.all false
set_option maxRecDepth 100000
set_option maxHeartbeats 1000000
namespace L2
open PySem PySem.Spec PyProof.Rows
section
variable {prog:Program} {w:World} {A:Around} {E:Value->Shared->Prop} {s:Shared}
theorem nZ.len {h:Heap} {a:Addr} {o:Obj} {es:Array (Int×Value)} {ep:Nat} {t:SetTable} {xs:List EK} (S:nZ prog w h a o es ep t xs):es.size=xs.length:=by rw [←Array.length_toList,S.els,List.length_map]
theorem QX {a:Addr} {o:Obj} {es:Array (Int×Value)} {ep:Nat} {t:SetTable} {xs:List EK} {k:List Int} {x:Addr} {Q:Bool->Shared->Prop} (hr:(lE prog w).room A) (S:nZ prog w s.heap a o es ep t xs) (hk:(lE prog w).is s.heap k x) (hn:xs.length+1<=4914)
 (h1:(∃y∈xs,y.1=k)->Q false s)
 (h2:∀(h':Heap) (o':Obj) (es':Array (Int×Value)) (ep':Nat) (t':SetTable) (xs':List EK),Heap.SameBut a s.heap h'->nZ prog w h' a o' es' ep' t' xs'->xs'.Perm (xs++[(k,x)])->t'.led=t.led->Q true {s with heap:=h'}):
 wpAny (model prog w) A (setAddHashed a (.ref x) ((lE prog w).hash k)) Q E s:=by
 have sl:=S.len;unfold setAddHashed;refine wpAny_holding ?_;unfold setAddHashedIn;refine wpAny_bind (wpAny_setState_of S.at_ S.dat S.tab.fits ?_);dsimp only;rw [show byScan (Value.ref x) es=false from rfl];simp only [Bool.false_eq_true,if_false];obtain ⟨⟨k2,hm⟩,Yo,mle,_⟩:=S.tab.sz.pow;obtain ⟨r0,d0⟩:=DG hm S.tab.dm (by rw [S.tab.pl];exact Yo) ((lE prog w).hash k);unfold setSearch;refine wpAny_bind (Du (Q:=fun r s'=>wpAny (model prog w) A (match r with | .free slot wasDummy=>_|_=>_) Q E s') hr S hk (fun j ej=> ?_) (fun hy=> ?_) 100000 (10*(t.mask+14)) none r0 d0 (by omega) (Nat.le_refl _))
 rotate_left
 ·exact wpAny_pure (h1 hy)
 dsimp only;refine wpAny_bind (wpAny_setState_of S.at_ S.dat S.tab.fits ?_);dsimp only;rw [Kg S.tab.dm j];dsimp only;rw [S.tab.plain];simp only [if_true];refine wpAny_bind (Jk hk ?_);simp only [if_true];have pz:(SetTable.insertAt t.place (SetTable.below t.place j) j).size=es.size+1:=by rw [xu,S.tab.pl]
 have ez:=xu es (SetTable.below t.place j) ((lE prog w).hash k,Value.ref x)
 have el:(SetTable.insertAt es (SetTable.below t.place j) ((lE prog w).hash k,Value.ref x)).toList=(xs.take (SetTable.below t.place j)++(k,x)::xs.drop (SetTable.below t.place j)).map (QG prog w):=by
  rw [SetTable.toList_insertAt,S.els,List.map_append,List.map_cons,List.map_take,List.map_drop];rfl
 have pm:(xs.take (SetTable.below t.place j)++(k,x)::xs.drop (SetTable.below t.place j)).Perm (xs++[(k,x)]):=by
  refine (List.perm_middle).trans ?_;rw [List.take_append_drop];exact (List.perm_append_singleton _ _).symm
 have rs:=Lh S.tab.dm S.tab.WW ej;generalize hes:SetTable.insertAt es (SetTable.below t.place j) ((lE prog w).hash k,Value.ref x)=es1 at ez el ⊢;generalize hxs:xs.take (SetTable.below t.place j)++(k,x)::xs.drop (SetTable.below t.place j)=xs1 at el pm;generalize hpl:SetTable.insertAt t.place (SetTable.below t.place j) j=Kr at pz rs ⊢;have ho1:=Bo (es':=es1) (t':={t with place:=Kr,plain:=true}) S.at_ S.ex S.dat
 have WD:=Heap.SameBut.update s.heap a (Obj.putSet es1 {t with place:=Kr,plain:=true})
 have is1:∀{h':Heap},Heap.SameBut a s.heap h' -> ∀{ys:List EK},ys.Perm (xs++[(k,x)]) -> ∀y∈ys,(lE prog w).is h' y.1 y.2:=fun {h'} sb {ys} p y hy=>by
  rcases List.mem_append.mp (p.mem_iff.mp hy) with q|q
  ·exact Il (S.is_ y q) S.at_ S.dat sb
  ·rw [List.mem_singleton.mp q];exact Il hk S.at_ S.dat sb
 refine wpAny_bind (wpAny_storeSet_of S.at_ S.dat ?_ (by rw [sizeLine_eq,ez];omega))
 have fl:SetTable.fill {t with place:=Kr,plain:=true}=es.size+1:=by
  unfold SetTable.fill;show Kr.size+t.dummies.size=_;rw [pz,S.tab.dm];rfl
 rcases J0 S.tab.sz (by omega) with ⟨lt,sz⟩|⟨ge,sz,le⟩
 ·have tf:SetTable.tooFull {t with place:=Kr,plain:=true}=false:=by
   unfold SetTable.tooFull;rw [fl];exact decide_eq_false (by show ¬_≥t.mask*3;omega)
  rw [tf];simp only [Bool.and_false,Bool.false_eq_true,if_false];exact wpAny_pure (h2 _ _ _ _ _ _ WD ⟨ho1,S.ex,rfl,el,is1 WD pm,⟨S.tab.dm,by rw [ez];exact pz,by rw [ez];exact sz,rfl,rs⟩⟩ pm rfl)
 ·have tf:SetTable.tooFull {t with place:=Kr,plain:=true}=true:=by
   unfold SetTable.tooFull;rw [fl];exact decide_eq_true (by show _≥t.mask*3;omega)
  rw [tf];simp only [Bool.not_false,Bool.and_self,if_true];refine wpAny_bind (GK (s:={s with heap:=s.heap.update a (Obj.putSet es1 {t with place:=Kr,plain:=true})}) ho1 S.ex rfl ?_ el (by rw [ez];exact sz) le (fun es' t' xs' q1 q2 q3 q4 q5 q6 q7 q8=> ?_))
  ·unfold SetTable.fits
   rw [fl,ez];show (Kr.size==es.size+1&&decide (es.size+1<=t.mask))=true;rw [pz]
   have:es.size+1<=t.mask:=by
    rcases S.tab.sz with ⟨e,_⟩|⟨e,_⟩|⟨e,_⟩|⟨e,_⟩|⟨e,_⟩|⟨e,_⟩<;>omega
   simp [this]
  ·have sb2:=Heap.SameBut.update (s.heap.update a (Obj.putSet es1 {t with place:=Kr,plain:=true})) a (Obj.putSet es' t')
   have ho2:=Bo (es':=es') (t':=t') ho1 S.ex rfl;have sb:=WD.trans sb2;have Vd:=q2.trans pm;exact wpAny_pure (h2 _ _ _ _ _ _ sb ⟨ho2,S.ex,rfl,q1,is1 sb Vd,⟨q3,q4,q5,q6,q8⟩⟩ Vd q7)
end
end L2
set_option Elab.async false
set_option linter.all false
set_option maxRecDepth 100000
set_option maxHeartbeats 1000000
namespace L2
open PySem PySem.Spec PyProof.Rows
def gR (xs l:List EK):Prop:=(∀x∈xs,x∈l)/\(∀y∈l,∃x∈xs,x.1=y.1)/\((l.map (·.1)).Nodup->xs.Perm l)/\xs.length<=l.length
theorem gR.nil:gR [] []:=⟨fun _ h=>h,fun _ h=>(by cases h),fun _=> .refl _,Nat.le_refl _⟩
theorem gR.there {xs l:List EK} {k:List Int} {a:Addr} (h:gR xs l) (q:∃y∈xs,y.1=k):gR xs (l++[(k,a)]):=by
 obtain ⟨h1,h2,h3,h4⟩:=h;obtain ⟨y,hy,ey⟩:=q;refine ⟨fun x hx=>List.mem_append_left _ (h1 x hx),fun z hz=> ?_,fun nd=> ?_,by rw [List.length_append];omega⟩
 ·rcases List.mem_append.mp hz with q|q
  ·exact h2 z q
  ·rw [List.mem_singleton.mp q];exact ⟨y,hy,ey⟩
 ·rw [List.map_append] at nd
  exact absurd ey ((List.nodup_append.mp nd).2.2 y.1 (List.mem_map.mpr ⟨y,h1 y hy,rfl⟩) k (by simp))
theorem gR.laid {xs xs' l:List EK} {k:List Int} {a:Addr} (h:gR xs l) (p:xs'.Perm (xs++[(k,a)])):gR xs' (l++[(k,a)]):=by
 obtain ⟨h1,h2,h3,h4⟩:=h;refine ⟨fun x hx=> ?_,fun z hz=> ?_,fun nd=> ?_,by rw [p.length_eq,List.length_append,List.length_append];simp only [List.length_singleton];omega⟩
 ·rcases List.mem_append.mp (p.mem_iff.mp hx) with q|q
  ·exact List.mem_append_left _ (h1 x q)
  ·exact List.mem_append_right _ q
 ·rcases List.mem_append.mp hz with q|q
  ·obtain ⟨x,hx,e⟩:=h2 z q
   exact ⟨x,p.mem_iff.mpr (List.mem_append_left _ hx),e⟩
  ·exact ⟨z,p.mem_iff.mpr (List.mem_append_right _ q),rfl⟩
 ·rw [List.map_append] at nd
  exact p.trans ((h3 (List.nodup_append.mp nd).1).append_right _)
theorem fG:plainId "set.update.loop" = true:=by decide +kernel
section
variable {prog:Program} {w:World} {A:Around} {E:Value->Shared->Prop} {s:Shared}
theorem xq:∀{vs:List Value} {ns:List Int},IntsAre vs ns->ItemsAre (intKind prog w) ns vs
 | _,_,.nil=> .nil
 | _,_,.cons n t h=> .cons (intKind_is _ _ _ _) (xq h)
theorem Ck {H:Hp} {h:Heap} {ks:List Int} {a:Addr} (ok:lB prog w H h) (e:H a=some (.tup (ks.map V.int))):(lE prog w).is h ks a:=by
 obtain ⟨_,its,r,o,ho,hc,n,hd⟩:=ok _ _ e;exact ⟨o,its.toArray,n,ho,hc,hd,xq (kZ r)⟩
theorem Gy {H:Hp} {h0:Heap} {d it p:Addr} {its:List Value} {as:List EK} {led:Bool} {R:Result->Shared->Prop} (hu:A.in1.units<cLine)
 (W:Walks prog w A.in1 it [it,p] [it] its.length (fun i v=>its[i]? = some v) (fun i h=>h.IsListIter it p i/\h.IsList p its.toArray))
 (ok:lB prog w H h0) (ei:its=as.map fun x=>Value.ref x.2) (hk:∀x∈as,H x.2=some (.tup (x.1.map V.int))) (hd:h0.get? d=none) (hi0:h0.get? it=none) (hp:∃o,h0.get? p=some o) (ndi:d≠it) (hz:as.length<=4914):
 ∀(m i:Nat) (s:Shared) (o:Obj) (es:Array (Int×Value)) (ep:Nat) (t:SetTable) (xs:List EK),its.length - i=m->i<=its.length->(s.heap.IsListIter it p i/\s.heap.IsList p its.toArray)->(∀b o,h0.get? b=some o->s.heap.get? b=some o) ->
  nZ prog w s.heap d o es ep t xs->gR xs (as.take i)->t.led=led ->
  (∀h' tk o' es' ep' t' xs',(∀b o,h0.get? b=some o->h'.get? b=some o)->nZ prog w h' d o' es' ep' t' xs'->gR xs' as->t'.led=led->R (.ok (.ret .none)) {s with heap:=h',toks:=tk}) ->
  codeAny (model prog w) A (.builtin "set.update.loop" ⟨[.ref d,.ref it],[]⟩) R s:=by
 have lens:its.length=as.length:=by rw [ei,List.length_map]
 have dp:d≠p:=fun z=>by obtain ⟨o,ho⟩:=hp;rw [←z,hd] at ho;cases ho
 have moved:∀{h h':Heap} {o:Obj} {es:Array (Int×Value)} {ep:Nat} {t:SetTable} {xs:List EK} {n:Nat},(∀b o,b≠it->h.get? b=some o->h'.get? b=some o)->(∀b o,h0.get? b=some o->h.get? b=some o)->nZ prog w h d o es ep t xs->gR xs (as.take n) ->
  (∀b o,h0.get? b=some o->h'.get? b=some o)/\nZ prog w h' d o es ep t xs:=fun {h h' o es ep t xs n} k k0 S fl=>by
  have k1:∀b o,h0.get? b=some o->h'.get? b=some o:=fun b o e=>k b o (fun z=>by rw [z,hi0] at e;cases e) (k0 b o e);exact ⟨k1,k d o ndi S.at_,S.ex,S.dat,S.els,fun x hx=>Ck (ok.kept k1) (hk x (List.mem_of_mem_take (fl.1 x hx))),S.tab⟩
 intro m
 induction m with
 | zero=>
   intro i s o es ep t xs hm hi st k0 S fl el hR;have hin:i=its.length:=by omega
   subst hin;refine codeAny_builtin F.entry_set_update_loop ?_;rw [Around.under_plainId fG _];show wpAny _ A.in1 (pyNext (.ref it) >>= _) _ _ s;refine wpAny_bind (W.done s _ _ st fun h' tk k=> ?_);obtain ⟨k1,S1⟩:=moved (h:=s.heap) (h':=h') (fun b o nb e=>k b o (by simpa using nb) e) k0 S fl;show wpAny _ A.in1 (ret Value.none) _ _ _;rw [lens,List.take_length] at fl;exact wpAny_pure (hR h' tk o es ep t xs k1 S1 fl el)
 | succ m ih=>
   intro i s o es ep t xs hm hi st k0 S fl el hR;have hlt:i<its.length:=by omega
   refine codeAny_builtin F.entry_set_update_loop ?_;rw [Around.under_plainId fG _];show wpAny _ A.in1 (pyNext (.ref it) >>= _) _ _ s;refine wpAny_bind (W.item i s _ _ hlt st fun v h1 tk hP st1 k=> ?_);obtain ⟨k1,S1⟩:=moved (h:=s.heap) (h':=h1) (fun b o nb e=>k b o (by simpa using nb) e) k0 S fl;have ha1:i<as.length:=by omega
   have ea:as[i]? = some as[i]:=by simp [ha1]
   have ev:v=Value.ref as[i].2:=by
    have hP:its[i]? = some v:=hP;rw [ei,List.getElem?_map,ea] at hP;exact (Option.some.inj hP).symm
   subst ev;have hka:=Ck (ok.kept k1) (hk as[i] (List.getElem_mem ha1))
   have tk1:as.take (i+1)=as.take i++[(as[i].1,as[i].2)]:=by
    rw [List.take_succ,ea];rfl
   show wpAny _ A.in1 (holding [Value.ref as[i].2] (setAdd d (.ref as[i].2)) >>= _) _ _ _;refine wpAny_bind (wpAny_holding ?_);unfold setAdd;refine wpAny_holding (wpAny_bind ((lE prog w).pyHash hu hka ?_));have fll:=fl.2.2.2;rw [List.length_take] at fll;refine QX (s:={s with heap:=h1,toks:=tk+(lE prog w).draws as[i].1}) hu S1 hka (by omega) (fun q=> ?_) (fun h2 o' es' ep' t' xs' sb S' pm el'=> ?_)
   ·refine wpAny_pure ⟨plainId_quiet fG _,ih (i+1) _ o es ep t xs (by omega) (by omega) st1 k1 S1 (by rw [tk1];exact fl.there q) el fun h' tk' o' es' ep' t' xs' k' S' f' l'=>hR h' tk' o' es' ep' t' xs' k' S' f' l'⟩
   ·have k2:∀b o,h0.get? b=some o->h2.get? b=some o:=fun b o e=>(sb.2 b (fun z=>by rw [z,hd] at e;cases e)).trans (k1 b o e)
    refine wpAny_pure ⟨plainId_quiet fG _,ih (i+1) _ o' es' ep' t' xs' (by omega) (by omega) (W.frame _ _ _ st1 fun b hb o e=> ?_) k2 S' (by rw [tk1];exact fl.laid pm) (el'.trans el) fun h' tk' o' es' ep' t' xs' k' S' f' l'=>hR h' tk' o' es' ep' t' xs' k' S' f' l'⟩
    have:b≠d:=fun z=>by
     subst z;rcases List.mem_cons.mp hb with rfl|hb
     ·exact ndi rfl
     ·exact dp (by simpa using hb)
    exact (sb.2 b this).trans e
end
end L2
set_option Elab.async false
set_option linter.all false
set_option maxRecDepth 100000
set_option maxHeartbeats 3200000
namespace L2
open PySem PySem.Spec PyProof.Rows
section
variable {prog:Program} {w:World} {A:Around} {E:Value->Shared->Prop} {s:Shared}
def eF (w:World):Bool:=w.params.followText "set-order"
def nG (led:Bool):Obj:={cls:= .type "set",dict:=none,data:= .set #[] 0 (.fresh 0 0 led)}
theorem J8 (a:Value) {Q1:Value->Shared->Prop} (h:Q1 (.ref s.heap.objs.size) {s with heap:=s.heap.push (nG (!eF w))}):codeAny (model prog w) A (.call (.builtin "set.__new__") ⟨[.type "set",a],[]⟩) (wants Q1 E) s:=by
 refine codeAny_of_tree ?_;show wpAny _ A.in1 (do checkBuiltinCall "set.__new__" ⟨[Value.type "set",a],[]⟩;again (.builtin "set.__new__" ⟨[.type "set",a],[]⟩)) _ _ s;refine wpAny_bind (wpAny_of_eq (F.newCall_set_1 a) (wpAny_pure (And.intro (plainId_quiet F.plain_set_new _) (codeAny_builtin F.entry_set_new ?_))));rw [Around.under_plainId F.plain_set_new _];unfold Builtin.«set.__new__»;unfold Builtin.Frozenset.newClass;have hs1:=sub_set_self;obtain ⟨h0,g0,d0,t0,o0⟩:=s
 dsimp only;wp_walk;refine wpAny_askSetting (wpAny_pure ?_);dsimp only;simp only [newObj];exact wpAny_bind (wpAny_alloc (wpAny_pure (wpAny_pure h)))
theorem J_ (h:Heap) (led:Bool):nZ prog w (h.push (nG led)) h.objs.size (nG led) #[] 0 (.fresh 0 0 led) []:=
 ⟨Heap.get?_push_size _ rfl,⟨rfl,rfl,rfl⟩,rfl,rfl,fun x hx=>(by cases hx),⟨rfl,rfl,.inl ⟨rfl,Nat.zero_le _⟩,rfl,by simp [SetTable.fresh]⟩⟩
theorem Fg {H:Hp} {p:Addr} {its:List Value} {as:List EK} {Q:Value->Shared->Prop} (hh:A.handled=none) (hu:A.units+8<cLine) (pl:PlainL s.heap p its.toArray)
 (ok:lB prog w H s.heap) (ei:its=as.map fun x=>Value.ref x.2) (hk:∀x∈as,H x.2=some (.tup (x.1.map V.int))) (hz:as.length<=4914)
 (h:∀h' tk o es ep t xs,(∀b o,s.heap.get? b=some o->h'.get? b=some o)->nZ prog w h' s.heap.objs.size o es ep t xs->gR xs as->t.led = !eF w->Q (.ref s.heap.objs.size) {s with heap:=h',toks:=tk}):
 wpAny (model prog w) A (call (.type "set") [.ref p]) Q E s:=by
 obtain ⟨o,n,ho,hc,hd,hs⟩:=id pl;obtain ⟨mc,mt,fm⟩:=F.called_set.mro;have fa:=F.called_set.made;have fb:=F.called_set.sub
 refine wpAny_call (codeAny_of_tree ?_);show wpAny _ _ (callAny (.type "set") _) _ _ _
 refine wpAny_pure (And.intro (Code.quiet_builtin _ (by decide +kernel)) (codeAny_builtin F.entry_type_call ?_));rw [Around.under_plain (weight_type_call_type "set" [.ref p] []) rfl];have fc:=F.called_set.notType;have fd:=F.called_set.canCreate;have fe:=F.typeCall_set_1 (.ref p)
 repeat (any_goals (first |assumption|wp_step))
 refine codeAny_mono (J8 (.ref p) (E:=E) (Q1:=fun obj s1=>obj = .ref s.heap.objs.size/\s1={s with heap:=s.heap.push (nG (!eF w))}) ⟨rfl,rfl⟩) fun r s1 hr=> ?_;cases r with
 | error e=>exact hr
 | ok fl=>
   cases fl with
   | ret obj=>
     obtain ⟨rfl,rfl⟩:=hr;have S0:=J_ (prog:=prog) (w:=w) s.heap (!eF w);have hT:Shared.TypeIs {s with heap:=s.heap.push (nG (!eF w))} (.ref s.heap.objs.size) "set" :=⟨_,S0.at_,rfl⟩;have ff:=F.called_set.init.lookup;have fg:=F.called_set.init.bind (.ref s.heap.objs.size)
     repeat (any_goals (first |assumption|wp_step))
     refine codeAny_mono (codeAny_call_builtin (R:=wants (fun r s2=>r = .none /\ ∃h' tk o es ep t xs,s2={s with heap:=h',toks:=tk}/\(∀b o,s.heap.get? b=some o->h'.get? b=some o)/\nZ prog w h' s.heap.objs.size o es ep t xs/\gR xs as/\t.led = !eF w) E) F.called_set.init.plain F.entry_set_init (check_set_init_1 hT ?_)) fun r2 s2 hr2=> ?_
     ·have ho1:(s.heap.push (nG (!eF w))).get? p=some o:=Heap.get?_push_of_some _ ho
      obtain ⟨oc,od,odt,osl⟩:=o;simp only at hc hd hs;subst hc hd hs;have fh:=F.sub_list_set;have fi:=F.sub_list_frozenset
      have fj:(Value.type "list" == Value.type "dict")=false:=by decide
      have l1:(s.heap.push (nG (!eF w))).IsList p its.toArray:=⟨_,ho1,rfl,n,rfl⟩;have sat:=S0.at_
      unfold nG at sat ho1 ⊢;unfold Builtin.«set.__init__»;unfold noKeywords Builtin.Frozenset.updateFrom;generalize hPI:pyIter=PI;wp_walk;subst hPI;refine wpAny_pyIter_list l1 ?_;refine wpAny_bind (wpAny_runValue ?_);have hp0:s.heap.get? p=some {cls:= .type "list",dict:=none,data:= .seq its.toArray n,slots:=osl}:=ho;have lts:s.heap.objs.size<(s.heap.push (nG (!eF w))).objs.size:=by rw [Heap.size_push];exact Nat.lt_succ_self _
      have ltp:p<(s.heap.push (nG (!eF w))).objs.size:=Heap.lt_size (Heap.get?_push_of_some _ hp0);have S1:nZ prog w ((s.heap.push (nG (!eF w))).push {cls:= .type "list_iterator",data:= .fields #[.ref p,.int 0 0]}) s.heap.objs.size (nG (!eF w)) #[] 0 (.fresh 0 0 (!eF w)) []:=⟨Heap.get?_push_of_some _ S0.at_,S0.ex,S0.dat,S0.els,fun x hx=>(by cases hx),S0.tab⟩;have h3:A.in1.in1.in1.handled=none:=hh;refine Gy (A:=A.in1.in1) (H:=H) (h0:=s.heap) (d:=s.heap.objs.size) (it:=(s.heap.push (nG (!eF w))).objs.size) (p:=p) (led:= !eF w) (by show A.units+1+1+1<cLine;omega) (pO h3 _ p (fun z=>by rw [z] at ltp;exact Nat.lt_irrefl _ ltp) its) ok ei hk (sV (Nat.le_refl _)) (sV (Nat.le_of_lt lts)) ⟨_,hp0⟩ (Nat.ne_of_lt lts) hz its.length 0 _ _ _ _ _ [] (by omega) (Nat.zero_le _) ⟨⟨_,Heap.get?_push_size _ rfl,rfl,rfl⟩,_,Heap.get?_push_of_some _ ho1,rfl,n,rfl⟩ (fun b q eb=>Heap.get?_push_of_some _ (Heap.get?_push_of_some _ eb)) S1 gR.nil rfl ?_;intro h' tk o' es' ep' t' xs' k' S' f' l';show wpAny _ _ (pure ()) _ _ _;refine wpAny_pure ?_;show wpAny _ _ (ret Value.none) _ _ _;exact wpAny_pure ⟨rfl,h',tk,o',es',ep',t',xs',rfl,k',S',f',l'⟩
     ·cases r2 with
      | error e=>exact hr2
      | ok fl2=>
        cases fl2 with
        | ret r=>
          obtain ⟨rfl,h',tk,o',es,ep,t,xs,rfl,q1,q2,q3,q4⟩:=hr2
          repeat (any_goals (first |assumption|wp_step))
          exact h _ _ _ _ _ _ _ q1 q2 q3 q4
        | _=>exact hr2.elim
   | _=>exact hr.elim
end
end L2
set_option Elab.async false
set_option linter.all false
set_option maxRecDepth 100000
set_option maxHeartbeats 1000000
namespace L2
open PySem PySem.Spec PyProof.Rows
theorem QS:bootBuiltins "set" = some (.type "set"):=by kernel_rfl
def NZ (P:Program) (w:World) (q:Addr) (xs:List EK) (h:Heap):Prop:=∃o es ep t,h.get? q=some o/\o.ExactSet/\o.data = .set es ep t/\es.toList=xs.map (QG P w)/\TabOk t es.size/\t.led = !eF w
def Aq (P:Program) (w:World) (q:Addr) (xs:List EK):HO:= .ext (NZ P w q xs)
section
variable {X:Cx}
theorem J9 {P:Program} {w:World} {H:Hp} {h:Heap} {q:Addr} {xs:List EK} (f:NZ P w q xs h):bJ P w H h q (Aq P w q xs):=by
 refine ⟨f, ?_,fun h1 h2 f1 k=> ?_⟩
 ·obtain ⟨o,_,_,_,e,_⟩:=f
  exact ⟨o,e⟩
 ·obtain ⟨o,es,ep,t,e,r⟩:=f1
  exact ⟨o,es,ep,t,k _ e,r⟩
def RT (P:Program) (w:World) (K:PySem.W.Frag):List V->Hp->VK->Prop:=fun vs H Q=>∃(p:Addr) (as:List EK),vs=[.ref p]/\bf K H p (as.map fun x=>V.ref x.2)/\(∀x∈as,H x.2=some (.tup (x.1.map V.int)))/\as.length<=4914 /\
 ∀q xs,H q=none->gR xs as->Q (.ref q) (upd H q (Aq P w q xs))
theorem Ab {K:PySem.W.Frag} (hK:X.K=K) (hc:X.calm=true) (hu:X.A.in1.units+64<cLine):fO X (.type "set") (RT X.prog X.w K):=by
 subst hK;intro pins s σ H xs us Q I r h;obtain ⟨p,as,rfl,hq,hk,hz,q⟩:=h;obtain ⟨u,rfl,rx⟩:=vals1 r;cases rx;obtain ⟨its,rv,pl,_⟩:=I.list hq
 have ei:its=as.map fun x=>Value.ref x.2:=by
  have:∀{as:List EK} {its:List Value},Vals (as.map fun x=>V.ref x.2) its->its=as.map fun x=>Value.ref x.2:=by
   intro as
   induction as with
   | nil=>intro its r;cases r;rfl
   | cons a as ih=>
     intro its r;cases r with
     | cons r1 r2=>
       cases r1;rw [ih r2];rfl
  exact this rv
 refine Fg (H:=H) (I.ok.hd hc) (by have:X.A.units<=X.A.in1.units:=Nat.le_succ _;omega) pl I.hok ei hk hz fun h' tk o es ep t xs kp S fl el=> ?_;have hn:=I.hok.fresh (Nat.le_refl s.heap.objs.size);exact ⟨.ref s.heap.objs.size,_,I.laid (a:=s.heap.objs.size) (o:=Aq X.prog X.w s.heap.objs.size xs) kp (Nat.le_refl _) (J9 ⟨o,es,ep,t,S.at_,S.ex,S.dat,S.els,S.tab,el⟩),rfl,q _ _ hn fl⟩
end
end L2
set_option Elab.async false
set_option linter.all false
set_option maxRecDepth 100000
set_option maxHeartbeats 3200000
namespace L2
open PySem PySem.Spec PyProof.Rows
theorem Bx:Manifest.owners.lookup (String.ofList ['r', 'o', 't', 'a', 'r', 'e', 't', 'i', '_', 't', 'e', 's'].reverse)=some Manifest.sig_set_iterator:=by kernel_rfl
theorem jq:Slot "set_iterator" "__next__" "set_iterator.__next__" := .of (owner:= "set_iterator") (n:= "__next__") (by rw [typeLookup_type,builtinLookup_eq_fast];kernel_rfl) (by decide +kernel) (by decide +kernel) (by decide +kernel) (by first |exact .inl (by decide +kernel)|exact .inr (by decide +kernel)) (by rw [isSubtype_type];kernel_rfl)
theorem sG:entryFor table "set_iterator.__next__" = some Builtin.«set_iterator.__next__» :=entryFor_of_tree (by kernel_rfl)
theorem vV (a:Value):argsOk "set_iterator.__next__" ⟨[a],[]⟩:=by unfold argsOk;rw [signature?_of (id:= "set_iterator.__next__") (n:=['_', '_', 't', 'x', 'e', 'n', '_', '_']) (o:=['r', 'o', 't', 'a', 'r', 'e', 't', 'i', '_', 't', 'e', 's']) (by kernel_rfl) Bx];kernel_rfl
theorem vU:Slot "set_iterator" "__iter__" "set_iterator.__iter__" := .of (owner:= "set_iterator") (n:= "__iter__") (by rw [typeLookup_type,builtinLookup_eq_fast];kernel_rfl) (by decide +kernel) (by decide +kernel) (by decide +kernel) (by first |exact .inl (by decide +kernel)|exact .inr (by decide +kernel)) (by rw [isSubtype_type];kernel_rfl)
theorem Gv:entryFor table "set_iterator.__iter__" = some Builtin.«dict_keyiterator.__iter__» :=entryFor_alias (id':= "dict_keyiterator.__iter__") (by kernel_rfl) rfl (by decide +kernel) (by kernel_rfl)
theorem Gw (a:Value):argsOk "set_iterator.__iter__" ⟨[a],[]⟩:=by unfold argsOk;rw [signature?_of (id:= "set_iterator.__iter__") (n:=['_', '_', 'r', 'e', 't', 'i', '_', '_']) (o:=['r', 'o', 't', 'a', 'r', 'e', 't', 'i', '_', 't', 'e', 's']) (by kernel_rfl) Bx];kernel_rfl
theorem Gz:entryFor table "set.__iter__" = some Builtin.«frozenset.__iter__» :=entryFor_alias (id':= "frozenset.__iter__") (by kernel_rfl) rfl (by decide +kernel) (by kernel_rfl)
theorem sS {α:Type} (f:Nat->Nat):∀(n k:Nat) (l:List α) (out:Array α),n=l.length->(pickOrder.go f n k l out).toList.Perm (out.toList++l)
 | 0,k,l,out,h=>by
   cases l with
   | nil=>unfold pickOrder.go;simp
   | cons x l=>simp at h
 | n+1,k,l,out,h=>by
   unfold pickOrder.go;have hl:f k % l.length<l.length:=Nat.mod_lt _ (by omega);have e:l[f k % l.length]? = some (l[f k % l.length]):=by simp [hl]
   rw [e];dsimp only;refine (sS f n (k+1) _ _ (by rw [List.length_eraseIdx,if_pos hl];omega)).trans ?_;rw [Array.toList_push,List.append_assoc];refine List.Perm.append_left _ ?_;show (l[f k % l.length]::l.eraseIdx (f k % l.length)).Perm l;rw [List.eraseIdx_eq_take_drop_succ];have h1:=(List.take_append_drop (f k % l.length) l);rw [List.drop_eq_getElem_cons hl] at h1
   conv=>rhs;rw [←h1]
   exact List.perm_middle.symm
section
variable {prog:Program} {w:World} {A:Around} {E:Value->Shared->Prop} {s:Shared} {q it:Addr} {o:Obj} {es:Array (Int×Value)} {ep:Nat} {t:SetTable}
def vJ (w:World) (q:Addr) (ep:Nat) (es:Array (Int×Value)):Array (Int×Value):=if eF w then pickOrder (w.params.setOrder q ep) es else es
theorem Az:(vJ w q ep es).toList.Perm es.toList:=by
 unfold vJ;split
 ·have:=sS (w.params.setOrder q ep) es.size 0 es.toList #[] (by simp)
  simpa [pickOrder] using this
 ·exact .refl _
theorem Ay:(vJ w q ep es).size=es.size:=by rw [←Array.length_toList,Az.length_eq,Array.length_toList]
def Ao (h:Heap) (it q:Addr) (slot i n ep:Nat):Prop:=∃o,h.get? it=some o/\o.cls = .type "set_iterator" /\ o.data = .fields #[rawInt slot,rawInt i,.ref q,rawInt n,rawInt ep]
theorem BZ {slot i:Nat} {Q:Option (Value×Nat)->Shared->Prop} (ho:s.heap.get? q=some o) (hd:o.data = .set es ep t) (T:TabOk t es.size) (el:t.led = !eF w) (bs:eF w=false->SetTable.below t.place slot=i)
 (h1:∀e slot',(vJ w q ep es)[i]? = some e->(eF w=false->SetTable.below t.place slot'=i+1)->Q (some (e.2,slot')) s) (h2:(vJ w q ep es)[i]? = none->Q none s):wpAny (model prog w) A (setNext q slot i ep) Q E s:=by
 unfold setNext;refine wpAny_bind (wpAny_setState_of ho hd T.fits ?_);dsimp only;unfold setsByText;refine wpAny_bind (wpAny_bind (wpAny_askSetting (wpAny_pure ?_)));show wpAny _ _ (if eF w=true then _ else _) _ _ _;cases hb:eF w with
 | true=>
   simp only [if_true];rw [if_neg (by simp)];unfold setWalk setsByText;refine wpAny_bind (wpAny_bind (wpAny_setState_of ho hd T.fits ?_));dsimp only;refine wpAny_bind (wpAny_bind (wpAny_askSetting (wpAny_pure ?_)));show wpAny _ _ (if eF w=true then _ else _) _ _ _;rw [hb];simp only [if_true];refine wpAny_bind (wpAny_askSetting (wpAny_pure ?_));show wpAny _ _ (pure _) _ _ _;refine wpAny_pure ?_;have ew:vJ w q ep es=pickOrder (w.params.setOrder q ep) es:=by unfold vJ;rw [if_pos hb]
   cases e:(vJ w q ep es)[i]? with
   | none=>
     rw [ew] at e;show Q (((pickOrder (w.params.setOrder q ep) es)[i]?).map _) s;rw [e];exact h2 (by rw [ew];exact e)
   | some x=>
     have:=h1 x slot e fun z=>by rw [hb] at z;cases z
     rw [ew] at e;show Q (((pickOrder (w.params.setOrder q ep) es)[i]?).map _) s;rw [e];exact this
 | false=>
   simp only [Bool.false_eq_true,if_false];have ew:vJ w q ep es=es:=by unfold vJ;rw [if_neg (by rw [hb];simp)]
   have led:t.led=true:=by rw [el,hb];rfl
   show wpAny _ _ (if (!t.plain&&decide (es.size>1))=true then _ else _) _ _ _;rw [T.plain];simp only [Bool.not_true,Bool.false_and,Bool.false_eq_true,if_false];show wpAny _ _ ((do if (!t.led && !es.isEmpty)=true then unsupported "set:maker-not-led" else pure ()) >>= _) _ _ _;rw [led];simp only [Bool.not_true,Bool.false_and,Bool.false_eq_true,if_false];refine wpAny_bind (wpAny_pure ?_);rw [bs hb];rw [ew] at h1 h2;cases e:es[i]? with
   | none=>exact wpAny_pure (h2 e)
   | some x=>
     have il:i<es.size:=(Array.getElem?_eq_some_iff.mp e).1;have ep':t.place[i]? = some (t.place[i]'(by rw [T.pl];exact il)):=by simp [T.pl,il]
     rw [ep'];exact wpAny_pure (h1 x _ e fun _=>Ah T.WW ep')
end
end L2
set_option Elab.async false
set_option linter.all false
set_option maxRecDepth 100000
set_option maxHeartbeats 3200000
namespace L2
open PySem PySem.Spec PyProof.Rows
section
variable {prog:Program} {w:World} {A:Around} {E:Value->Shared->Prop} {s:Shared} {q it:Addr} {o:Obj} {es:Array (Int×Value)} {ep:Nat} {t:SetTable}
theorem Dt {Q:Value->Shared->Prop} (ho:s.heap.get? q=some o) (hx:o.ExactSet) (hd:o.data = .set es ep t) (T:TabOk t es.size)
 (k:Q (.ref s.heap.objs.size) {s with heap:=s.heap.push {cls:= .type "set_iterator",data:= .fields #[rawInt 0,rawInt 0,.ref q,rawInt es.size,rawInt ep]}}):wpAny (model prog w) A (pyIter (.ref q)) Q E s:=by
 have ty:s.TypeIs (.ref q) "set" :=⟨o,ho,hx.1⟩;refine wpAny_pyIter_slot ty F.slot_set_iter (wpAny_call_entry F.slot_set_iter ty Gz ?_ (F.args_set_iter_1 _));unfold Builtin.«frozenset.__iter__»;refine wpAny_bind (wpAny_of_eq (show Builtin.Frozenset.slot0 "__iter__" ⟨[.ref q],[]⟩=pure q from rfl) ?_);unfold Builtin.Frozenset.sizeOf;refine wpAny_bind (wpAny_bind (wpAny_setEntries_of ho hd T.fits (wpAny_pure ?_)));unfold setDrawn setsByText;refine wpAny_bind (wpAny_bind (wpAny_setState_of ho hd T.fits (wpAny_bind (wpAny_bind (wpAny_askSetting (wpAny_pure (wpAny_pure ?_)))))));show wpAny _ _ (if (!eF w&&(!t.plain&&decide (es.size>1)))=true then _ else _) _ _ _;rw [T.plain];simp only [Bool.not_true,Bool.false_and,Bool.and_false,Bool.false_eq_true,if_false];refine wpAny_bind (wpAny_pure (wpAny_bind (wpAny_setEpoch_of ho hd T.fits ?_)));unfold newFields;refine wpAny_bind (wpAny_newObj_type ?_);exact wpAny_pure ⟨_,rfl,"set_iterator",_,⟨_,Heap.get?_push_size _ rfl,rfl⟩,jq.lookup,k⟩
theorem Gu {slot i:Nat} {Q:Option Value->Shared->Prop} (st:Ao s.heap it q slot i es.size ep) (ho:s.heap.get? q=some o) (hd:o.data = .set es ep t) (T:TabOk t es.size) (el:t.led = !eF w) (bs:eF w=false->SetTable.below t.place slot=i) {e:Int×Value} (he:(vJ w q ep es)[i]? = some e)
 (k:∀h' slot',Ao h' it q slot' (i+1) es.size ep->(eF w=false->SetTable.below t.place slot'=i+1)->Heap.SameBut it s.heap h'->Q (some e.2) {s with heap:=h'}):wpAny (model prog w) A (pyNext (.ref it)) Q E s:=by
 obtain ⟨oi,hoi,ci,di⟩:=id st;have ty:s.TypeIs (.ref it) "set_iterator" :=⟨oi,hoi,ci⟩;unfold pyNext;refine wpAny_bind (wpAny_attempt (wpAny_callSpecial?_slot (name:=Str.ofString "__next__") ty jq (wpAny_call_entry jq ty sG ?_ (vV _))));unfold Builtin.«set_iterator.__next__»;refine wpAny_bind (wpAny_of_eq (show slotArgs "__next__" 0 ⟨[.ref it],[]⟩=pure (Value.ref it,[]) from rfl) ?_);refine wpAny_bind (wpAny_fieldsOf hoi di ?_);show wpAny _ _ (setEntries q >>= _) _ _ s;refine wpAny_bind (wpAny_setEntries_of ho hd T.fits ?_);rw [if_neg (by simp)];show wpAny _ _ (setNext q slot i ep >>= _) _ _ s;refine wpAny_bind (BZ ho hd T el bs (fun e' slot' he' b'=> ?_) (fun hn=>by rw [he] at hn;cases hn));rw [he] at he';cases he';have d1:=Obj.data_mapFields di (·.setIfInBounds 0 (rawInt slot'));have g1:(s.heap.update it (Obj.mapFields (·.setIfInBounds 0 (rawInt slot')))).get? it=some (Obj.mapFields (·.setIfInBounds 0 (rawInt slot')) oi):=Heap.get?_update_self _ hoi (Obj.isFreed_of_fields d1);have d2:=Obj.data_mapFields d1 (·.setIfInBounds 1 (rawInt ((i:Int)+1)));have g2:((s.heap.update it (Obj.mapFields (·.setIfInBounds 0 (rawInt slot')))).update it (Obj.mapFields (·.setIfInBounds 1 (rawInt ((i:Int)+1))))).get? it=some (Obj.mapFields (·.setIfInBounds 1 (rawInt ((i:Int)+1))) (Obj.mapFields (·.setIfInBounds 0 (rawInt slot')) oi)):=Heap.get?_update_self _ g1 (Obj.isFreed_of_fields d2);refine wpAny_bind (wpAny_setField hoi di (by simp) ?_);refine wpAny_bind (wpAny_setField (s:={s with heap:=s.heap.update it (Obj.mapFields (·.setIfInBounds 0 (rawInt slot')))}) g1 d1 (by simp) ?_);refine wpAny_pure ⟨_,rfl,wpAny_pure (k _ slot' ⟨_,g2,by rw [Obj.cls_mapFields,Obj.cls_mapFields];exact ci,by rw [d2];simp [rawInt]⟩ b' ((Heap.SameBut.update ..).trans (Heap.SameBut.update ..)))⟩
theorem J7 {slot i:Nat} {Q:Option Value->Shared->Prop} (calm:A.handled=none) (st:Ao s.heap it q slot i es.size ep) (ho:s.heap.get? q=some o) (hd:o.data = .set es ep t) (T:TabOk t es.size) (el:t.led = !eF w) (bs:eF w=false->SetTable.below t.place slot=i) (he:(vJ w q ep es)[i]? = none)
 (k:∀h',Heap.ExtBut it s.heap h'->Q none {s with heap:=h'}):wpAny (model prog w) A (pyNext (.ref it)) Q E s:=by
 obtain ⟨oi,hoi,ci,di⟩:=id st;have ty:s.TypeIs (.ref it) "set_iterator" :=⟨oi,hoi,ci⟩;unfold pyNext;refine wpAny_bind (wpAny_attempt (wpAny_callSpecial?_slot (name:=Str.ofString "__next__") ty jq (wpAny_call_entry jq ty sG ?_ (vV _))));unfold Builtin.«set_iterator.__next__»;refine wpAny_bind (wpAny_of_eq (show slotArgs "__next__" 0 ⟨[.ref it],[]⟩=pure (Value.ref it,[]) from rfl) ?_);refine wpAny_bind (wpAny_fieldsOf hoi di ?_);show wpAny _ _ (setEntries q >>= _) _ _ s;refine wpAny_bind (wpAny_setEntries_of ho hd T.fits ?_);rw [if_neg (by simp)];show wpAny _ _ (setNext q slot i ep >>= _) _ _ s;refine wpAny_bind (BZ ho hd T el bs (fun e' slot' he' b'=>by rw [he] at he';cases he') (fun hn=> ?_));show wpAny _ _ (setField (.ref it) 2 .none >>= _) _ _ s;refine wpAny_bind (wpAny_setField hoi di (by simp) ?_);show wpAny _ _ (newExc (.type "StopIteration") [] >>= _) _ _ _;refine wpAny_bind ?_;simp only [newExc,newTuple];refine wpAny_bind (wpAny_newObj_type ?_ (by size_fits));refine wpAny_bind (m:=firstArgMember _ _) (wpAny_of_eq (a:=Value.none) (by first |rfl|(simp only [firstArgMember];rfl)) (wpAny_newObj_type ?_ (by size_fits)));simp only [raiseNew];refine wpAny_bind (wpAny_handled ?_);rw [show A.in1.handled=none from calm];refine wpAny_bind (wpAny_pure (wpAny_throw ?_));refine wpAny_bind (wpAny_isInstance (T:= "StopIteration") (b:=true) ⟨_,Heap.get?_push_size _ rfl,rfl⟩ isSubtype_stop ?_);exact wpAny_pure (k _ (((Heap.SameBut.update ..).extBut.push _).push _))
theorem Ao.at {h h':Heap} {slot i n:Nat} (st:Ao h it q slot i n ep) (k:∀o,h.get? it=some o->h'.get? it=some o):Ao h' it q slot i n ep:=by
 obtain ⟨o,e,r⟩:=st;exact ⟨o,k o e,r⟩
def RJ (w:World) (q it:Addr) (o:Obj) (es:Array (Int×Value)) (ep:Nat) (t:SetTable) (i:Nat) (h:Heap):Prop:=(∃slot,Ao h it q slot i es.size ep/\(eF w=false->SetTable.below t.place slot=i))/\h.get? q=some o
theorem Gh (hh:A.handled=none) (it q:Addr) (hne:q≠it) (hd:o.data = .set es ep t) (T:TabOk t es.size) (el:t.led = !eF w):
 Walks prog w A it [it,q] [it] es.size (fun i v=>∃e,(vJ w q ep es)[i]? = some e/\v=e.2) (RJ w q it o es ep t) where
 sub:=fun b hb=>by rw [List.mem_singleton.mp hb];exact List.mem_cons_self ..
 frame:=fun _ _ _ ⟨⟨slot,st,b⟩,hq⟩ hk=>⟨⟨slot,st.at fun o e=>hk it (by simp) o e,b⟩,hk q (by simp) _ hq⟩
 item:=fun i s Q E hi ⟨⟨slot,st,b⟩,hq⟩ hQ=>by
  have hl:i<(vJ w q ep es).size:=by rw [Ay];exact hi
  have he:(vJ w q ep es)[i]? = some (vJ w q ep es)[i]:=by simp [hl]
  exact Gu st hq hd T el b he fun h' slot' st' b' sb=>hQ _ h' s.toks ⟨_,he,rfl⟩ ⟨⟨slot',st',b'⟩,(sb.2 q hne).trans hq⟩ fun b o hb e=>sb.extBut b o (fun h=>hb (by simp [h])) e
 done:=fun s Q E ⟨⟨slot,st,b⟩,hq⟩ hQ=>J7 hh st hq hd T el b (Array.getElem?_eq_none (by rw [Ay];exact Nat.le_refl _)) fun h' eb=>hQ h' s.toks fun b o hb e=>eb b o (fun h=>hb (by simp [h])) e
 self:=fun _ _ _ _ ⟨⟨slot,st,b⟩,hq⟩ hQ=>by
  obtain ⟨oi,hoi,ci,di⟩:=st;refine wpAny_pyIter_slot ⟨oi,hoi,ci⟩ vU (wpAny_call_entry vU ⟨oi,hoi,ci⟩ Gv ?_ (Gw _));exact wpAny_pure ⟨_,rfl,"set_iterator",_,⟨oi,hoi,ci⟩,jq.lookup,hQ⟩
theorem Iu {r:Addr} {Q:Bool->Shared->Prop} (hT:s.TypeIs (.ref r) "set") (h:Q false s):wpAny (model prog w) A (Builtin.List.listLengthHint (.ref r)) Q E s:=by
 unfold Builtin.List.listLengthHint;refine wpAny_bind (wpAny_specialOf hT PySem.F.slot_set_len.lookup ?_);generalize hid:("set.__len__" :String)=i0;wp_delta;rw [show splitId i0=some ("set","__len__") from by subst hid;decide +kernel];subst hid;refine wpAny_bind (wpAny_isInstance (T:= "set") (b:=true) hT (by rw [isSubtype_type];kernel_rfl) ?_);refine wpAny_ite_split (fun z=>absurd z (by decide)) (fun _=> ?_);refine wpAny_ite_split (fun _=> ?_) (fun z=>absurd (by decide +kernel) z);exact wpAny_bind (wpAny_typeOf hT (wpAny_pure h))
theorem J2 (hx:o.ExactSet) (hd:o.data = .set es ep t) (T:TabOk t es.size) (el:t.led = !eF w):PySem.W.KdlSrc prog w "set" q q es.size (fun i v=>∃e,(vJ w q ep es)[i]? = some e/\v=e.2) (fun h=>h.get? q=some o) where
 type:=fun _ hm=>⟨o,hm,hx.1⟩
 there:=fun _ hm=>⟨Heap.lt_size hm,Heap.lt_size hm⟩
 keep:=fun _ _ hm hk=>hk q (.inl rfl) o hm
 notList:=by decide
 notTuple:=by decide
 hint:=fun _ _ s _ hm hq=>Iu ⟨o,hm,hx.1⟩ hq
 iter:=fun _ s hh hm=>⟨_,_,(fun _ _ hq=>Dt hm hx hd T hq),Gh hh _ q (Nat.ne_of_lt (Heap.lt_size hm)) hd T el,⟨⟨0,⟨_,Heap.get?_push_size _ rfl,rfl,rfl⟩,fun _=>by
  have b:=rm (j:=0) T.WW;refine Classical.byContradiction fun z=> ?_;have l0:0<t.place.size:=by have:=b.1;omega
  exact absurd (b.2.1 0 t.place[0] (by omega) (by simp [l0])) (Nat.not_lt_zero _)⟩,Heap.get?_push_of_some _ hm⟩⟩
end
end L2
set_option Elab.async false
set_option linter.all false
set_option maxRecDepth 100000
set_option maxHeartbeats 1000000
namespace L2
open PySem PySem.Spec PyProof.Rows
theorem qu {α β:Type} (f:α->β) {out m:List β} (p:out.Perm m):∀l:List α,m=l.map f -> ∃zs:List α,zs.Perm l/\out=zs.map f:=by
 induction p with
 | nil=>intro l e;cases l with
   | nil=>exact ⟨[],.refl _,rfl⟩
   | cons a l=>cases e
 | cons x _ ih=>intro l e;cases l with
   | nil=>cases e
   | cons a l=>
     cases e;obtain ⟨zs,z1,z2⟩:=ih l rfl;exact ⟨a::zs,z1.cons a,by rw [z2];rfl⟩
 | swap x y r=>intro l e;match l,e with
   | a::b::l,e=>
     cases e;exact ⟨b::a::l,.swap ..,rfl⟩
 | trans _ _ ih1 ih2=>
   intro l e;obtain ⟨zs,z1,z2⟩:=ih2 l e;obtain ⟨ys,y1,y2⟩:=ih1 zs z2;exact ⟨ys,y1.trans z1,y2⟩
section
variable {X:Cx}
def O2 (P:Program) (w:World):List V->Hp->VK->Prop:=fun vs H Q=>∃(q:Addr) (xs:List EK) (k:Nat),vs=[.ref q]/\H q=some (Aq P w q xs)/\1<=k/\(∀x∈xs,H x.2=some (.tup (x.1.map V.int))/\x.1.length=k) /\
 ∀(p:Addr) (zs:List EK),H p=none->zs.Perm xs->zs.Pairwise (fun x y=>Tim.d_ y.1 x.1=false)->Q (.ref p) (upd H p (.lst (zs.map fun x=>V.ref x.2)))
theorem u6 (hc:X.calm=true):fO X (.builtin "sorted") (O2 X.prog X.w):=by
 intro pins s σ H vs us Q I r h;obtain ⟨q,xs,k,rfl,hq,hk,hl,k1⟩:=h;obtain ⟨u,rfl,ru⟩:=vals1 r;cases ru;obtain ⟨⟨o,es,ep,t,e1,e2,e3,e4,e5,e6⟩,_⟩:=(show bJ X.prog X.w H s.heap q (Aq X.prog X.w q xs) from I.hok q _ hq);have le:es.size=xs.length:=by rw [←Array.length_toList,e4,List.length_map]
 have small:=e5.sz.pow;refine Tim.zc (J2 e2 e3 e5 e6) (I.ok.hd hc) e1 (by rw [sizeLine_eq];omega) fun vs tk hv hP=> ?_;obtain ⟨ys,y1,y2⟩:=qu (QG X.prog X.w) (Az (w:=X.w) (q:=q) (ep:=ep) (es:=es)) xs e4
 have ev:vs=ys.map fun x=>Value.ref x.2:=by
  refine List.ext_getElem? fun i=> ?_;cases e:vs[i]? with
  | none=>
    rw [List.getElem?_eq_none_iff] at e;rw [List.getElem?_eq_none (by rw [List.length_map,y1.length_eq];omega)]
  | some v=>
    obtain ⟨en,ee,rfl⟩:=hP i v e;rw [←Array.getElem?_toList,y2,List.getElem?_map] at ee;cases ey:ys[i]? with
    | none=>rw [ey] at ee;cases ee
    | some y=>
      rw [ey] at ee;cases ee;rw [List.getElem?_map,ey];rfl
 have item:∀x∈ys,∃jts,IsTup s.heap x.2 jts.toArray/\IntsAre jts x.1/\x.1.length=k:=fun x hx=>by
  obtain ⟨eh,hl'⟩:=hl x (y1.mem_iff.mp hx);obtain ⟨jts,rj,tj,_⟩:=I.tuple (dG.of eh);exact ⟨jts,tj,kZ rj,hl'⟩
 have T:yD s.heap k vs:=fun v hv'=>by
  rw [ev] at hv';obtain ⟨y,hy,rfl⟩:=List.mem_map.mp hv';obtain ⟨jts,e1,e2,e3⟩:=item y hy;exact ⟨_,jts,_,rfl,e1,e2,e3⟩
 refine ⟨tuples' true,Tim.jK (fun a b=>Tim.d_ (keyOf s.heap a) (keyOf s.heap b)) vs,fun h2 h' kp=>⟨fun Q E hQ=>rY (s:={s with heap:=h',toks:=tk}) hk T h2 kp hQ,vN (s:={s with heap:=h',toks:=tk}) T kp⟩,fun h0 h' D c out k0 kp hD hdl hp hs=> ?_⟩;obtain ⟨zs,z1,z2⟩:=qu (fun x:EK=>Value.ref x.2) hp ys ev;have zx:=z1.trans y1;have I1:Inv X pins σ H {s with heap:=h0,toks:=tk}:=I.kept (t':=tk) k0
 have rv:∀l:List EK,Vals (l.map fun q=>V.ref q.2) (l.map fun q=>Value.ref q.2):=fun l=>by
  induction l with
  | nil=>exact .nil
  | cons a l ih=>exact .cons rfl ih
 have Zj:(zs.map fun x=>V.ref x.2).length<=sizeLine:=by rw [List.length_map,zx.length_eq,sizeLine_eq];omega
 refine ⟨.ref D,_,I1.laid (t':=tk) kp hD (show bJ X.prog X.w _ h' _ (.lst (zs.map fun x=>V.ref x.2)) from ⟨Zj,out,c,by rw [z2];exact rv zs,hdl⟩),rfl,k1 D zs (I1.hok.fresh hD) zx ?_⟩;rw [z2,List.pairwise_map] at hs;refine List.Pairwise.imp_of_mem (fun {x y} hx hy huv=> ?_) hs;have mx:Value.ref x.2∈vs:=by rw [ev];exact List.mem_map.mpr ⟨x,z1.mem_iff.mp hx,rfl⟩
 have my:Value.ref y.2∈vs:=by rw [ev];exact List.mem_map.mpr ⟨y,z1.mem_iff.mp hy,rfl⟩
 have:=Tim.Bm (Tim.uf (keyOf s.heap)) my huv;obtain ⟨jx,a1,a2,_⟩:=item x (z1.mem_iff.mp hx);obtain ⟨jy,b1,b2,_⟩:=item y (z1.mem_iff.mp hy);rwa [iy a1 a2,iy b1 b2] at this
end
end L2
set_option Elab.async false
set_option linter.all false
set_option maxRecDepth 100000
set_option maxHeartbeats 4000000
namespace Prf
open PySem L2
def top (i:Nat):Stmt:=PySem.Challenge.pw_fewnotes_k29_whole_notes_in_other_orders.main.body.getD i (.Pass ⟨0,0,0,0⟩)
abbrev cV:Stmt:=top 4
abbrev gZ:Stmt:=top 6
abbrev bK:Stmt:=top 7
abbrev dW:Stmt:=top 8
abbrev gY:Stmt:=top 10
abbrev eY:Stmt:=top 11
abbrev dX:Stmt:=top 12
abbrev cH:Stmt:=top 13
abbrev bL:Stmt:=top 14
abbrev cF:Stmt:=top 15
abbrev cU:Stmt:=top 16
abbrev bW:Stmt:=top 17
abbrev cT:Stmt:=top 18
abbrev cG:Stmt:=top 19
abbrev cX:Stmt:=top 20
abbrev g_:Stmt:=top 21
abbrev dY:Stmt:=top 23
abbrev iu:Stmt:=top 24
abbrev jJ:Stmt:=top 25
abbrev fB:Stmt:=top 26
abbrev h_:Stmt:=top 27
abbrev bN:Stmt:=top 28
abbrev eZ:Stmt:=top 29
abbrev ig:Stmt:=top 30
abbrev fu:Stmt:=top 31
abbrev mz:Stmt:=top 32
structure vD (mg:Str->Option Value):Prop where
 Mj:mg "ValueError" = none
 NQ:mg "abs" = none
 Ju:mg "all" = none
 acq:mg "any" = none
 Jt:mg "bool" = none
 jc:mg "enumerate" = none
 CW:mg "int" = none
 dg:mg "isinstance" = none
 jB:mg "len" = none
 rB:mg "list" = none
 Uv:mg "max" = none
 Uu:mg "min" = none
 gD:mg "range" = none
 Ut:mg "set" = none
 yq:mg "sorted" = none
 CV:mg "tuple" = none
theorem vY:bx ["value"] ["value"] (aq cV):=⟨rfl,rfl,rfl,by decide +kernel,rfl,by decide +kernel,by decide +kernel⟩
theorem j_:bx ["web","counts","told","touch","k"] ["web"] (aq gZ):=⟨rfl,rfl,rfl,by decide +kernel,rfl,by decide +kernel,by decide +kernel⟩
theorem oU:bx ["one","other"] ["one","other"] (aq bK):=⟨rfl,rfl,rfl,by decide +kernel,rfl,by decide +kernel,by decide +kernel⟩
theorem zq:bx ["web","place","later"] ["web","place","later"] (aq dW):=⟨rfl,rfl,rfl,by decide +kernel,rfl,by decide +kernel,by decide +kernel⟩
theorem iC:bx ["web","named","knowns","told","place","name","found"] ["web"] (aq gY):=⟨rfl,rfl,rfl,by decide +kernel,rfl,by decide +kernel,by decide +kernel⟩
theorem fQ:bx ["web","some","places","named","knowns","later","known","earlier"] ["web","some"] (aq eY):=⟨rfl,rfl,rfl,by decide +kernel,rfl,by decide +kernel,by decide +kernel⟩
theorem zu:bx ["value"] ["value"] (aq dX):=⟨rfl,rfl,rfl,by decide +kernel,rfl,by decide +kernel,by decide +kernel⟩
theorem uz:bx ["places","note"] ["places","note"] (aq cH):=⟨rfl,rfl,rfl,by decide +kernel,rfl,by decide +kernel,by decide +kernel⟩
theorem oV:bx ["places","some"] ["places","some"] (aq bL):=⟨rfl,rfl,rfl,by decide +kernel,rfl,by decide +kernel,by decide +kernel⟩
theorem gU:bx ["web","places","place","name"] ["web"] (aq cF):=⟨rfl,rfl,rfl,by decide +kernel,rfl,by decide +kernel,by decide +kernel⟩
theorem vW:bx ["named","bare","name"] ["named","bare","name"] (aq cU):=⟨rfl,rfl,rfl,by decide +kernel,rfl,by decide +kernel,by decide +kernel⟩
theorem gn:bx ["web","named","knowns","place","bare","known","earlier"] ["web","named","knowns","place"] (aq bW):=⟨rfl,rfl,rfl,by decide +kernel,rfl,by decide +kernel,by decide +kernel⟩
theorem oE:bx ["places","some","steps"] ["places","some"] (aq cT):=⟨rfl,rfl,rfl,by decide +kernel,rfl,by decide +kernel,by decide +kernel⟩
theorem cD:bx ["named","steps","sources","step","knowns","place","name","known","source"] ["named","steps"] (aq cG):=⟨rfl,rfl,rfl,by decide +kernel,rfl,by decide +kernel,by decide +kernel⟩
theorem vZ:bx ["name","known"] ["name","known"] (aq cX):=⟨rfl,rfl,rfl,by decide +kernel,rfl,by decide +kernel,by decide +kernel⟩
theorem vX:bx ["known","more","hand"] ["known","more"] (aq g_):=⟨rfl,rfl,rfl,by decide +kernel,rfl,by decide +kernel,by decide +kernel⟩
theorem fU:bx ["script","figures","stir","cell"] ["script"] (aq dY):=⟨rfl,rfl,rfl,by decide +kernel,rfl,by decide +kernel,by decide +kernel⟩
theorem qd:bx ["spring","many","found","stir"] ["spring","many"] (aq iu):=⟨rfl,rfl,rfl,by decide +kernel,rfl,by decide +kernel,by decide +kernel⟩
theorem dU:bx ["spring","most","shape","size","hands","first","room","base","kinds","web","at","hand","kind"] ["spring","most"] (aq jJ):=⟨rfl,rfl,rfl,by decide +kernel,rfl,by decide +kernel,by decide +kernel⟩
theorem Dy:bx ["one","other"] ["one","other"] (aq fB):=⟨rfl,rfl,rfl,by decide +kernel,rfl,by decide +kernel,by decide +kernel⟩
theorem GC:bx ["one","other"] ["one","other"] (aq h_):=⟨rfl,rfl,rfl,by decide +kernel,rfl,by decide +kernel,by decide +kernel⟩
theorem cj:bx ["spring","web","waits","free","order","again","i","j"] ["spring","web"] (aq bN):=⟨rfl,rfl,rfl,by decide +kernel,rfl,by decide +kernel,by decide +kernel⟩
theorem Dw:bx ["found"] ["found"] (aq eZ):=⟨rfl,rfl,rfl,by decide +kernel,rfl,by decide +kernel,by decide +kernel⟩
theorem v7:bx ["found","due","row"] ["found","due"] (aq ig):=⟨rfl,rfl,rfl,by decide +kernel,rfl,by decide +kernel,by decide +kernel⟩
theorem eU:bx ["web","told","cut","many","early","late","hand","k","other","m"] ["web","told","cut"] (aq fu):=⟨rfl,rfl,rfl,by decide +kernel,rfl,by decide +kernel,by decide +kernel⟩
theorem jd:bx ["script","spring","web","handed","told","again","turned","cut","early","late"] ["script"] (aq mz):=⟨rfl,rfl,rfl,by decide +kernel,rfl,by decide +kernel,by decide +kernel⟩
section
variable {P:Program} {w:World} {K:PySem.W.Frag} {mg:Str->Option Value} {base:Heap}
def aY (H:Hp) (r:Addr):Prop:=∃f t c:Int,H r=some (.lst [.int f,.int t,.int c])/\0<=f/\0<=t/\t<2305843009213693951/\0<=c
theorem aY.keep {H H':Hp} {r:Addr} (h:aY H r) (k:Same H H'):aY H' r:=by
 obtain ⟨f,t,c,e,q⟩:=h;exact ⟨f,t,c,k _ _ e,q⟩
theorem aY.keep' {H H':Hp} {r x:Addr} (h:aY H r) (k:Kp x H H') (n:r≠x):aY H' r:=by
 obtain ⟨f,t,c,e,q⟩:=h;exact ⟨f,t,c,k _ _ e n,q⟩
def j9 (K:PySem.W.Frag):Sp:=fun vs H Q _=>∃(r:Addr) (m:Int),vs=[.ref r,.int m]/\aY H r/\0<m/\m<1073741824 /\ ∀(n:Int) (H':Hp),0<=n->n<m->aY H' r->Kp r H H'->Q (.int n) H'
theorem KJ {f:Addr} {fd:FuncData} (F:lW K "_law_draw" "_law_draw" iu f fd):dR P w K mg base lC 1 f fd ["spring","many"] (j9 K):=by
 refine F.ok qd (fun vs H Q E h=> ?_) (fun cdv A outer s H vs Q E hr h=> ?_)
 ·obtain ⟨r,m,rfl,_⟩:=h
  rfl
 ·obtain ⟨r,m,rfl,⟨f,t,c,hs,hf,ht,m8,hc⟩,m0,m1,k⟩:=h
  refine ⟨_,(au (fD (bU Ng (aM (aK (K:=K) rfl) (pv 0) aA (fun _ _=>rfl)) aA (bG _)) (au (aW (i:=2) qd.nd rfl (Or.inl rfl) (bF je (aM (aK (K:=K) rfl) (pv 0) aA (fun _ _=>rfl)) (pv 1)))
   (au (qt (bF BK (aM (aK (K:=K) rfl) (pv 0) aA (fun _ _=>rfl)) (pv 1)) (uI (pv 0) aA set_list))
   (aF (bA (pv 2))))) bY)
   (au (qt (bF dO (aM (aK (K:=K) rfl) (pv 0) aA (fun _ _=>rfl)) aA) (uI (pv 0) aA set_list))
   (au (aW (i:=3) qd.nd rfl (Or.inl rfl) (bF je (bF uJ (aM (aK (K:=K) rfl) (pv 0) aA (fun _ _=>rfl)) (aM (aK (K:=K) rfl) (pv 0) aA (fun _ _=>rfl))) aA))
   (au (qt (bF je (bF dO (bF dO (pv 3) (bF uJ (bF uJ aA (aM (aK (K:=K) rfl) (pv 0) aA (fun _ _=>rfl))) (aM (aK (K:=K) rfl) (pv 0) aA (fun _ _=>rfl)))) aA) aA) (uI (pv 0) aA set_list))
   (aF (bA (bF je (bF BK (aM (aK (K:=K) rfl) (pv 0) aA (fun _ _=>rfl)) aA) (pv 1)))))))), ?_⟩
  refine ⟨_,rfl,_,_,_,_,rfl,rfl,bf.of hs,rfl,_,_,rfl,rfl,_,rfl, ?_⟩;refine Io (fun h0=> ?_) (fun h0=> ?_)
  ·
   refine ⟨_,rfl,_,_,_,_,rfl,rfl,bf.of hs,rfl,_,rfl,_,_,rfl,rfl,m0, ?_⟩;refine ⟨_,rfl,_,_,_,_,rfl,rfl,bf.of hs,rfl,_,rfl,_,_,rfl,rfl,⟨m0,m1⟩,_,rfl,_,_,_,_,rfl,rfl,hs,rfl, ?_⟩;refine ⟨_,rfl, ?_⟩;exact k _ _ (Int.emod_nonneg _ (by omega)) (Int.emod_lt_of_pos _ m0) ⟨_,_,_,ak,Int.ediv_nonneg hf (by omega),ht,m8,hc⟩ Kp.set
  ·
   refine ⟨_,rfl,_,_,_,_,rfl,rfl,bf.of hs,rfl,_,_,rfl,rfl,_,rfl,_,_,_,_,rfl,rfl,hs,rfl, ?_⟩;refine ⟨_,rfl,_,_,_,_,rfl,rfl,bf.of ak,rfl,_,rfl,_,_,_,_,rfl,rfl,bf.of ak,rfl,_,_,rfl,rfl,.inl ⟨by omega,by omega⟩,_,_,rfl,rfl,(by show (0:Int)<2305843009213693951;decide), ?_⟩
   refine ⟨_,rfl,_,rfl,_,_,_,_,rfl,rfl,bf.of ak,rfl,_,_,rfl,rfl,.inl ⟨by decide,by decide⟩,_,rfl,_,_,_,_,rfl,rfl,bf.of ak,rfl,_,_,rfl,rfl,.inr ⟨by omega,by omega⟩,_,_,rfl,rfl,_,_,rfl,rfl,_,_,rfl,rfl,(by show (0:Int)<2305843009213693951;decide),
    _,rfl,_,_,_,_,rfl,rfl,ak,rfl, ?_⟩
   refine ⟨_,rfl,_,_,_,_,rfl,rfl,bf.of ak,rfl,_,_,rfl,rfl,(by show U4 _ 65537;exact ⟨by decide,by decide⟩),_,rfl,_,_,rfl,rfl,m0, ?_⟩;refine k _ _ (Int.emod_nonneg _ (by omega)) (Int.emod_lt_of_pos _ m0) ⟨_,_,_,ak,hf,Int.emod_nonneg _ (by decide),Int.emod_lt_of_pos _ (by decide), ?_⟩ ?_
   ·show 0<=c+1
    omega
   ·rw [o_]
    exact Kp.set
def pW (K:PySem.W.Frag):Sp:=fun vs H Q _=>∃(a:Addr) (ns:List Int),vs=[.ref a]/\bf K H a (ns.map V.int)/\ns.length<=63 /\ ∀(r:Addr) (H':Hp),H r=none->aY H' r->Same H H'->Q (.ref r) H'
theorem Ad:Builtin.Int.intBits ((10:Int) ^ ((60:Int).toNat))<=200:=PySem.intBits_le_iff.mpr (by decide)
theorem DX {f:Addr} {fd:FuncData} (F:lW K "_law_spring" "_law_spring" dY f fd) (Bt:vD mg):dR P w K mg base lC 1 f fd ["script"] (pW K):=by
 refine F.ok fU (fun vs H Q E h=> ?_) (fun cdv A outer s H vs Q E hr h=> ?_)
 ·obtain ⟨a,ns,rfl,_⟩:=h
  rfl
 ·obtain ⟨a,ns,rfl,hs,hlen,k⟩:=h
  refine ⟨_,(au (aW (i:=1) fU.nd rfl (Or.inl rfl) aA)
   (au (aW (i:=2) fU.nd rfl (Or.inl rfl) aA)
   (au (dN PassesOwn.never rfl (cP (K:=K) rfl (d9 (mj (K:=K) rfl) (pv 0) gA (gq aA))) (aO (i:=3) fU.nd rfl (Or.inl rfl))
   (au (fD (bU BJ (aU xX (by rfl) Bt.NQ Jl (aj (pv 3) ao)) (bF zN aA aA) (bG _)) (aF (aW (i:=1) fU.nd rfl (Or.inl rfl) (bF dO (bF KC (pv 1) (bF zN aA aA)) (bF je (aU xX (by rfl) Bt.NQ Jl (aj (pv 3) ao)) (bF zN aA aA))))) bY)
   (aF (aW (i:=2) fU.nd rfl (Or.inl rfl) (bF je (bF dO (bF dO (bF uJ (pv 2) aA) (bF je (pv 3) aA)) aA) aA)))))
   (aF (bA (eN (aj (pv 1) (aj (pv 2) (aj aA ao))))))))), ?_⟩
  refine ⟨_,rfl,_,rfl,_,_,rfl,hs,fun p hp=> ?_⟩
  have Zy:jz (ns.map V.int) none (some 63)=ns.map V.int:=by
   unfold jz;rw [HT.qe,show (some (63:Int))=some ((63:Nat):Int) from rfl,HT.uD,List.length_map,List.drop_zero,Nat.min_eq_right hlen,Nat.sub_zero,List.take_of_length_le (by simp)]
  rw [Zy]
  refine ⟨p,rfl,⟨_,bf.of ak⟩,jw (K:=K) (a:=p) (xs:=ns.map V.int) (fun i σ H2=>∃(f t:Int) (v:Option V),σ=[some (.ref a),some (.int f),some (.int t),v]/\H2=upd H p (.lst (ns.map V.int))/\0<=f/\Builtin.Int.intBits f<=201*i/\0<=t/\t<2305843009213693951)
   ⟨0,88651,none,rfl,rfl,by decide,by decide,by decide,by decide⟩ (fun i σ H2 _ ⟨_,_,_,_,e,_⟩=>by rw [e];exact bf.of ak) ?_ ?_⟩
  ·rintro i y σ H2 hi ⟨f,t,v,rfl,rfl,hf,hb,ht,m8⟩
   have hil:i<ns.length:=by have:=(List.getElem?_eq_some_iff.mp hi).1;rwa [List.length_map] at this
   obtain ⟨z,rfl⟩:∃z,y=V.int z:=by
    rw [List.getElem?_map] at hi;cases e:ns[i]? with
    | none=>rw [e] at hi;cases hi
    | some z=>rw [e] at hi;exact ⟨z,(Option.some.inj hi).symm⟩
   refine ⟨_,rfl,_,rfl,_,_,rfl,rfl,(by show Q9 10 18;exact ⟨by decide,by decide,by decide⟩),_,_,rfl,rfl,_,rfl, ?_⟩;have hcp:Q9 10 60:=⟨by decide,by decide,by decide⟩;refine Io (fun _=> ?_) (fun _=> ?_)
   ·have hmul:IntMulOk f ((10:Int) ^ ((60:Int).toNat)):=IntMulOk.of_le hb Ad (by omega)
    have hpos:(0:Int)<(10:Int) ^ ((60:Int).toNat):=by decide
    have habs:(0:Int)<=(if z<0 then -z else z) % ((10:Int) ^ ((60:Int).toNat)):=Int.emod_nonneg _ (Int.ne_of_gt hpos)
    have Tw:Builtin.Int.intBits ((if z<0 then -z else z) % ((10:Int) ^ ((60:Int).toNat)))<=200:=
     PySem.intBits_le_of_natAbs (y:=(10:Int) ^ ((60:Int).toNat)) (by have:=Int.emod_lt_of_pos (if z<0 then -z else z) hpos;omega) Ad
    refine ⟨_,rfl,_,_,rfl,rfl,hcp,_,_,rfl,rfl,hmul,_,rfl,_,rfl,_,_,rfl,rfl,hcp,_,_,rfl,rfl,hpos,_,_,rfl,rfl, ?_⟩;refine ⟨_,rfl,_,_,rfl,rfl,.inr ⟨by decide,by decide⟩,_,rfl,_,_,rfl,rfl,(by show (0:Int)<2305843009213693921;decide),_,_,rfl,rfl,_,_,rfl,rfl,_,_,rfl,rfl,(by show (0:Int)<2305843009213693951;decide), ?_⟩;refine ⟨_,_,_,rfl,rfl,Int.add_nonneg (Int.mul_nonneg hf (Int.le_of_lt hpos)) habs, ?_,Int.emod_nonneg _ (by decide),Int.emod_lt_of_pos _ (by decide)⟩;have q:=PySem.intBits_add_le (PySem.intBits_mul_le hb Ad) Tw;have:max (201*i+200) 200+1=201*(i+1):=by omega
    rw [this] at q;exact q
   ·refine ⟨_,rfl,_,_,rfl,rfl,.inr ⟨by decide,by decide⟩,_,rfl,_,_,rfl,rfl,(by show (0:Int)<2305843009213693921;decide),_,_,rfl,rfl,_,_,rfl,rfl,_,_,rfl,rfl,(by show (0:Int)<2305843009213693951;decide), ?_⟩
    exact ⟨_,_,_,rfl,rfl,hf,by omega,Int.emod_nonneg _ (by decide),Int.emod_lt_of_pos _ (by decide)⟩
  ·rintro σ H2 ⟨f,t,v,rfl,rfl,hf,hb,ht,m8⟩
   refine ⟨_,rfl,_,rfl,(by show 3<=sizeLine;decide),fun r hr'=> ?_⟩;exact k r _ ((aD hp).free hr') ⟨f,t,0,ak,hf,ht,m8,by decide⟩ ((aD hp).trans (aD hr'))
abbrev aN:=Int×Str×Int
def tD (x:aN):PyData:= .tuple [.int x.1,.str x.2.1,.int x.2.2]
theorem kh (x:aN):FN (tD x)=true:=rfl
def Dd (x:aN):Prop:=(0<=x.1/\x.1<8)/\(x.2.1 = "load" \/ x.2.1 = "store" \/ x.2.1 = "swap")/\(0<=x.2.2/\x.2.2<20)
theorem CG {H:Hp} {t:Addr} {x:aN} (h:H t=some (.tup [.int x.1,.str x.2.1,.int x.2.2])):Dat H (.ref t) (tD x):=by
 simp only [tD,Dat];exact ⟨t,_,rfl,h,by simp only [aC,Dat,and_self]⟩
theorem xP {H:Hp} {v:V} {d:PyData} (h:Dat H v d):aC H [v] [d]:=by
 simp only [aC,and_true];exact h
def cA (H:Hp) (a:Addr) (ws:List aN):Prop:=∃vs,H a=some (.lst vs)/\aC H vs (ws.map tD)
theorem cA.same {H H':Hp} {a:Addr} {ws:List aN} (h:cA H a ws) (k:Same H H'):cA H' a ws:=by
 obtain ⟨vs,e,d⟩:=h;exact ⟨vs,k _ _ e,aC.keep k.tups _ (aX _ kh ws) d⟩
theorem cA.kp {H H':Hp} {a r:Addr} {ws:List aN} {ys:List V} (h:cA H a ws) (hr:H r=some (.lst ys)) (k:Kp r H H') (n:a≠r):cA H' a ws:=by
 obtain ⟨vs,e,d⟩:=h;exact ⟨vs,k _ _ e n,aC.keep (k.tups hr) _ (aX _ kh ws) d⟩
theorem cA.J5 {H H':Hp} {a r:Addr} {ws:List aN} (h:cA H a ws) (hr:aY H r) (k:Kp r H H') (n:a≠r):cA H' a ws:=by
 obtain ⟨f,t,c,e,_⟩:=hr;exact h.kp e k n
def Gq (K:PySem.W.Frag):Sp:=fun vs H Q _=>∃(r:Addr) (most:Int),vs=[.ref r,.int most]/\aY H r/\0<=most/\most<=300 /\
 ∀(a:Addr) (ws:List aN) (H':Hp),H a=none->cA H' a ws->(∀x∈ws,Dd x)->ws.length<=300->aY H' r->Kp r H H'->Q (.ref a) H'
theorem Sx (most:Int) (h0:0<=most) (h1:most<=300) (b1 b2:Bool):∃v:Int,C_ [V.int 31,V.int 101,V.int (most+1)] ((if b1 then 1 else 0)+(if b2 then 1 else 0))=some (V.int v)/\0<v/\v<=301:=by
 cases b1<;>cases b2
 ·exact ⟨31,rfl,by decide,by decide⟩
 ·exact ⟨101,rfl,by decide,by decide⟩
 ·exact ⟨101,rfl,by decide,by decide⟩
 ·exact ⟨most+1,rfl,by omega,by omega⟩
theorem Sw (n:Int) (h0:0<=n) (h1:n<5):∃v:Int,C_ [V.int 1,V.int 2,V.int 3,V.int 5,V.int 20] n=some (V.int v)/\0<v/\v<=20:=by
 have:n=0\/n=1\/n=2\/n=3\/n=4:=by omega
 rcases this with rfl|rfl|rfl|rfl|rfl
 ·exact ⟨1,rfl,by decide,by decide⟩
 ·exact ⟨2,rfl,by decide,by decide⟩
 ·exact ⟨3,rfl,by decide,by decide⟩
 ·exact ⟨5,rfl,by decide,by decide⟩
 ·exact ⟨20,rfl,by decide,by decide⟩
def KindsOk (ks:List Str):Prop:=0<ks.length/\ks.length<=6 /\ ∀k∈ks,k = "load" \/ k = "store" \/ k = "swap"
theorem Ml {α:Type} {xs:List α} {n:Int} (h0:0<=n) (h1:n<xs.length):∃v,C_ xs n=some v/\xs[n.toNat]? = some v:=by
 obtain ⟨m,rfl⟩:=Int.eq_ofNat_of_zero_le h0;have:m<xs.length:=by omega
 exact ⟨xs[m],cO (by simp [this]),by simp [this]⟩
def wSt (a0:Addr) (a1:Int) (a2:Int) (a3:Int) (a4:Int) (a5:Int) (a6:Int) (a7:Int) (a8:Addr) (x9:Option V) (x10:Option V) (x11:Option V) (x12:Option V):St:=[some (.ref a0),some (.int a1),some (.int a2),some (.int a3),some (.int a4),some (.int a5),some (.int a6),some (.int a7),some (.ref a8),x9,x10,x11,x12]
theorem Px {f:Addr} {fd:FuncData} (F:lW K "_law_web" "_law_web" jJ f fd) (dH:FnAt P w K mg base 1 "_law_draw" ["spring","many"] (j9 K)) (Bt:vD mg):dR P w K mg base lC 2 f fd ["spring","most"] (Gq K):=by
 refine F.ok dU (fun vs H Q E h=> ?_) (fun cdv A outer s H vs Q E hr h=> ?_)
 ·obtain ⟨r,m,rfl,_⟩:=h
  rfl
 ·obtain ⟨r,most,rfl,S0,mo0,mo1,k⟩:=h
  refine ⟨_,(au (aW (i:=2) dU.nd rfl (Or.inl rfl) (bw dH (hr.mono (by decide)) (by rfl) (aj (pv 0) (aj aA ao))))
   (au (aW (i:=3) dU.nd rfl (Or.inl rfl) (bw dH (hr.mono (by decide)) (by rfl) (aj (pv 0) (aj (aM (aK (K:=K) rfl) (eN (aj aA (aj aA (aj (bF dO (pv 1) aA) ao)))) (bF dO (fW tO (by rfl) Bt.CW vd (aj (eG lH (bF je (pv 2) aA) aA (bG _)) ao)) (fW tO (by rfl) Bt.CW vd (aj (eG lH (pv 2) aA (bG _)) ao))) (fun _ _=>rfl)) ao))))
   (au (aW (i:=4) dU.nd rfl (Or.inl rfl) (bF dO aA (bw dH (hr.mono (by decide)) (by rfl) (aj (pv 0) (aj aA ao)))))
   (au (aW (i:=5) dU.nd rfl (Or.inl rfl) (bw dH (hr.mono (by decide)) (by rfl) (aj (pv 0) (aj aA ao))))
   (au (aW (i:=6) dU.nd rfl (Or.inl rfl) (aM (aK (K:=K) rfl) (eN (aj aA (aj aA (aj aA (aj aA (aj aA ao)))))) (bw dH (hr.mono (by decide)) (by rfl) (aj (pv 0) (aj aA ao))) (fun _ _=>rfl)))
   (au (aW (i:=7) dU.nd rfl (Or.inl rfl) (bw dH (hr.mono (by decide)) (by rfl) (aj (pv 0) (aj aA ao))))
   (au (aW (i:=8) dU.nd rfl (Or.inl rfl) (eN (aj fV (aj fV (aj fV ao)))))
   (au (fD (bU lH (bw dH (hr.mono (by decide)) (by rfl) (aj (pv 0) (aj aA ao))) aA (bG _)) (aF (aW (i:=8) dU.nd rfl (Or.inl rfl) (eN (aj fV (aj fV (aj fV (aj fV (aj fV (aj fV ao))))))))) bY)
   (au (aW (i:=9) dU.nd rfl (Or.inl rfl) (eN ao))
   (au (dN PassesOwn.never rfl (eV (by rfl) Bt.gD (aj (pv 3) ao)) (aO (i:=10) dU.nd rfl (Or.inl rfl))
   (au (aW (i:=11) dU.nd rfl (Or.inl rfl) (bF je (bF dO (pv 5) (bw dH (hr.mono (by decide)) (by rfl) (aj (pv 0) (aj (pv 4) ao)))) aA))
   (au (aW (i:=12) dU.nd rfl (Or.inl rfl) (aM (aK (K:=K) rfl) (pv 8) (bw dH (hr.mono (by decide)) (by rfl) (aj (pv 0) (aj (aU (aZ (K:=K) rfl) (by rfl) Bt.jB gj (aj (pv 8) ao)) ao))) (fun _ _=>rfl)))
   (aF (cY (cZ (K:=K) rfl (pv 9) (aj (lN (aj (pv 11) (aj (pv 12) (aj (bF je (bF dO (pv 7) (bw dH (hr.mono (by decide)) (by rfl) (aj (pv 0) (aj (pv 6) ao)))) aA) ao)))) ao)))))))
   (aF (bA (pv 9))))))))))))), ?_⟩
  refine jH (fun R g=> ?_);refine ⟨_,rfl,r,32,rfl,S0,by decide,by decide,fun n1 H1 a1 b1 S1 k1=> ?_⟩;refine g _ _ ?_;refine jH (fun R g=> ?_);refine ⟨_,rfl,_,rfl,_,_,rfl,rfl,(by show 3<=sizeLine;decide),fun p hp=> ?_⟩;obtain ⟨v1,e1,v10,v11⟩:=Sx most mo0 mo1 (decide (V.int (n1 % 8)=V.int 7)) (decide (V.int n1=V.int 31));have MF:=aD (o:=HO.lst [V.int 31,V.int 101,V.int (most+1)]) hp;have S1':=S1.keep MF;refine ⟨_,rfl,_,_,rfl,rfl,(by show (0:Int)<8;decide),rfl,Or.inr ⟨_,rfl,_,rfl,rfl,Or.inr ⟨_,rfl,_,_,rfl,rfl,_,_,_,_,rfl,rfl,bf.of ak,e1, ?_⟩⟩⟩;refine ⟨r,v1,rfl,S1',v10,by omega,fun n2 H2 a2 b2 S2 k2=> ?_⟩;refine g _ _ ?_;refine jH (fun R g=> ?_);refine ⟨_,rfl,r,8,rfl,S2,by decide,by decide,fun n3 H3 a3 b3 S3 k3=>⟨_,_,rfl,rfl, ?_⟩⟩;refine g _ _ ?_;refine jH (fun R g=> ?_);refine ⟨_,rfl,r,8,rfl,S3,by decide,by decide,fun n4 H4 a4 b4 S4 k4=> ?_⟩;refine g _ _ ?_;refine jH (fun R g=> ?_);refine ⟨(by show 5<=sizeLine;decide),fun p2 hp2=> ?_⟩;have JH:=aD (o:=HO.lst [V.int 1,V.int 2,V.int 3,V.int 5,V.int 20]) hp2;refine ⟨_,rfl,r,5,rfl,S4.keep JH,by decide,by decide,fun n5 H5 a5 b5 S5 k5=> ?_⟩;obtain ⟨v2,e2,v20,v21⟩:=Sw n5 a5 b5
  have np2:p2≠r:=by
   obtain ⟨f,t,c,e,_⟩:=S4;exact (aB e hp2).symm
  refine ⟨_,_,_,_,rfl,rfl,bf.of (k5 _ _ ak np2),e2, ?_⟩;refine g _ _ ?_;refine jH (fun R g=> ?_);refine ⟨_,rfl,r,20,rfl,S5,by decide,by decide,fun n6 H6 a6 b6 S6 k6=> ?_⟩;refine g _ _ ?_;have kk:Kp r H H6:=((((((k1.trans (.of_same MF)).trans k2).trans k3).trans k4).trans (.of_same JH)).trans k5).trans k6;refine jH (fun R g=> ?_);refine ⟨(by show 3<=sizeLine;decide),fun q hq=> ?_⟩;have sm3:=aD (o:=HO.lst [V.str "load",V.str "store",V.str "swap"]) hq;refine g _ _ ?_
  have nq:q≠r:=by
   obtain ⟨f,t,c,e,_⟩:=S6;exact (aB e hq).symm
  refine ⟨_,rfl,r,3,rfl,S6.keep sm3,by decide,by decide,fun n7 H7 a7 b7 S7 k7=> ?_⟩
  have rest:∀(kd:Addr) (ks:List Str) (H8:Hp),KindsOk ks->kd≠r->H8 kd=some (.lst (ks.map V.str))->aY H8 r->Kp r H H8 ->
   ∀t:TS,t=vO (Dq (Rw ud) (jZ 9)) (vO (Ry (Nm (jm (iK 3) ud)) (jZ 10)
    (vO (Dq (uc (rI (fun _ j=>0<j) fun i j=>V.int (i % j)) (uc (Kd fun i j=>V.int (i+j)) (iK 5) (vQ (j9 K) [] E0 (jm (iK 0) (jm (iK 4) ud)))) (tC (V.int 8))) (jZ 11))
      (vO (Dq (uc (Pa K) (iK 8) (vQ (j9 K) [] E0 (jm (iK 0) (jm (Wb (RX K) (jm (iK 8) ud)) ud)))) (jZ 12))
        (Mz (U7 K "list" uE (iK 9) (jm (Rr (jm (iK 11) (jm (iK 12) (jm (uc (rI (fun _ j=>0<j) fun i j=>V.int (i % j)) (uc (Kd fun i j=>V.int (i+j)) (iK 7) (vQ (j9 K) [] E0 (jm (iK 0) (jm (iK 6) ud)))) (tC (V.int 20))) ud)))) ud))))))
    (JW (iK 9))) ->
   t {nx:=fun _ H'=>Q .non H',rt:=Q} (wSt r most n1 n2 (1+n3) n4 v2 n6 kd none none none none) H8:=by
   intro kd ks H8 hks nk hk S8 k8 t et;subst et;refine ⟨(by show 0<=sizeLine;decide),fun w hw=> ?_⟩;have Rb:=aD (o:=HO.lst []) hw
   have nw:w≠r:=by
    obtain ⟨f,t,c,e,_⟩:=S8;exact (aB e hw).symm
   have nwk:w≠kd:=(aB hk hw).symm
   have fresh:H w=none:=by
    cases e:H w with
    | none=>rfl
    | some o=>rw [k8 w o e nw] at hw;cases hw
   refine ⟨_,rfl,n2,rfl,by omega,by omega,ju (lo:=0) (n:=n2.toNat) (fun i σ H2=>∃(ws:List aN) (x1 x2 x3:Option V),σ=(wSt r most n1 n2 (1+n3) n4 v2 n6 kd (some (.ref w)) x1 x2 x3) /\
    cA H2 w ws/\(∀x∈ws,Dd x)/\ws.length=i/\aY H2 r/\Kp r H H2/\H2 kd=some (.lst (ks.map V.str)))
    ⟨[],none,none,none,rfl,⟨[],ak,by simp only [List.map_nil,aC]⟩,by simp,rfl,S8.keep Rb,k8.trans (.of_same Rb),Rb _ _ hk⟩ ?_ ?_⟩
   ·rintro i σ H2 hi ⟨ws,x1,x2,x3,rfl,W2,ok2,len2,S2',SN,hk2⟩
    refine ⟨_,rfl,_,rfl,_,rfl,r,_,rfl,S2',by omega,by omega,fun m1 G1 c1 d1 T1 j1=>⟨_,_,rfl,rfl,_,_,rfl,rfl,(by show (0:Int)<8;decide), ?_⟩⟩;have hk3:=j1 _ _ hk2 nk;refine ⟨_,rfl,_,rfl,_,rfl,kd,_,rfl,.inl (bf.of hk3),r,_,rfl,T1, ?_, ?_,fun m2 G2 c2 d2 T2 j2=> ?_⟩
    ·have:=hks.1;rw [List.length_map];omega
    ·have:=hks.2.1;rw [List.length_map];omega
    rw [List.length_map] at d2;obtain ⟨kv,ek,ek'⟩:=Ml (xs:=ks.map V.str) c2 (by rw [List.length_map];exact d2)
    obtain ⟨kind,TX,rfl⟩:∃kind,ks[m2.toNat]? = some kind/\V.str kind=kv:=by
     rw [List.getElem?_map] at ek';cases e:ks[m2.toNat]? with
     | none=>rw [e] at ek';cases ek'
     | some z=>rw [e] at ek';exact ⟨z,rfl,Option.some.inj ek'⟩
    have hk4:=j2 _ _ hk3 nk;refine ⟨_,_,_,_,rfl,rfl,bf.of hk4,ek, ?_⟩;have W3:=(W2.J5 S2' j1 nw).J5 T1 j2 nw;obtain ⟨vs3,Zm,dt3⟩:=id W3;refine ⟨_,rfl,.inl ⟨rfl,_,bf.of Zm⟩,_,rfl,_,rfl,_,rfl,_,rfl,_,rfl,r,v2,rfl,T2,v20,by omega,fun m3 G3 c3 d3 T3 j3=>⟨_,_,rfl,rfl,_,_,rfl,rfl,(by show (0:Int)<20;decide),(by show 3<=sizeLine;decide),fun tp htp=> ?_⟩⟩;have W4:=W3.J5 T2 j3 nw;have smt:=aD (o:=HO.tup [V.int ((n4+m1) % 8),V.str kind,V.int ((n6+m3) % 20)]) htp;obtain ⟨V7,Zk,dt5⟩:=W4.same smt;have Yw:V7.length=i:=by rw [dt5.length,List.length_map,len2]
    refine ⟨w,V7,_,rfl,rfl,Zk,(by rw [Yw,sizeLine_eq];omega), ?_⟩;have oX:Kp w (upd G3 tp (HO.tup [V.int ((n4+m1) % 8),V.str kind,V.int ((n6+m3) % 20)])) (upd (upd G3 tp (HO.tup [V.int ((n4+m1) % 8),V.str kind,V.int ((n6+m3) % 20)])) w (HO.lst (V7++[V.ref tp]))):=Kp.set;refine ⟨ws++[((n4+m1) % 8,kind,(n6+m3) % 20)],_,_,_,rfl,⟨_,ak, ?_⟩, ?_, ?_, ?_, ?_, ?_⟩
    ·rw [List.map_append]
     refine aC.append (aC.keep (oX.tups Zk) _ (aX _ kh ws) dt5) ?_;exact xP (CG (x:=((n4+m1) % 8,kind,(n6+m3) % 20)) (oX _ _ ak (iY ak Zk (by intro z;cases z))))
    ·intro x hx
     rcases List.mem_append.mp hx with hx|hx
     ·exact ok2 x hx
     ·rw [List.mem_singleton] at hx
      subst hx;exact ⟨⟨Int.emod_nonneg _ (by decide),Int.emod_lt_of_pos _ (by decide)⟩,hks.2.2 kind (List.mem_of_getElem? TX),⟨Int.emod_nonneg _ (by decide),Int.emod_lt_of_pos _ (by decide)⟩⟩
    ·rw [List.length_append,len2];rfl
    ·exact (T3.keep smt).keep' oX nw.symm
    ·have u1:Kp r H G3:=((SN.trans j1).trans j2).trans j3
     intro b o e n;refine oX b o (smt b o (u1 b o e n)) ?_;rintro rfl;rw [fresh] at e;cases e
    ·exact oX _ _ (smt _ _ (j3 _ _ hk4 nk)) nwk.symm
   ·rintro σ H2 ⟨ws,x1,x2,x3,rfl,W2,ok2,len2,S2',SN,hk2⟩
    exact ⟨_,rfl,k w ws H2 fresh W2 ok2 (by omega) S2' SN⟩
  refine ⟨rfl,_,rfl, ?_⟩;have hq7:=k7 _ _ (ak (H:=H6) (a:=q) (o:=HO.lst [V.str "load",V.str "store",V.str "swap"])) nq;have k67:Kp r H H7:=(kk.trans (.of_same sm3)).trans k7;refine Io (fun _=> ?_) (fun _=> ?_)
  ·refine ⟨(by show 6<=sizeLine;decide),fun q2 hq2=> ?_⟩
   have Ou:=aD (o:=HO.lst [V.str "load",V.str "load",V.str "load",V.str "load",V.str "store",V.str "swap"]) hq2
   have nq2:q2≠r:=by
    obtain ⟨f,t,c,e,_⟩:=S7;exact (aB e hq2).symm
   exact rest q2 ["load","load","load","load","store","swap"] _ ⟨by decide,by decide,by simp⟩ nq2 ak (S7.keep Ou) (k67.trans (.of_same Ou)) _ rfl
  ·exact rest q ["load","store","swap"] _ ⟨by decide,by decide,by simp⟩ nq hq7 S7 k67 _ rfl
theorem oJ {H:Hp} {v:V} {x:aN} (h:Dat H v (tD x)):∃t,v = .ref t/\H t=some (.tup [.int x.1,.str x.2.1,.int x.2.2]):=by
 simp only [tD,Dat] at h;obtain ⟨t,vs,e,q,d⟩:=h
 match vs,d with
 | [a,b,c],d=>
   simp only [aC,Dat,and_true] at d;obtain ⟨rfl,rfl,rfl⟩:=d;exact ⟨t,e,q⟩
 | [],d=>simp only [aC] at d
 | [_],d=>simp only [aC,and_false] at d
 | [_,_],d=>simp only [aC,and_false] at d
 | _::_::_::_::_,d=>simp only [aC,and_false] at d
theorem Qz (x y:aN):PyData.eqv (tD x) (tD y)=decide (x=y):=by
 obtain ⟨a,b,c⟩:=x;obtain ⟨a',b',c'⟩:=y;simp only [tD,PyData.eqv,PyData.eqvAll,Bool.and_true]
 by_cases e1:a=a'
 ·subst e1
  by_cases e2:b=b'
  ·subst e2
   by_cases e3:c=c'
   ·subst e3;simp
   ·simp [e3]
  ·simp [e2]
 ·simp [e1]
theorem p8 {ws:List aN} (ok:∀x∈ws,Dd x):SeqAt.shaped (.list (ws.map tD))=true:=by
 refine oA tD 1 (by decide) (fun x hx=> ?_) (fun x _=>by show (max 0 (max 0 (max 0 0)))+1<=1;decide);have e:PyData.canLay0 (tD x)=(true&&(PyData.strOk x.2.1&&(true&&true))):=rfl;rw [e];rcases (ok x hx).2.1 with q|q|q<;>rw [q]<;>decide +kernel
theorem iR {H:Hp} {a:Addr} {ws:List aN} {i:Nat} {x:aN} (h:cA H a ws) (e:ws[i]? = some x):∃vs t,H a=some (.lst vs)/\vs[i]? = some (.ref t)/\H t=some (.tup [.int x.1,.str x.2.1,.int x.2.2]):=by
 obtain ⟨vs,ha,d⟩:=h;obtain ⟨v,ev,dv⟩:=d.getD (i:=i) (d:=tD x) (by rw [List.getElem?_map,e];rfl);obtain ⟨t,rfl,ht⟩:=oJ dv;exact ⟨vs,t,ha,ev,ht⟩
def mt (x y:aN):Bool:=if x.1=y.1 then false else if x.2.2=y.2.2 then (if x.2.1 = "load" then !decide (y.2.1 = "load") else true) else false
def yZ (K:PySem.W.Frag):Sp:=fun vs H Q _=>∃(a b:Addr) (x y:aN),vs=[.ref a,.ref b]/\H a=some (.tup [.int x.1,.str x.2.1,.int x.2.2])/\H b=some (.tup [.int y.1,.str y.2.1,.int y.2.2])/\Q (.bl (mt x y)) H
theorem B_ {K:PySem.W.Frag} {a b:Addr} {x y:aN} {H:Hp} {Q:VK} (ha:H a=some (.tup [.int x.1,.str x.2.1,.int x.2.2])) (hb:H b=some (.tup [.int y.1,.str y.2.1,.int y.2.2])) (k:Q (.bl (mt x y)) H) {D:Ends} (hD:D.rt=Q):
 (vO (Rx (tOr (Gk (uc rEq (uc (wj K) (iK 0) (tC (.int 0))) (uc (wj K) (iK 1) (tC (.int 0))))) (Gk (uc Vc (uc (wj K) (iK 0) (tC (.int 2))) (uc (wj K) (iK 1) (tC (.int 2)))))) (JW (tC (.bl false))) Mx)
   (JW (Ru (uc Vc (uc (wj K) (iK 0) (tC (.int 1))) (tC (.str "load"))) (uc Vc (uc (wj K) (iK 1) (tC (.int 1))) (tC (.str "load")))))) D [some (.ref a),some (.ref b)] H:=by
 refine ⟨_,rfl,_,_,_,_,rfl,rfl,dG.of ha,rfl,_,rfl,_,_,_,_,rfl,rfl,dG.of hb,rfl,rfl,_,rfl, ?_⟩;refine Io (fun h1=> ?_) (fun h1=> ?_)
 ·have e:x.1=y.1:=by injection (of_decide_eq_true h1)
  have em:mt x y=false:=by unfold mt;rw [if_pos e]
  refine (show D.rt (.bl false) H from ?_);rw [hD,←em];exact k
 ·have e:¬x.1=y.1:=fun z=>h1 (decide_eq_true (by rw [z]))
  refine ⟨_,rfl,_,_,_,_,rfl,rfl,dG.of ha,rfl,_,rfl,_,_,_,_,rfl,rfl,dG.of hb,rfl,rfl,_,rfl, ?_⟩
  by_cases e2:x.2.2=y.2.2
  ·refine mL (by rw [e2]) ?_
   refine ⟨_,rfl,_,_,_,_,rfl,rfl,dG.of ha,rfl,rfl,_,rfl, ?_⟩
   by_cases e3:x.2.1 = "load"
   ·refine mL (by rw [e3]) ?_
    refine ⟨_,rfl,_,_,_,_,rfl,rfl,dG.of hb,rfl,rfl, ?_⟩
    have em:mt x y = !decide (V.str y.2.1=V.str "load"):=by
     unfold mt;rw [if_neg e,if_pos e2,if_pos e3];congr 1;rw [Bool.eq_iff_iff,decide_eq_true_iff,decide_eq_true_iff];exact ⟨fun z=>by rw [z],fun z=>by injection z⟩
    rw [←em,hD];exact k
   ·have ne:¬V.str x.2.1=V.str "load" :=fun z=>e3 (by injection z)
    rw [decide_eq_false ne];refine fY ?_;have em:mt x y=true:=by unfold mt;rw [if_neg e,if_pos e2,if_neg e3]
    rw [←em,hD];exact k
  ·have ne:¬V.int x.2.2=V.int y.2.2:=fun z=>e2 (by injection z)
   rw [decide_eq_false ne];refine fY ?_;have em:mt x y=false:=by unfold mt;rw [if_neg e,if_neg e2]
   refine (show D.rt (.bl false) H from ?_);rw [hD,←em];exact k
theorem oW {f:Addr} {fd:FuncData} (F:lW K "touches_meet" "touches_meet" bK f fd):dR P w K mg base lC 1 f fd ["one","other"] (yZ K):=by
 refine F.ok oU (fun vs H Q E h=> ?_) (fun cdv A outer s H vs Q E hr h=> ?_)
 ·obtain ⟨a,b,x,y,rfl,_⟩:=h
  rfl
 ·obtain ⟨a,b,x,y,rfl,ha,hb,k⟩:=h
  exact ⟨_,(au (fD (PW.pt (lF (bU lH (aM (aQ (K:=K) rfl) (pv 0) aA (fun _ _=>rfl)) (aM (aQ (K:=K) rfl) (pv 1) aA (fun _ _=>rfl)) (bG _)) (jL (bU lG (aM (aQ (K:=K) rfl) (pv 0) aA (fun _ _=>rfl)) (aM (aQ (K:=K) rfl) (pv 1) aA (fun _ _=>rfl)) (bG _))))) (aF (bA iU)) bY)
   (aF (bA (Bv (eG lG (aM (aQ (K:=K) rfl) (pv 0) aA (fun _ _=>rfl)) fV (bG _)) (lO (eG lG (aM (aQ (K:=K) rfl) (pv 1) aA (fun _ _=>rfl)) fV (bG _))))))),B_ (K:=K) ha hb k rfl⟩
theorem D_ {f:Addr} {fd:FuncData} (F:lW K "_law_meets" "_law_meets" fB f fd):dR P w K mg base lC 1 f fd ["one","other"] (yZ K):=by
 refine F.ok Dy (fun vs H Q E h=> ?_) (fun cdv A outer s H vs Q E hr h=> ?_)
 ·obtain ⟨a,b,x,y,rfl,_⟩:=h
  rfl
 ·obtain ⟨a,b,x,y,rfl,ha,hb,k⟩:=h
  exact ⟨_,(au (fD (PW.pt (lF (bU lH (aM (aQ (K:=K) rfl) (pv 0) aA (fun _ _=>rfl)) (aM (aQ (K:=K) rfl) (pv 1) aA (fun _ _=>rfl)) (bG _)) (jL (bU lG (aM (aQ (K:=K) rfl) (pv 0) aA (fun _ _=>rfl)) (aM (aQ (K:=K) rfl) (pv 1) aA (fun _ _=>rfl)) (bG _))))) (aF (bA iU)) bY)
   (aF (bA (Bv (eG lG (aM (aQ (K:=K) rfl) (pv 0) aA (fun _ _=>rfl)) fV (bG _)) (lO (eG lG (aM (aQ (K:=K) rfl) (pv 1) aA (fun _ _=>rfl)) fV (bG _))))))),B_ (K:=K) ha hb k rfl⟩
def yK (ws:List aN) (i j:Nat):Bool:=match ws[i]?,ws[j]? with |some x,some y=>decide (x.1=y.1)||mt x y|_,_=>false
def dh (ws:List aN) (i j:Nat):Bool:=decide (i<j)&&yK ws i j
theorem bD {ws:List aN} {i j:Nat} (h:dh ws i j=true):i<j/\j<ws.length:=by
 unfold dh yK at h;simp only [Bool.and_eq_true,decide_eq_true_eq] at h;refine ⟨h.1, ?_⟩
 by_cases l:j<ws.length
 ·exact l
 ·have e:ws[j]? = none:=by simp;(clear h;omega)
  rw [e] at h;cases ws[i]? <;> simp at h
theorem jV {vs:List V} {i:Nat} {v:V} (h:vs[i]? = some v):C_ vs (i:Int)=some v:=cO h
def yX (K:PySem.W.Frag):Sp:=fun vs H Q _=>∃(a:Addr) (ws:List aN) (i j:Nat),vs=[.ref a,.int i,.int j]/\cA H a ws/\i<ws.length/\j<ws.length/\Q (.bl (dh ws i j)) H
theorem zP {f:Addr} {fd:FuncData} (F:lW K "is_step" "is_step" dW f fd) (iJ:FnAt P w K mg base 1 "touches_meet" ["one","other"] (yZ K)):dR P w K mg base lC 2 f fd ["web","place","later"] (yX K):=by
 refine F.ok zq (fun vs H Q E h=> ?_) (fun cdv A outer s H vs Q E hr h=> ?_)
 ·obtain ⟨a,ws,i,j,rfl,_⟩:=h
  rfl
 ·obtain ⟨a,ws,i,j,rfl,W,hi,hj,k⟩:=h
  refine ⟨_,(au (fD (bU BJ (pv 1) (pv 2) (bG _)) (aF (bA iU)) bY)
   (aF (bA (Bv (eG lH (aM (aQ (K:=K) rfl) (aM (aK (K:=K) rfl) (pv 0) (pv 1) (fun _ _=>rfl)) aA (fun _ _=>rfl)) (aM (aQ (K:=K) rfl) (aM (aK (K:=K) rfl) (pv 0) (pv 2) (fun _ _=>rfl)) aA (fun _ _=>rfl)) (bG _)) (lO (bw iJ (hr.mono (by decide)) (by rfl) (aj (aM (aK (K:=K) rfl) (pv 0) (pv 1) (fun _ _=>rfl)) (aj (aM (aK (K:=K) rfl) (pv 0) (pv 2) (fun _ _=>rfl)) ao)))))))), ?_⟩
  refine ⟨_,rfl,_,rfl,_,_,rfl,rfl,_,rfl, ?_⟩
  by_cases l:i<j
  ·rw [decide_eq_false (show ¬(j:Int)<=(i:Int) by omega)]
   refine gG ?_;obtain ⟨x,ex⟩:∃x,ws[i]? = some x:=⟨ws[i],by simp [hi]⟩;obtain ⟨y,ey⟩:∃y,ws[j]? = some y:=⟨ws[j],by simp [hj]⟩;obtain ⟨vs,t1,ha,e1,ht1⟩:=iR W ex;obtain ⟨vs',t2,ha',e2,m8⟩:=iR W ey;have ev:vs=vs':=by rw [ha] at ha';injection ha' with q;injection q
   subst ev;have es:dh ws i j=(decide (x.1=y.1)||mt x y):=by unfold dh yK;rw [ex,ey,decide_eq_true l,Bool.true_and]
   refine ⟨_,rfl,_,rfl,_,_,_,_,rfl,rfl,bf.of ha,jV e1,_,_,_,_,rfl,rfl,dG.of ht1,rfl,_,rfl,_,rfl,_,_,_,_,rfl,rfl,bf.of ha,jV e2,_,_,_,_,rfl,rfl,dG.of m8,rfl,rfl,_,rfl, ?_⟩
   by_cases q:x.1=y.1
   ·rw [show decide (V.int x.1=V.int y.1)=true by simp [q]]
    refine fY ?_;rw [decide_eq_true q,Bool.true_or] at es;rw [←es];exact k
   ·rw [show decide (V.int x.1=V.int y.1)=false by simp [q]]
    refine gG ?_;rw [decide_eq_false q,Bool.false_or] at es;exact ⟨_,rfl,_,rfl,_,_,_,_,rfl,rfl,bf.of ha,jV e1,_,rfl,_,rfl,_,_,_,_,rfl,rfl,bf.of ha,jV e2,t1,t2,x,y,rfl,ht1,m8,by rw [←es];exact k⟩
  ·rw [decide_eq_true (show (j:Int)<=(i:Int) by omega)]
   refine fY ?_;have es:dh ws i j=false:=by unfold dh;rw [decide_eq_false l,Bool.false_and]
   rw [←es];exact k
inductive gH (ws:List aN) (j:Nat):Nat->Prop
 | one {i:Nat} (h:dh ws i j=true):gH ws j i
 | more {i k:Nat} (h:dh ws i k=true) (r:gH ws j k):gH ws j i
theorem gH.lt {ws:List aN} {i j:Nat} (r:gH ws j i):i<j/\j<ws.length:=by
 induction r with
 | one h=>exact bD h
 | more h _ ih=>exact ⟨Nat.lt_trans (bD h).1 ih.1,ih.2⟩
def uw (K:PySem.W.Frag):Sp:=fun vs H Q _=>∃(a b:Addr) (x y:aN),vs=[.ref a,.ref b]/\H a=some (.tup [.int x.1,.str x.2.1,.int x.2.2])/\H b=some (.tup [.int y.1,.str y.2.1,.int y.2.2])/\Q (.bl (decide (x.1=y.1)||mt x y)) H
theorem Hx {f:Addr} {fd:FuncData} (F:lW K "_law_step" "_law_step" h_ f fd) (JD:FnAt P w K mg base 1 "_law_meets" ["one","other"] (yZ K)):dR P w K mg base lC 2 f fd ["one","other"] (uw K):=by
 refine F.ok GC (fun vs H Q E h=> ?_) (fun cdv A outer s H vs Q E hr h=> ?_)
 ·obtain ⟨a,b,x,y,rfl,_⟩:=h
  rfl
 ·obtain ⟨a,b,x,y,rfl,ha,hb,k⟩:=h
  refine ⟨_,(aF (bA (Bv (eG lH (aM (aQ (K:=K) rfl) (pv 0) aA (fun _ _=>rfl)) (aM (aQ (K:=K) rfl) (pv 1) aA (fun _ _=>rfl)) (bG _)) (lO (bw JD (hr.mono (by decide)) (by rfl) (aj (pv 0) (aj (pv 1) ao))))))), ?_⟩;refine ⟨_,rfl,_,_,_,_,rfl,rfl,dG.of ha,rfl,_,rfl,_,_,_,_,rfl,rfl,dG.of hb,rfl,rfl,_,rfl, ?_⟩
  by_cases q:x.1=y.1
  ·rw [show decide (V.int x.1=V.int y.1)=true by simp [q]]
   rw [decide_eq_true q,Bool.true_or] at k;exact fY k
  ·rw [show decide (V.int x.1=V.int y.1)=false by simp [q]]
   rw [decide_eq_false q,Bool.false_or] at k;exact gG ⟨_,rfl,_,rfl,a,b,x,y,rfl,ha,hb,k⟩
abbrev Nt:=Int×Int×Int×Int
def nD (x:Nt):PyData:= .tuple [.int x.1,.int x.2.1,.int x.2.2.1,.int x.2.2.2]
def nV (x:Nt):List V:=[.int x.1,.int x.2.1,.int x.2.2.1,.int x.2.2.2]
theorem jQ (x:Nt):FN (nD x)=true:=rfl
theorem T8 {H:Hp} {v:V} {d:PyData} (h:Dat H v d):aC H [v] [d]:=by
 simp only [aC,and_true];exact h
theorem qN {H:Hp} {t:Addr} {x:Nt} (h:H t=some (.tup (nV x))):Dat H (.ref t) (nD x):=by
 simp only [nD,Dat];exact ⟨t,_,rfl,h,by simp only [nV,aC,Dat,and_self]⟩
theorem jR {H:Hp} {v:V} {x:Nt} (h:Dat H v (nD x)):∃t,v = .ref t/\H t=some (.tup (nV x)):=by
 simp only [nD,Dat] at h;obtain ⟨t,vs,e,q,d⟩:=h
 match vs,d with
 | [a,b,c,z],d=>
   simp only [aC,Dat,and_true] at d;obtain ⟨rfl,rfl,rfl,rfl⟩:=d;exact ⟨t,e,q⟩
 | [],d=>simp only [aC] at d
 | [_],d=>simp only [aC,and_false] at d
 | [_,_],d=>simp only [aC,and_false] at d
 | [_,_,_],d=>simp only [aC,and_false] at d
 | _::_::_::_::_::_,d=>simp only [aC,and_false] at d
def cM (H:Hp) (a:Addr) (ns:List Nt):Prop:=∃vs,H a=some (.lst vs)/\aC H vs (ns.map nD)
theorem cM.kp {H H':Hp} {a r:Addr} {ns:List Nt} (h:cM H a ns) (hr:∀a xs,H a=some (HO.tup xs)->H' a=some (HO.tup xs)) (k:Kp r H H') (n:a≠r):cM H' a ns:=by
 obtain ⟨vs,e,d⟩:=h;exact ⟨vs,k _ _ e n,aC.keep hr _ (aX _ jQ ns) d⟩
theorem cM.same {H H':Hp} {a:Addr} {ns:List Nt} (h:cM H a ns) (k:Same H H'):cM H' a ns:=by
 obtain ⟨vs,e,d⟩:=h;exact ⟨vs,k _ _ e,aC.keep k.tups _ (aX _ jQ ns) d⟩
theorem mJ {H:Hp} {vs:List V} {ns:List Nt} {i:Nat} {v:V} (d:aC H vs (ns.map nD)) (e:vs[i]? = some v):∃x t,ns[i]? = some x/\v = .ref t/\H t=some (.tup (nV x)):=by
 obtain ⟨q,eq,dq⟩:=d.get e;rw [List.getElem?_map] at eq;cases ex:ns[i]? with
 | none=>rw [ex] at eq;cases eq
 | some x=>
   rw [ex] at eq;cases eq;obtain ⟨t,rfl,ht⟩:=jR dq;exact ⟨x,t,rfl,rfl,ht⟩
def gI (cs:List Int) (h:Int):Int:=(cs[h.toNat]?).getD 0
theorem Ak {cs:List Int} {h:Int} (h0:0<=h) (h1:h<cs.length):C_ (cs.map V.int) h=some (.int (gI cs h)):=by
 obtain ⟨m,rfl⟩:=Int.eq_ofNat_of_zero_le h0;have:m<cs.length:=by (clear h0;omega)
 refine cO ?_;simp [gI,this]
theorem Qs {cs:List Int} {i:Nat} {c:Int} (h:cs[i]? = some c):gI cs i=c:=by simp [gI,h]
theorem Cm {n:Nat} {i:Int} (h0:0<=i) (h1:i<n):Lf n i=some i.toNat:=by unfold Lf;rw [if_pos h0,if_pos h1]
theorem IK {cs:List Int} {h k v:Int} (h0:0<=h) (h1:h<cs.length) (k0:0<=k):gI (cs.set h.toNat v) k=if k=h then v else gI cs k:=by
 unfold gI;rw [List.getElem?_set]
 by_cases e:k=h
 ·subst e
  have:k.toNat<cs.length:=by (clear h0;omega)
  simp [this]
 ·have:¬h.toNat=k.toNat:=by (clear h1;omega)
  simp [e,this]
abbrev lA:=Int×Int
def pD (x:lA):PyData:= .tuple [.int x.1,.int x.2]
theorem jP (x:lA):FN (pD x)=true:=rfl
theorem uZ {H:Hp} {t:Addr} {x:lA} (h:H t=some (.tup [.int x.1,.int x.2])):Dat H (.ref t) (pD x):=by
 simp only [pD,Dat];exact ⟨t,_,rfl,h,by simp only [aC,Dat,and_self]⟩
theorem oK {H:Hp} {v:V} {x:lA} (h:Dat H v (pD x)):∃t,v = .ref t/\H t=some (.tup [.int x.1,.int x.2]):=by
 simp only [pD,Dat] at h;obtain ⟨t,vs,e,q,d⟩:=h
 match vs,d with
 | [a,b],d=>
   simp only [aC,Dat,and_true] at d;obtain ⟨rfl,rfl⟩:=d;exact ⟨t,e,q⟩
 | [],d=>simp only [aC] at d
 | [_],d=>simp only [aC,and_false] at d
 | _::_::_::_,d=>simp only [aC,and_false] at d
def gQ (H:Hp) (a:Addr) (ps:List lA):Prop:=∃vs,H a=some (.lst vs)/\aC H vs (ps.map pD)
theorem gQ.same {H H':Hp} {a:Addr} {ws:List lA} (h:gQ H a ws) (k:Same H H'):gQ H' a ws:=by
 obtain ⟨vs,e,d⟩:=h;exact ⟨vs,k _ _ e,aC.keep k.tups _ (aX _ jP ws) d⟩
theorem gQ.kp {H H':Hp} {a r:Addr} {ws:List lA} {ys:List V} (h:gQ H a ws) (hr:H r=some (.lst ys)) (k:Kp r H H') (n:a≠r):gQ H' a ws:=by
 obtain ⟨vs,e,d⟩:=h;exact ⟨vs,k _ _ e n,aC.keep (k.tups hr) _ (aX _ jP ws) d⟩
theorem pC {H:Hp} {vs:List V} {ps:List lA} {i:Nat} {v:V} (d:aC H vs (ps.map pD)) (e:vs[i]? = some v):∃x t,ps[i]? = some x/\v = .ref t/\H t=some (.tup [.int x.1,.int x.2]):=by
 obtain ⟨q,eq,dq⟩:=d.get e;rw [List.getElem?_map] at eq;cases ex:ps[i]? with
 | none=>rw [ex] at eq;cases eq
 | some x=>
   rw [ex] at eq;cases eq;obtain ⟨t,rfl,ht⟩:=oK dq;exact ⟨x,t,rfl,rfl,ht⟩
def cnt (ws:List aN) (h:Int):Int:=((ws.filter fun x=>decide (x.1=h)).length:Int)
theorem eE (ws:List aN) (x:aN) (h:Int):cnt (ws++[x]) h=if h=x.1 then cnt ws h+1 else cnt ws h:=by
 unfold cnt;rw [List.filter_append,List.length_append]
 by_cases e:h=x.1
 ·subst e;simp
 ·rw [if_neg e]
  have:¬x.1=h:=fun z=>e z.symm;simp [this]
def hnd (ws:List aN) (i:Nat):Int:=match ws[i]? with |some x=>x.1|none=>0
theorem bM {ws:List aN} {i:Nat} {x:aN} (h:ws[i]? = some x):hnd ws i=x.1:=by unfold hnd;rw [h]
def nm (ws:List aN):List lA:=(List.range ws.length).map fun i=>(hnd ws i,cnt (ws.take i) (hnd ws i))
theorem K3 (ws:List aN) (x:aN):nm (ws++[x])=nm ws++[(x.1,cnt ws x.1)]:=by
 unfold nm;rw [List.length_append,List.length_singleton,List.range_succ,List.map_append];congr 1
 ·refine List.map_congr_left fun i hi=> ?_
  have hi':i<ws.length:=by simpa using hi
  unfold hnd;rw [List.getElem?_append_left hi',List.take_append_of_le_length (by omega)]
 ·simp [hnd]
theorem cQ (ws:List aN):(nm ws).length=ws.length:=by unfold nm;simp
def lZ (K:PySem.W.Frag):Sp:=fun vs H Q _=>∃(a:Addr) (ws:List aN),vs=[.ref a]/\cA H a ws/\ws.length<=1000 /\ ∀(r:Addr) (H':Hp),H r=none->gQ H' r (nm ws)->Same H H'->Q (.ref r) H'
theorem Hu {f:Addr} {fd:FuncData} (F:lW K "names" "names" gZ f fd):dR P w K mg base lC 1 f fd ["web"] (lZ K):=by
 refine F.ok j_ (fun vs H Q E h=> ?_) (fun cdv A outer s H vs Q E hr h=> ?_)
 ·obtain ⟨a,ws,rfl,_⟩:=h
  rfl
 ·obtain ⟨a,ws,rfl,W,hlen,k⟩:=h
  have hu:=lM hr
  refine ⟨_,(au (aW (i:=1) j_.nd rfl (Or.inl rfl) wA)
   (au (aW (i:=2) j_.nd rfl (Or.inl rfl) (eN ao))
   (au (dN PassesOwn.never rfl (cP (K:=K) rfl (pv 0)) (aO (i:=3) j_.nd rfl (Or.inl rfl))
   (au (aW (i:=4) j_.nd rfl (Or.inl rfl) (qw hu (pv 1) (aM (aQ (K:=K) rfl) (pv 3) aA (fun _ _=>rfl)) aA ⟨rfl,rfl,rfl,rfl⟩))
   (au (cY (cZ (K:=K) rfl (pv 2) (aj (lN (aj (aM (aQ (K:=K) rfl) (pv 3) aA (fun _ _=>rfl)) (aj (pv 4) ao))) ao)))
   (aF (uG hu (pv 1) (aM (aQ (K:=K) rfl) (pv 3) aA (fun _ _=>rfl)) (bF dO (pv 4) aA) rfl)))))
   (aF (bA (pv 2)))))), ?_⟩
  obtain ⟨vs,ha,dv⟩:=id W;have Dh:vs.length=ws.length:=by rw [dv.length,List.length_map]
  intro d hd;have MF:=aD (o:=HO.dK []) hd;refine ⟨(by show 0<=sizeLine;decide),fun p hp=> ?_⟩;have JH:=aD (o:=HO.lst []) hp;have Vi:d≠p:=aB ak hp;have hp0:H p=none:=MF.free hp
  refine ⟨_,rfl,a,rfl,⟨_,bf.of (JH _ _ (MF _ _ ha))⟩,jw (K:=K) (a:=a) (xs:=vs) (fun i σ H2=>∃(kvs:List (Key×V)) (x1 x2:Option V),σ=[some (.ref a),some (.ref d),some (.ref p),x1,x2]/\Same H H2 /\
   H2 d=some (.dK kvs)/\kvs.length<=i/\(∀h:Int,(fL kvs (Sum.inl h)).getD (.int 0) = .int (cnt (ws.take i) h))/\gQ H2 p (nm (ws.take i)))
   ⟨[],none,none,rfl,MF.trans JH,JH _ _ ak,Nat.zero_le _,fun h=>rfl,⟨[],ak,by simp only [List.take_zero,nm,List.length_nil,List.range_zero,List.map_nil,aC]⟩⟩ (fun i σ H2 _ ⟨_,_,_,_,sm,_⟩=>bf.of (sm _ _ ha)) ?_ ?_⟩
  ·rintro i y σ H2 hi ⟨kvs,x1,x2,rfl,sm,hd2,kl,hval,PA⟩
   have hil:i<ws.length:=by have:=(List.getElem?_eq_some_iff.mp hi).1;omega
   obtain ⟨x,ex⟩:∃x,ws[i]? = some x:=⟨ws[i],by simp [hil]⟩;obtain ⟨dd,ed,dy⟩:=dv.get hi;rw [List.getElem?_map,ex] at ed;cases ed;obtain ⟨t,rfl,ht⟩:=oJ dy;have m8:H2 t=some (.tup [.int x.1,.str x.2.1,.int x.2.2]):=sm.tups _ _ ht;have tk:ws.take (i+1)=ws.take i++[x]:=by rw [List.take_add_one,ex];rfl
   have V9:(ws.take i).length=i:=by rw [List.length_take];omega
   refine ⟨_,rfl,d,rfl,.inl ⟨_,.inl hd2⟩,_,rfl,_,_,_,_,rfl,rfl,dG.of m8,rfl,_,jh.k (k:=Sum.inl x.1) hd2, ?_⟩;rw [hval x.1];obtain ⟨ts,hts,T5⟩:=id PA;refine ⟨_,rfl,.inl ⟨rfl,_,bf.of hts⟩,_,rfl,_,_,_,_,rfl,rfl,dG.of m8,rfl,_,rfl,(by show 2<=sizeLine;decide),fun q hq=> ?_⟩;have sm3:=aD (o:=HO.tup [V.int x.1,V.int (cnt (ws.take i) x.1)]) hq;have Ip:=sm3 _ _ hts;have Rp:ts.length=i:=by rw [T5.length,List.length_map,cQ,V9]
   refine ⟨p,ts,_,rfl,rfl,Ip,(by rw [Rp,sizeLine_eq];omega), ?_⟩;have oX:Kp p (upd H2 q (HO.tup [V.int x.1,V.int (cnt (ws.take i) x.1)])) (upd (upd H2 q (HO.tup [V.int x.1,V.int (cnt (ws.take i) x.1)])) p (HO.lst (ts++[V.ref q]))):=Kp.set;have Tv:=oX _ _ (sm3 _ _ hd2) Vi;refine ⟨_,rfl,_,_,rfl,rfl,_,rfl,_,rfl,_,_,_,_,rfl,rfl,dG.of (oX.tups Ip _ _ (sm3.tups _ _ m8)),rfl,d,_,rfl,vq.k (k:=Sum.inl x.1) Tv (Ds (by omega)), ?_⟩;refine ⟨putK kvs (Sum.inl x.1) (V.int (cnt (ws.take i) x.1+1)),_,_,rfl, ?_,ak, ?_,fun h=> ?_, ?_⟩
   ·intro b o e
    have nb:b≠p:=aB e hp0;have nb2:b≠d:=aB e hd;rw [aP nb2];exact oX b o (sm3 b o (sm b o e)) nb
   ·exact Nat.le_trans (gF ..) (by omega)
   ·rw [pP,tk,eE]
    by_cases e:h=x.1
    ·subst e
     rw [if_pos rfl,if_pos rfl];rfl
    ·rw [if_neg (fun z=>e (Sum.inl.inj z)),if_neg e]
     exact hval h
   ·rw [tk,K3]
    have kd2:Kp d (upd (upd H2 q (HO.tup [V.int x.1,V.int (cnt (ws.take i) x.1)])) p (HO.lst (ts++[V.ref q]))) (upd (upd (upd H2 q (HO.tup [V.int x.1,V.int (cnt (ws.take i) x.1)])) p (HO.lst (ts++[V.ref q]))) d (HO.dK (putK kvs (Sum.inl x.1) (V.int (cnt (ws.take i) x.1+1))))):=Kp.set
    have Ro:∀a xs,(upd H2 q (HO.tup [V.int x.1,V.int (cnt (ws.take i) x.1)])) a=some (HO.tup xs)->(upd (upd (upd H2 q (HO.tup [V.int x.1,V.int (cnt (ws.take i) x.1)])) p (HO.lst (ts++[V.ref q]))) d (HO.dK (putK kvs (Sum.inl x.1) (V.int (cnt (ws.take i) x.1+1))))) a=some (HO.tup xs):=fun a xs hx=>
     kd2.tups' Tv _ _ (oX.tups Ip _ _ hx)
    refine ⟨_,kd2 _ _ ak Vi.symm, ?_⟩;rw [List.map_append];refine aC.append (aC.keep (fun a xs hx=>Ro a xs (sm3.tups _ _ hx)) _ (aX _ jP _) T5) (xP (uZ (x:=(x.1,cnt (ws.take i) x.1)) ?_));exact kd2 _ _ (oX _ _ ak (iY ak Ip (by intro z;cases z))) (iY (oX _ _ ak (iY ak Ip (by intro z;cases z))) Tv (by intro z;cases z))
  ·rintro σ H2 ⟨kvs,x1,x2,rfl,sm,hd2,kl,hval,PA⟩
   rw [Dh,List.take_length] at PA;exact ⟨_,rfl,k p H2 hp0 PA sm⟩
theorem v8 {ws:List aN} {j m:Nat} (r:gH ws j m):∃i,dh ws i j=true/\(m=i\/gH ws i m):=by
 induction r with
 | one h=>exact ⟨_,h,.inl rfl⟩
 | more h _ ih=>
   obtain ⟨i,st,q⟩:=ih;refine ⟨i,st,.inr ?_⟩;rcases q with rfl|q
   ·exact .one h
   ·exact .more h q
theorem GP {ws:List aN} {i j m:Nat} (st:dh ws i j=true) (r:gH ws i m):gH ws j m:=by
 induction r with
 | one h=>exact .more h (.one st)
 | more h _ ih=>exact .more h ih
theorem jA (ws:List aN) (h:Int) (i:Nat):∀d:Nat,cnt (ws.take i) h<=cnt (ws.take (i+d)) h
 | 0=>Int.le_refl _
 | d+1=>by
   have ih:=jA ws h i d;have e:ws.take (i+(d+1))=ws.take (i+d)++(ws[i+d]?).toList:=by rw [←Nat.add_assoc,List.take_add_one]
   rw [e];cases ws[i+d]? with
   | none=>simpa using ih
   | some x=>
     show _<=cnt (ws.take (i+d)++[x]) h;rw [eE];split<;>(clear e;omega)
theorem fZ (ws:List aN) (h:Int):0<=cnt ws h:=by unfold cnt;omega
theorem nJ {ws:List aN} {i:Nat} {x:aN} (e:ws[i]? = some x):(nm ws)[i]? = some (x.1,cnt (ws.take i) x.1):=by
 have:i<ws.length:=(List.getElem?_eq_some_iff.mp e).1;unfold nm;rw [List.getElem?_map,List.getElem?_range this];simp only [Option.map_some,bM e]
theorem uH {H:Hp} {a:Addr} {ps:List lA} {i:Nat} {x:lA} (h:gQ H a ps) (e:ps[i]? = some x):∃vs t,H a=some (.lst vs)/\vs[i]? = some (.ref t)/\H t=some (.tup [.int x.1,.int x.2]):=by
 obtain ⟨vs,ha,d⟩:=h;obtain ⟨v,ev,dv⟩:=d.getD (i:=i) (d:=pD x) (by rw [List.getElem?_map,e];rfl);obtain ⟨t,rfl,ht⟩:=oK dv;exact ⟨vs,t,ha,ev,ht⟩
def mx (a b:Int):Int:=if b>a then b else a
theorem Nj {c a b:Int}:c<mx a b↔c<a\/c<b:=by unfold mx;split<;>omega
theorem Sv {a b:Int} (h:0<=a):0<=mx a b:=by unfold mx;split<;>omega
def pA (K:PySem.W.Frag):Sp:=fun vs H Q _=>∃(t d:Addr) (h k:Int) (g:Int->Int),vs=[.ref t,.ref d]/\H t=some (.tup [.int h,.int k])/\fK H d g/\Q (.bl (decide (k<g h))) H
theorem Hw {f:Addr} {fd:FuncData} (F:lW K "is_known" "is_known" cX f fd):dR P w K mg base lC 1 f fd ["name","known"] (pA K):=by
 refine F.ok vZ (fun vs H Q E h=> ?_) (fun cdv A outer s H vs Q E hr h=> ?_)
 ·obtain ⟨t,d,h,k,g,rfl,_⟩:=h
  rfl
 ·obtain ⟨t,d,h,k,g,rfl,ht,kd,q⟩:=h
  have hu:=lM hr;refine ⟨_,(aF (bA (eG Hj (aM (aQ (K:=K) rfl) (pv 0) aA (fun _ _=>rfl)) (qw hu (pv 1) (aM (aQ (K:=K) rfl) (pv 0) aA (fun _ _=>rfl)) aA ⟨rfl,rfl,rfl,rfl⟩) (bG _)))), ?_⟩;obtain ⟨kvs,hd,_,val⟩:=kd.get;refine ⟨_,rfl,_,_,_,_,rfl,rfl,dG.of ht,rfl,_,rfl,d,rfl,.inl ⟨_,.inl hd⟩,_,rfl,_,_,_,_,rfl,rfl,dG.of ht,rfl,_,jh.k (k:=Sum.inl h) hd, ?_⟩;rw [val h];exact ⟨_,_,rfl,rfl,q⟩
def pq (K:PySem.W.Frag):Sp:=fun vs H Q _=>∃(d m:Addr) (g1 g2:Int->Int),vs=[.ref d,.ref m]/\fK H d g1/\fK H m g2/\d≠m /\ ∀H',fK H' d (fun h=>mx (g1 h) (g2 h))->Kp d H H'->Q .non H'
def Ri (hs:List Int) (g1 g2:Int->Int):Int->Int:=fun h=>if h∈hs then mx (g1 h) (g2 h) else g1 h
theorem Hv {f:Addr} {fd:FuncData} (F:lW K "learn" "learn" g_ f fd) (Bt:vD mg):dR P w K mg base lC 1 f fd ["known","more"] (pq K):=by
 refine F.ok vX (fun vs H Q E h=> ?_) (fun cdv A outer s H vs Q E hr h=> ?_)
 ·obtain ⟨d,m,g1,g2,rfl,_⟩:=h
  rfl
 ·obtain ⟨d,m,g1,g2,rfl,k1,k2,ne,q⟩:=h
  have hu:=lM hr
  refine ⟨_,(aF (Kl (dN PassesOwn.never rfl (Ku (pv 1)) (aO (i:=2) vX.nd rfl (Or.inl rfl))
   (aF (uG hu (pv 0) (pv 2) (aU (Fj rfl) (by rfl) Bt.Uv QV (aj (qw hu (pv 0) (pv 2) aA ⟨rfl,rfl,rfl,rfl⟩) (aj (jM hu (pv 1) (pv 2) (fun _ _=>rfl)) ao))) rfl))))), ?_⟩
  obtain ⟨hs,hm,nd,rg,zz⟩:=k2.ex;refine ⟨_,rfl,m,_,rfl,hm,fun o=> ?_⟩;have kf:Kp m H (upd H m (.gK o (.dK (oG hs g2)))):=Kp.set
  refine IV (fun i σ H2=>∃v:Option V,σ=[some (.ref d),some (.ref m),v]/\fK H2 d (Ri (hs.take i) g1 g2)/\H2 m=some (.gK o (.dK (oG hs g2)))/\Kp d (upd H m (.gK o (.dK (oG hs g2)))) H2)
   ⟨none,rfl,(k1.kp kf ne).ext (fun h=>by simp [Ri]),ak,Kp.refl _ _⟩ (fun i σ H2 _ ⟨_,_,_,e,_⟩=>e) ?_ ?_
  ·rintro i kk v σ H2 hi ⟨x,rfl,kd,fz,kp⟩
   have hi':(oG hs g2)[i]? = some (kk,v):=hi;unfold oG at hi';rw [List.getElem?_map] at hi';cases eh:hs[i]? with
   | none=>rw [eh] at hi';cases hi'
   | some h=>
     rw [eh] at hi';cases hi';have hm':h∈hs:=List.mem_of_getElem? eh;obtain ⟨h0,h1⟩:=rg h hm';have tk:hs.take (i+1)=hs.take i++[h]:=by rw [List.take_add_one,eh];rfl
     have nin:h∉hs.take i:=by
      intro z;have:(hs.take i++[h]).Nodup:=by rw [←tk];exact nd.sublist (List.take_sublist _ _)
      rw [List.nodup_append] at this;exact this.2.2 h z h (by simp) rfl
     obtain ⟨kvs,hd2,_,val⟩:=kd.get;have gi:Ri (hs.take i) g1 g2 h=g1 h:=by unfold Ri;rw [if_neg nin]
     refine ⟨_,rfl,d,rfl,.inl ⟨_,.inl hd2⟩,_,rfl,_,jh.k (k:=Sum.inl h) hd2, ?_⟩;rw [val h,gi];have gm:jh H2 m (kV (Sum.inl h)) (some (V.int (g2 h))):= .inl ⟨_,Sum.inl h,.inr ⟨o,fz⟩,rfl,by rw [uP,if_pos hm']⟩;refine ⟨_,rfl,_,rfl,m,_,rfl,gm,_,_,rfl, ?_⟩;obtain ⟨kvs',Nr,hz,put⟩:=kd.put (v:=mx (g1 h) (g2 h)) h0 h1 (Sv (k1.nn h));refine ⟨_,rfl,_,rfl,d,_,rfl,vq.k (k:=Sum.inl h) Nr hz, ?_⟩;refine ⟨_,rfl,(put _ ak).ext fun x=> ?_,by rw [aP ne.symm];exact fz,kp.trans Kp.set⟩;unfold xJ Ri;rw [tk]
     by_cases e:x=h
     ·subst e;simp
     ·simp [e]
  ·rintro σ H2 ⟨x,rfl,kd,fz,kp⟩
   refine ⟨_,⟨m,_,o,_,hm,fz,rfl⟩, ?_⟩;have kt:Kp m H2 (upd H2 m (.dK (oG hs g2))):=Kp.set;refine q _ ((kd.kp kt ne).ext fun h=> ?_) fun b u e nb=> ?_
   ·have el:hs.take (oG hs g2).length=hs:=by rw [oG,List.length_map,List.take_length]
    rw [el];unfold Ri
    by_cases hh:h∈hs
    ·rw [if_pos hh]
    ·rw [if_neg hh,zz h hh]
     have:=k1.nn h;unfold mx;rw [if_neg (by (clear hh el fz hm hu ne;omega))]
   ·by_cases eb:b=m
    ·subst eb
     rw [hm] at e;rw [ak];exact e
    ·rw [aP eb]
     exact kp _ _ (by rw [aP eb];exact e) nb
def Fw (ws:List aN) (g:Int->Int) (R:Nat->Prop):Prop:=∀m x,ws[m]? = some x->(cnt (ws.take m) x.1<g x.1↔R m)
def Q6 (ws:List aN) (j:Nat) (g:Int->Int):Prop:=Fw ws g (fun m=>m=j\/gH ws j m) /\ ∀h,g h<=cnt (ws.take (j+1)) h
def yI (ws:List aN) (j lo m:Nat):Prop:=∃x,lo<=x/\dh ws x j=true/\(m=x\/gH ws x m)
def Bare (ws:List aN) (j e:Nat):Prop:=dh ws e j=true /\ ¬yI ws j (e+1) e
noncomputable instance (ws:List aN) (j e:Nat):Decidable (Bare ws j e):=Classical.propDecidable _
theorem sH {ws:List aN} {a b c:Nat} (h:gH ws b a) (g:gH ws c b):gH ws c a:=by
 induction h with
 | one h=>exact .more h g
 | more h _ ih=>exact .more h ih
theorem Fw.iff {ws:List aN} {g:Int->Int} {R S:Nat->Prop} (h:Fw ws g R) (e:∀m,R m↔S m):Fw ws g S:=fun m x ex=>(h m x ex).trans (e m)
theorem Jf {ws:List aN} {j e m:Nat} (h:¬dh ws e j=true):yI ws j (e+1) m↔yI ws j e m:=by
 constructor
 ·rintro ⟨x,a,b,c⟩
  exact ⟨x,by omega,b,c⟩
 ·rintro ⟨x,a,b,c⟩
  have:x≠e:=fun z=>h (z▸b);exact ⟨x,by omega,b,c⟩
theorem EY {ws:List aN} {j e m:Nat} (k:yI ws j (e+1) e):yI ws j (e+1) m↔yI ws j e m:=by
 constructor
 ·rintro ⟨x,a,b,c⟩
  exact ⟨x,by omega,b,c⟩
 ·rintro ⟨x,a,b,c⟩
  by_cases z:x=e
  ·subst z
   obtain ⟨y,y1,y2,y3⟩:=k;have r:gH ws y x:=y3.resolve_left (by (clear y3 y2 a c b;omega));rcases c with c|c
   ·subst c;exact ⟨y,y1,y2,.inr r⟩
   ·exact ⟨y,y1,y2,.inr (sH c r)⟩
  ·exact ⟨x,by omega,b,c⟩
theorem L_ {ws:List aN} {j e m:Nat} (h:dh ws e j=true):(yI ws j (e+1) m\/(m=e\/gH ws e m))↔yI ws j e m:=by
 constructor
 ·rintro (⟨x,a,b,c⟩|c)
  ·exact ⟨x,by omega,b,c⟩
  ·exact ⟨e,Nat.le_refl _,h,c⟩
 ·rintro ⟨x,a,b,c⟩
  by_cases z:x=e
  ·subst z;exact .inr c
  ·exact .inl ⟨x,by (clear c b h;omega),b,c⟩
theorem Cj {ws:List aN} {g g':Int->Int} {R S:Nat->Prop} (h:Fw ws g R) (h':Fw ws g' S):Fw ws (fun x=>mx (g x) (g' x)) fun m=>R m\/S m:=fun m x ex=>by
 show cnt _ _<mx _ _↔_;rw [Nj,h m x ex,h' m x ex]
theorem LR {ws:List aN} {j m:Nat}:yI ws j 0 m↔gH ws j m:=by
 constructor
 ·rintro ⟨x,_,b,c|c⟩
  ·subst c;exact .one b
  ·exact GP b c
 ·intro r
  obtain ⟨i,s,q⟩:=v8 r;exact ⟨i,Nat.zero_le _,s,q⟩
theorem La {ws:List aN} {j:Nat} {y:aN} {g:Int->Int} (h:Fw ws g (gH ws j)) (bd:∀h,g h<=cnt (ws.take j) h) (ey:ws[j]? = some y):Q6 ws j (fun x=>mx (g x) (if x=y.1 then cnt (ws.take j) y.1+1 else 0)):=by
 have tk:ws.take (j+1)=ws.take j++[y]:=by rw [List.take_add_one,ey];rfl
 refine ⟨?_,fun h=> ?_⟩
 rotate_left
 ·have b1:=bd h
  have b2:=fZ (ws.take j) h;rw [tk,eE];show mx _ _<=_;unfold mx
  by_cases e:h=y.1
  ·rw [if_pos e,if_pos e];subst e;split<;>(clear b2 tk ey;omega)
  ·rw [if_neg e,if_neg e];split<;>(clear e tk ey;omega)
 intro m x ex;show cnt _ _<mx _ _↔_;rw [Nj,h m x ex]
 by_cases e:x.1=y.1
 ·rw [if_pos e]
  constructor
  ·rintro (z|z)
   ·exact .inr z
   ·rw [e] at z
    by_cases l:m<=j
    ·by_cases em:m=j
     ·exact .inl em
     ·refine .inr (.one ?_)
      unfold dh yK;rw [ex,ey,decide_eq_true (show m<j by (clear z e ex tk ey;omega))];simp [e]
    ·have:=jA ws y.1 (j+1) (m - (j+1))
     rw [show j+1+(m - (j+1))=m by (clear this z e ex tk ey;omega)] at this;have t:ws.take (j+1)=ws.take j++[y]:=by rw [List.take_add_one,ey];rfl
     rw [t,eE,if_pos rfl] at this;omega
  ·rintro (z|z)
   ·subst z
    rw [e];exact .inr (by (clear tk ey e ex;omega))
   ·exact .inl z
 ·rw [if_neg e]
  constructor
  ·rintro (z|z)
   ·exact .inr z
   ·have:=fZ (ws.take m) x.1;(clear e ex tk ey;omega)
  ·rintro (z|z)
   ·subst z
    rw [ex] at ey;cases ey;exact absurd rfl e
   ·exact .inl z
def oR (H:Hp) (kn:Addr) (ws:List aN) (n:Nat):Prop:=∃rs:List Addr,H kn=some (.lst (rs.map V.ref))/\rs.length=n /\ ∀j r,rs[j]? = some r -> ∃g,fK H r g/\Q6 ws j g
theorem oR.same {H H':Hp} {kn:Addr} {ws:List aN} {n:Nat} (h:oR H kn ws n) (k:Same H H'):oR H' kn ws n:=by
 obtain ⟨rs,e,l,q⟩:=h;refine ⟨rs,k _ _ e,l,fun j r hj=> ?_⟩;obtain ⟨g,a,b⟩:=q j r hj;exact ⟨g,a.same k,b⟩
theorem oR.kp {H H':Hp} {kn r:Addr} {ys:List V} {ws:List aN} {n:Nat} (h:oR H kn ws n) (k:Kp r H H') (hr:H r=some (.lst ys)) (ne:kn≠r):oR H' kn ws n:=by
 obtain ⟨rs,e,l,q⟩:=h;refine ⟨rs,k _ _ e ne,l,fun j r' hj=> ?_⟩;obtain ⟨g,a,b⟩:=q j r' hj;obtain ⟨hs,e',_⟩:=a.ex;exact ⟨g,a.kp k (iY e' hr (by intro z;cases z)),b⟩
noncomputable def bC (ws:List aN) (j i:Nat):List Nat:=((List.range i).map fun t=>j - 1 - t).filter fun e=>decide (Bare ws j e)
theorem Ai (ws:List aN) (j i:Nat):bC ws j (i+1)=bC ws j i++(if Bare ws j (j - 1 - i) then [j - 1 - i] else []):=by
 unfold bC;rw [List.range_succ,List.map_append,List.filter_append];congr 1
 by_cases h:Bare ws j (j - 1 - i)<;>simp [h]
theorem nY (ws:List aN) (j i:Nat):(bC ws j i).length<=i:=by
 unfold bC;exact Nat.le_trans (List.length_filter_le _ _) (by simp)
def jY (l:List Nat):List V:=l.map fun n:Nat=>V.int (n:Int)
def za (K:PySem.W.Frag):Sp:=fun vs H Q _=>∃(a nd kn:Addr) (ws:List aN) (j:Nat),vs=[.ref a,.ref nd,.ref kn,.int j]/\cA H a ws/\gQ H nd (nm ws)/\oR H kn ws j/\j<ws.length/\ws.length<=300/\(∀x∈ws,0<=x.1/\x.1<8) /\
 ∀(p b d:Addr) (g:Int->Int) (H':Hp),H' p=some (.tup [.ref b,.ref d])->H' b=some (.lst (jY (bC ws j j)))->fK H' d g->Q6 ws j g->H b=none->H d=none->H p=none->Same H H'->Q (.ref p) H'
theorem Qi {H:Hp} {d:Addr} (h:H d=some (.dK [])):fK H d fun _=>0:=⟨⟨[],h,List.nodup_nil,fun _ z=>absurd z (by simp),fun _ _=>rfl⟩,fun _=>Int.le_refl _⟩
theorem KQ {f:Addr} {fd:FuncData} (F:lW K "bare_steps" "bare_steps" bW f fd) (Fx:FnAt P w K mg base 2 "is_step" ["web","place","later"] (yX K)) (lX:FnAt P w K mg base 1 "is_known" ["name","known"] (pA K)) (pJ:FnAt P w K mg base 1 "learn" ["known","more"] (pq K)) (Bt:vD mg):dR P w K mg base lC 3 f fd ["web","named","knowns","place"] (za K):=by
 refine F.ok gn (fun vs H Q E h=> ?_) (fun cdv A outer s H vs Q E hr h=> ?_)
 ·obtain ⟨a,nd,kn,ws,j,rfl,_⟩:=h
  rfl
 ·obtain ⟨a,nd,kn,ws,j,rfl,W,N,Kn,jl,wl,BL,k⟩:=h
  have hu:=lM hr
  refine ⟨_,(au (aW (i:=4) gn.nd rfl (Or.inl rfl) (eN ao))
   (au (aW (i:=5) gn.nd rfl (Or.inl rfl) wA)
   (au (dN PassesOwn.never rfl (DQ (by rfl) Bt.gD (aj (bF qx (pv 3) aA) (aj (Nb Gj aA) (aj (Nb Gj aA) ao)))) (aO (i:=6) gn.nd rfl (Or.inl rfl))
   (aF (fD (PW.pt (zA (d7 (bw Fx (hr.mono (by decide)) (by rfl) (aj (pv 0) (aj (pv 6) (aj (pv 3) ao))))) (uF (gM (d7 (bw lX (hr.mono (by decide)) (by rfl) (aj (aM (aK (K:=K) rfl) (pv 1) (pv 6) (fun _ _=>rfl)) (aj (pv 5) ao)))))))) (au (cY (cZ (K:=K) rfl (pv 4) (aj (pv 6) ao)))
   (aF (cY (bw pJ (hr.mono (by decide)) (by rfl) (aj (pv 5) (aj (aM (aK (K:=K) rfl) (pv 2) (pv 6) (fun _ _=>rfl)) ao)))))) bY)))
   (au (cY (bw pJ (hr.mono (by decide)) (by rfl) (aj (pv 5) (aj (Bw (wu (aM (aQ (K:=K) rfl) (aM (aK (K:=K) rfl) (pv 1) (pv 3) (fun _ _=>rfl)) aA (fun _ _=>rfl)) (bF dO (aM (aQ (K:=K) rfl) (aM (aK (K:=K) rfl) (pv 1) (pv 3) (fun _ _=>rfl)) aA (fun _ _=>rfl)) aA) Bq) rfl rfl (by simp) (by decide)) ao))))
   (aF (bA (lN (aj (pv 4) (aj (pv 5) ao))))))))), ?_⟩
  refine ⟨(by show 0<=sizeLine;decide),fun b hb=> ?_⟩;have s1:=aD (o:=HO.lst []) hb;intro d hd;have s2:=aD (o:=HO.dK []) hd;have s12:=s1.trans s2;have hd0:H d=none:=s1.free hd;have wK:b≠d:=aB ak hd;refine ⟨_,rfl,_,_,rfl,rfl,_,rfl,_,rfl,(j:Int) - 1, -1,rfl,⟨by (clear wK hd0 hd hb hu wl jl;omega),by (clear wK hd0 hd hb hu;omega),by (clear wK hd0 hd hb hu wl jl;omega),by (clear wK hd0 hd hb hu wl jl;omega)⟩, ?_⟩;have en:((j:Int) - 1 - (-1)).toNat=j:=by (clear wK hd0 hd hb hu wl jl;omega)
  rw [en]
  refine z8 (hi:=(j:Int) - 1) (n:=j) (fun i σ H2=>∃(x1:Option V) (g:Int->Int),σ=[some (.ref a),some (.ref nd),some (.ref kn),some (.int j),some (.ref b),some (.ref d),x1]/\Same H H2/\H2 b=some (.lst (jY (bC ws j i)))/\fK H2 d g/\Fw ws g (yI ws j (j - i)) /\ ∀h,g h<=cnt (ws.take j) h)
   ⟨none,fun _=>0,rfl,s12,s2 _ _ (by rw [ak];rfl),Qi ak,⟨fun m x ex=>⟨fun z=> ?_,fun ⟨x,x1,x2,_⟩=> ?_⟩,fun h=>fZ _ _⟩⟩ ?_ ?_
  ·have:=fZ (ws.take m) x.1
   have z:cnt (ws.take m) x.1<0:=z;omega
  ·have:=(bD x2).1
   omega
  ·rintro i σ H2 hi ⟨x1,g,rfl,sm,hb2,kd,kp,bd⟩
   have ee:(j:Int) - 1 - (i:Int)=((j - 1 - i:Nat):Int):=by (clear hb2 en wK hd0 hd hb hu wl jl;omega)
   rw [ee];have bs:=Ai ws j i;have bl:=nY ws j i;generalize he:j - 1 - i=e at bs;have el:e<ws.length:=by (clear bs bl ee hb2 hi en wK hd0 hd hb hu wl;omega)
   have e1:j - i=e+1:=by (clear el bs bl ee hb2 en wK hd0 hd hb hu wl jl;omega)
   have e2:j - (i+1)=e:=by (clear e1 el bs bl ee hb2 hi en wK hd0 hd hb hu wl jl;omega)
   rw [e1] at kp;rw [e2];obtain ⟨x,ex⟩:∃x,ws[e]? = some x:=⟨ws[e],by simp [el]⟩;refine ⟨_,rfl,_,rfl,_,rfl,a,ws,e,j,rfl,W.same sm,el,jl,_,rfl, ?_⟩
   by_cases st:dh ws e j=true
   ·rw [st]
    refine fY ?_;obtain ⟨ns,t,hn,en,ht⟩:=uH (N.same sm) (nJ ex);refine ⟨_,rfl,_,rfl,_,_,_,_,rfl,rfl,bf.of hn,cO en,_,rfl,t,d,_,_,g,rfl,ht,kd,_,rfl, ?_⟩;have kx:=kp e x ex
    by_cases kk:yI ws j (e+1) e
    ·rw [decide_eq_true (kx.mpr kk)]
     refine gG ?_;have nb:¬Bare ws j e:=fun z=>z.2 kk;rw [if_neg nb,List.append_nil] at bs;exact ⟨_,g,rfl,sm,by rw [bs];exact hb2,kd,kp.iff fun m=>EY kk,bd⟩
    ·rw [decide_eq_false (fun z=>kk (kx.mp z))]
     refine fY ?_;have nb:Bare ws j e:=⟨st,kk⟩;rw [if_pos nb] at bs;refine ⟨_,rfl,.inl ⟨rfl,_,bf.of hb2⟩,_,rfl,b,_,_,rfl,rfl,hb2,by rw [jY,List.length_map,sizeLine_eq];(clear kk kx ht en hn st ex e2 e1 el bs he ee hb2 wK hd0 hd hb hu;omega), ?_⟩;have k3:Kp b H2 (upd H2 b (.lst (jY (bC ws j i)++[V.int (e:Int)]))):=Kp.set;obtain ⟨rs,hk,rl,rq⟩:=id (Kn.same sm);have er:e<rs.length:=by (clear hk kk kx ht en hn st ex e2 e1 el bs bl ee hb2 wK hd0 hd hb hu wl jl;omega)
     obtain ⟨r,err⟩:∃r,rs[e]? = some r:=⟨rs[e],by simp [er]⟩;obtain ⟨ge,kde,kne⟩:=rq e r err
     have Yq:kn≠b:=by
      obtain ⟨_,hk0,_⟩:=Kn;exact aB hk0 hb
     obtain ⟨_,Zr,_⟩:=kde.ex;have Yk:r≠b:=iY Zr hb2 (by intro z;cases z)
     have Sh:d≠r:=by
      obtain ⟨rs0,hk0,_,rq0⟩:=Kn
      have er0:rs=rs0:=by
       have:=(sm _ _ hk0).symm.trans hk;injection this with this
       injection this with this
       exact (List.map_inj_right (fun x y e=>by injection e)).mp this.symm
      subst er0;obtain ⟨g0,Vm,_⟩:=rq0 e r err;obtain ⟨_,h0,_⟩:=Vm.ex;exact (aB h0 hd0).symm
     have hk3:=k3 _ _ hk Yq;have kd3:=kd.kp k3 wK.symm;have YZ:=kde.kp k3 Yk;refine ⟨_,rfl,_,rfl,_,rfl,_,_,_,_,rfl,rfl,bf.of hk3,cO (by rw [List.getElem?_map,err];rfl),d,r,g,ge,rfl,kd3,YZ,Sh,fun H4 kd4 k4=> ?_⟩;refine ⟨_,_,rfl,fun y u hy=>k4 _ _ (k3 _ _ (sm _ _ hy) (aB hy hb)) (aB hy hd0), ?_,kd4, ?_,fun h=> ?_⟩
     ·have:=k4 _ _ (ak (H:=H2) (a:=b) (o:= .lst (jY (bC ws j i)++[V.int (e:Int)]))) wK
      rw [this,bs];unfold jY;rw [List.map_append];rfl
     ·exact (Cj kp kne.1).iff fun m=>L_ st
     ·have b1:=bd h
      have b2:=kne.2 h;have b3:=jA ws h (e+1) (j - (e+1));rw [show e+1+(j - (e+1))=j by (clear b3 b2 b1 hk3 Sh Yk Zr Yq err er rl hk kk kx ht en hn st ex e2 e1 el bs bl ee hb2 wK hd0 hd hb hu wl jl;omega)] at b3;show mx _ _<=_;unfold mx;split<;>(clear hk3 Sh Yk Zr Yq err er rl hk kk kx ht en hn st ex e2 e1 el bs he bl ee hb2 hi wK hd0 hd hb hu wl jl;omega)
   ·have st':dh ws e j=false:=by simpa using st
    rw [st'];refine gG ?_;have nb:¬Bare ws j e:=fun z=>st z.1;rw [if_neg nb,List.append_nil] at bs;exact ⟨_,g,rfl,sm,by rw [bs];exact hb2,kd,kp.iff fun m=>Jf st,bd⟩
  ·rintro σ H2 ⟨x1,g,rfl,sm,hb2,kd,kp,bd⟩
   rw [Nat.sub_self] at kp;obtain ⟨y,ey⟩:∃y,ws[j]? = some y:=⟨ws[j],by simp [jl]⟩;obtain ⟨y0,y1⟩:=BL y (List.mem_of_getElem? ey);obtain ⟨ns,t,hn,en,ht⟩:=uH (N.same sm) (nJ ey);refine ⟨_,rfl,fun m hm=> ?_⟩;have s3:=aD (o:=HO.dK []) hm;refine ⟨_,rfl,_,rfl,_,_,_,_,rfl,rfl,bf.of (s3 _ _ hn),cO en,_,_,_,_,rfl,rfl,dG.of (s3 _ _ ht),rfl,_,rfl,_,rfl,_,_,_,_,rfl,rfl,bf.of (s3 _ _ hn),cO en,_,_,_,_,rfl,rfl,dG.of (s3 _ _ ht),rfl,_,_,rfl,rfl,ak,[(Sum.inl y.1,V.int (cnt (ws.take j) y.1+1))],rfl,by show 1<=15;decide, ?_⟩
   have e1:upd (upd H2 m (.dK [])) m (.dK (lQ [] [(Sum.inl y.1,V.int (cnt (ws.take j) y.1+1))]))=upd H2 m (.dK (oG [y.1] fun x=>if x=y.1 then cnt (ws.take j) y.1+1 else 0)):=by
    rw [o_];congr 2;show [(Sum.inl y.1,V.int (cnt (ws.take j) y.1+1))]=_;simp [oG]
   rw [e1];have s4:Same H2 (upd H2 m (.dK (oG [y.1] fun x=>if x=y.1 then cnt (ws.take j) y.1+1 else 0))):=aD hm
   have hmd:d≠m:=by
    obtain ⟨_,h,_⟩:=kd.ex;exact aB h hm
   have kdm:fK (upd H2 m (.dK (oG [y.1] fun x=>if x=y.1 then cnt (ws.take j) y.1+1 else 0))) m (fun x=>if x=y.1 then cnt (ws.take j) y.1+1 else 0):=by
    refine ⟨⟨[y.1],ak,by simp,fun h hh=> ?_,fun h hh=> ?_⟩,fun h=> ?_⟩
    ·have:h=y.1:=by simpa using hh
     subst this;exact ⟨y0,y1⟩
    ·have:h≠y.1:=by simpa using hh
     rw [if_neg this]
    ·have:=fZ (ws.take j) y.1
     show (0:Int)<=if h=y.1 then _ else 0;split<;>(clear hmd e1 hm ht en hn y1 y0 ey hb2 wK hd0 hd hb hu wl jl;omega)
   refine ⟨d,m,g,_,rfl,kd.same s4,kdm,hmd,fun H5 kd5 k5=> ?_⟩;have hb5:H5 b=some (.lst (jY (bC ws j j))):=k5 _ _ (s4 _ _ hb2) wK;refine ⟨_,rfl,_,rfl,(by show 2<=sizeLine;decide),fun p hp=> ?_⟩;have s6:=aD (o:=HO.tup [V.ref b,V.ref d]) hp;have s05:Same H H5:=fun y u hy=>k5 _ _ (s4 _ _ (sm _ _ hy)) (aB hy hd0);exact k p b d _ _ ak (s6 _ _ hb5) (kd5.same s6) (La (kp.iff fun m=>LR) bd ey) hb hd0 (s05.free hp) (s05.trans s6)
def nK (x:Nt):List Int:=[x.1,x.2.1,x.2.2.1,x.2.2.2]
theorem PL (x:Nt):(nK x).map V.int=nV x:=rfl
theorem HN {x y:Nt} (h:nK x=nK y):x=y:=by
 obtain ⟨a,b,c,d⟩:=x;obtain ⟨a',b',c',d'⟩:=y;simp only [nK,List.cons.injEq,and_true] at h;obtain ⟨rfl,rfl,rfl,rfl⟩:=h;rfl
def o9 (ns:List Nt):Prop:=ns.Pairwise fun x y=>Tim.d_ (nK y) (nK x)=false
theorem jr:∀{a b:List Nt},a.Perm b->o9 a->o9 b->a=b
 | [],_,p,_,_=>p.nil_eq
 | x::r,b,p,ha,hb=>by
   cases b with
   | nil=>exact absurd p.length_eq (by simp)
   | cons y t=>
     have hx:x∈y::t:=p.mem_iff.mp (.head _);have hy:y∈x::r:=p.mem_iff.mpr (.head _)
     have e:x=y:=by
      rcases List.mem_cons.mp hx with h|h
      ·exact h
      ·rcases List.mem_cons.mp hy with h'|h'
       ·exact h'.symm
       ·exact HN (Tim.wX _ _ ((List.pairwise_cons.mp hb).1 x h) ((List.pairwise_cons.mp ha).1 y h'))
     subst e;rw [jr (List.perm_cons _ |>.mp p) (List.pairwise_cons.mp ha).2 (List.pairwise_cons.mp hb).2]
def vInt:V->Int
 | .int n=>n
 | _=>0
def tupK (H:Hp) (v:V):List Int:=match v with
 | .ref t=>match H t with
   | some (.tup xs)=>xs.map vInt
   | _=>[]
 | _=>[]
def toN:List Int->Nt
 | [a,b,c,d]=>(a,b,c,d)
 | _=>(0,0,0,0)
theorem kI {H:Hp} {t:Addr} {x:Nt} (h:H t=some (.tup (nV x))):tupK H (.ref t)=nK x:=by
 unfold tupK;dsimp only;rw [h];rfl
theorem m9 (x:Nt):toN (nK x)=x:=rfl
theorem BP {H:Hp} {vs:List V} {ns:List Nt} (d:aC H vs (ns.map nD)) {v:V} (hv:v∈vs):∃t x,v = .ref t/\x∈ns/\H t=some (.tup (nV x)):=by
 obtain ⟨i,hi,e⟩:=List.getElem_of_mem hv;obtain ⟨x,t,ex,ev,ht⟩:=mJ d (i:=i) (v:=v) (by rw [List.getElem?_eq_getElem hi,e]);exact ⟨t,x,ev,List.mem_of_getElem? ex,ht⟩
theorem BR {H:Hp}:∀{vs:List V} {ns:List Nt},aC H vs (ns.map nD)->vs.map (fun v=>toN (tupK H v))=ns
 | [],[],_=>rfl
 | [],_::_,h=>by simp only [List.map_cons,aC] at h
 | _::_,[],h=>by simp only [List.map_nil,aC] at h
 | v::vs,n::ns,h=>by
   simp only [List.map_cons,aC] at h;obtain ⟨t,rfl,ht⟩:=jR h.1;rw [List.map_cons,BR h.2,kI ht,m9]
theorem Hy {H:Hp}:∀{vs:List V},(∀v∈vs,∃t x,v=V.ref t/\H t=some (.tup (nV x)))->aC H vs ((vs.map fun v=>toN (tupK H v)).map nD)
 | [],_=>by simp [aC]
 | v::vs,h=>by
   obtain ⟨t,x,rfl,ht⟩:=h v (.head _);simp only [List.map_cons,aC];exact ⟨by rw [kI ht,m9];exact qN ht,Hy fun v hv=>h v (.tail _ hv)⟩
theorem Gs {K:PySem.W.Frag} {H:Hp} {p:Addr} {ns:List Nt} {Q:VK} (N:cM H p ns) (k:∀l ns' H',H l=none->cM H' l ns'->ns'.Perm ns->o9 ns'->Same H H'->Q (.ref l) H'):zy K [.ref p] H Q:=by
 obtain ⟨ys,hp,d⟩:=N;refine ⟨p,ys,4,tupK H,rfl,bf.of hp,by decide,fun y hy=> ?_,fun l zs hl pz sz=> ?_⟩
 ·obtain ⟨t,x,rfl,_,ht⟩:=BP d hy
  exact ⟨t,rfl,by rw [kI ht,PL];exact dG.of ht,by rw [kI ht];rfl⟩
 ·have sm:=aD (o:=HO.lst zs) hl
  have all:∀v∈zs,∃t x,v=V.ref t/\H t=some (.tup (nV x)):=fun v hv=>by
   obtain ⟨t,x,e,_,ht⟩:=BP d (pz.mem_iff.mp hv);exact ⟨t,x,e,ht⟩
  refine k l (zs.map fun v=>toN (tupK H v)) _ hl ⟨zs,ak,aC.keep sm.tups _ (aX _ jQ _) (Hy all)⟩ ?_ ?_ sm
  ·rw [←BR d]
   exact pz.map _
  ·unfold o9
   rw [List.pairwise_map];refine List.Pairwise.imp_of_mem (fun {x y} hx hy h=> ?_) sz;obtain ⟨t,a,rfl,ht⟩:=all x hx;obtain ⟨u,b,rfl,hu⟩:=all y hy;rw [kI ht,kI hu] at h ⊢;exact h
def bQ (ws:List aN) (i j:Nat):Nt:=(hnd ws i,cnt (ws.take i) (hnd ws i),hnd ws j,cnt (ws.take j) (hnd ws j))
def aV (ws:List aN) (j:Nat) (l:List Nat):List Nt:=(l.filter fun e=>decide (¬hnd ws e=hnd ws j)).map fun e=>bQ ws e j
def nu (K:PySem.W.Frag):Sp:=fun vs H Q _=>∃(nd b t:Addr) (ws:List aN) (j:Nat) (l:List Nat),vs=[.ref nd,.ref b,.ref t]/\gQ H nd (nm ws)/\H b=some (.lst (jY l))/\H t=some (.tup [.int (hnd ws j),.int (cnt (ws.take j) (hnd ws j))])/\(∀e∈l,e<ws.length)/\l.length<=300 /\
 ∀(r:Addr) (H':Hp),H r=none->cM H' r (aV ws j l)->Same H H'->Q (.ref r) H'
theorem Qx {α β:Type} (l:List α) (f:α->Option β):(List.range l.length).filterMap (fun i=>(l[i]?).bind f)=l.filterMap f:=by
 induction l with
 | nil=>rfl
 | cons x l ih=>
   rw [List.length_cons,List.range_succ_eq_map,List.filterMap_cons,List.filterMap_map,List.filterMap_cons];have e:List.filterMap ((fun i=>((x::l)[i]?).bind f)∘Nat.succ) (List.range l.length)=l.filterMap f:=by rw [←ih];rfl
   rw [e];rfl
theorem zR (ws:List aN) (j:Nat) (l:List Nat):(l.filterMap fun e=>if hnd ws e=hnd ws j then none else some (nD (bQ ws e j)))=(aV ws j l).map nD:=by
 unfold aV
 induction l with
 | nil=>rfl
 | cons e l ih=>
   rw [List.filterMap_cons,List.filter_cons]
   by_cases h:hnd ws e=hnd ws j
   ·rw [if_pos h]
    simp only [h,not_true_eq_false,decide_false,Bool.false_eq_true,if_false];exact ih
   ·rw [if_neg h]
    simp only [h,not_false_eq_true,decide_true,if_true,List.map_cons];rw [ih]
theorem zO {f:Addr} {fd:FuncData} (F:lW K "notes_to" "notes_to" cU f fd):dR P w K mg base lC 1 f fd ["named","bare","name"] (nu K):=by
 refine F.ok vW (fun vs H Q E h=> ?_) (fun cdv A outer s H vs Q E hr h=> ?_)
 ·obtain ⟨nd,b,t,ws,j,l,rfl,_⟩:=h
  rfl
 ·obtain ⟨nd,b,t,ws,j,l,rfl,N,hb,ht,el,ll,k⟩:=h
  refine ⟨_,(aF (bA (jN rfl (N:=["earlier","name","named"]) (own:=["earlier"]) (caps:=[2,0]) (aR.of (by kernel_rfl)) (cP (K:=K) rfl (pv 1)) (fun _ _ _ _=>(aO (i:=0) (show List.Nodup (["earlier","name","named"]:List Str) by decide +kernel) rfl (Or.inl rfl))) (fun _ _ _ _=>(kO (bU lG (aM (aQ (K:=K) rfl) (aM (aK (K:=K) rfl) (pv 2) (pv 0) (fun _ _=>rfl)) aA (fun _ _=>rfl)) (aM (aQ (K:=K) rfl) (pv 1) aA (fun _ _=>rfl)) (bG _)))) (fun _ _ _ _=>(bF (Hl (K:=K) rfl) (aM (aK (K:=K) rfl) (pv 2) (pv 0) (fun _ _=>rfl)) (pv 1)))))), ?_⟩;have il:(jY l).length=l.length:=by rw [jY,List.length_map]
  refine ⟨_,rfl,b,rfl,⟨_,bf.of hb⟩,fun D hD=> ?_⟩;refine lu (K:=K) (xs:=jY l) (fun i=>(l[i]?).bind fun e=>if hnd ws e=hnd ws j then none else some (nD (bQ ws e j))) (fun i d h=> ?_) hD (bf.of hb) (by omega) (fun i x H2 G F hi s2 kG kF=> ?_) (fun H2 vs s2 e2 d2=> ?_)
  ·cases e:l[i]? with
   | none=>rw [e] at h;cases h
   | some z=>
     rw [e] at h;simp only [Option.bind_some] at h;split at h
     ·cases h
     ·cases h;rfl
  ·unfold jY at hi
   rw [List.getElem?_map] at hi;cases e:l[i]? with
   | none=>rw [e] at hi;cases hi
   | some z=>
     rw [e] at hi;cases hi;have zl:=el z (List.mem_of_getElem? e);obtain ⟨x,ex⟩:∃x,ws[z]? = some x:=⟨ws[z],by simp [zl]⟩;have hx:=bM ex;obtain ⟨ns,tz,hn,en,Zo⟩:=uH (N.same s2) (nJ ex);rw [←hx] at Zo;refine ⟨_,rfl,_,rfl,_,_,_,_,rfl,rfl,bf.of hn,cO en,_,_,_,_,rfl,rfl,dG.of Zo,rfl,_,rfl,_,_,_,_,rfl,rfl,dG.of (s2 _ _ ht),rfl,rfl,_,rfl, ?_⟩
     by_cases eh:hnd ws z=hnd ws j
     ·rw [show (!decide (V.int (hnd ws z)=V.int (hnd ws j)))=false by simp [eh]]
      refine gG ?_;exact kG _ (Same.refl _) (by rw [e];simp [eh])
     ·rw [show (!decide (V.int (hnd ws z)=V.int (hnd ws j)))=true by simp [eh]]
      refine fY ?_;refine ⟨_,rfl,_,rfl,_,_,_,_,rfl,rfl,bf.of hn,cO en,_,rfl,tz,t,_,_,rfl,rfl,dG.of Zo,dG.of (s2 _ _ ht),by simp,by show 4<=sizeLine;decide,fun z=>absurd z (by simp),fun _ p hp=> ?_⟩;exact kF _ (nD (bQ ws z j)) _ (aD hp) (by rw [e];simp [eh]) (qN (x:=bQ ws z j) (by rw [ak];rfl))
  ·rw [il,Qx,zR] at d2
   exact k D H2 hD ⟨vs,e2,d2⟩ s2
noncomputable def cB (ws:List aN) (n:Nat):List Nt:=(List.range n).flatMap fun j=>aV ws j (bC ws j j)
theorem iz (ws:List aN) (n:Nat):cB ws (n+1)=cB ws n++aV ws n (bC ws n n):=by
 unfold cB;rw [List.range_succ,List.flatMap_append];simp
theorem oF (ws:List aN) (j:Nat) (l:List Nat):(aV ws j l).length<=l.length:=by
 unfold aV;rw [List.length_map];exact List.length_filter_le _ _
theorem yw (ws:List aN):∀n,(cB ws n).length<=n*n
 | 0=>Nat.le_refl _
 | n+1=>by
   rw [iz,List.length_append];have h1:=yw ws n;have h2:=Nat.le_trans (oF ws n (bC ws n n)) (nY ws n n);have:(n+1)*(n+1)=n*n+n+n+1:=by rw [Nat.add_mul,Nat.mul_add];omega
   omega
theorem yr {ws:List aN} {j i e:Nat} (h:e∈bC ws j i):e<j\/j=0:=by
 unfold bC at h;obtain ⟨h1,_⟩:=List.mem_filter.mp h;obtain ⟨t,_,rfl⟩:=List.mem_map.mp h1;omega
def ur (K:PySem.W.Frag):Sp:=fun vs H Q _=>∃(a:Addr) (ws:List aN),vs=[.ref a]/\cA H a ws/\ws.length<=300/\(∀x∈ws,0<=x.1/\x.1<8) /\
 ∀(r:Addr) (ns:List Nt) (H':Hp),H r=none->cM H' r ns->ns.Perm (cB ws ws.length)->o9 ns->Same H H'->Q (.ref r) H'
theorem Ht {f:Addr} {fd:FuncData} (F:lW K "notes" "notes" gY f fd) (m6:FnAt P w K mg base 1 "names" ["web"] (lZ K)) (vp:FnAt P w K mg base 3 "bare_steps" ["web","named","knowns","place"] (za K)) (Aw:FnAt P w K mg base 1 "notes_to" ["named","bare","name"] (nu K)) (Bt:vD mg):dR P w K mg base lC 4 f fd ["web"] (ur K):=by
 refine F.ok iC (fun vs H Q E h=> ?_) (fun cdv A outer s H vs Q E hr h=> ?_)
 ·obtain ⟨a,ws,rfl,_⟩:=h
  rfl
 ·obtain ⟨a,ws,rfl,W,wl,BL,k⟩:=h
  refine ⟨_,(au (aW (i:=1) iC.nd rfl (Or.inl rfl) (bw m6 (hr.mono (by decide)) (by rfl) (aj (pv 0) ao)))
   (au (aW (i:=2) iC.nd rfl (Or.inl rfl) (eN ao))
   (au (aW (i:=3) iC.nd rfl (Or.inl rfl) (eN ao))
   (au (dN PassesOwn.never rfl (mG (K:=K) rfl (by rfl) Bt.jc (aj (pv 1) ao)) (mH (K:=K) (n:=2) rfl rfl (cJ (aO (i:=4) iC.nd rfl (Or.inl rfl)) (cJ (aO (i:=5) iC.nd rfl (Or.inl rfl)) kW)))
   (au (aW (i:=6) iC.nd rfl (Or.inl rfl) (bw vp (hr.mono (by decide)) (by rfl) (aj (pv 0) (aj (pv 1) (aj (pv 2) (aj (pv 4) ao))))))
   (au (cY (zJ (K:=K) rfl PySem.F.plainAttrs_list PySem.F.slot_list_extend PySem.F.type_list_extend sW (pv 3) (aj (bw Aw (hr.mono (by decide)) (by rfl) (aj (pv 1) (aj (aM (aQ (K:=K) rfl) (pv 6) aA (fun _ _=>rfl)) (aj (pv 5) ao)))) ao)))
   (aF (cY (cZ (K:=K) rfl (pv 2) (aj (aM (aQ (K:=K) rfl) (pv 6) aA (fun _ _=>rfl)) ao)))))))
   (aF (bA (aU (xW (K:=K) rfl) (by rfl) Bt.yq tQ (aj (pv 3) ao)))))))), ?_⟩
  refine ⟨_,rfl,a,ws,rfl,W,by omega,fun nd H1 aek N s1=> ?_⟩;refine ⟨(by show 0<=sizeLine;decide),fun kn hkn=> ?_⟩;have s2:=aD (o:=HO.lst []) hkn;refine ⟨(by show 0<=sizeLine;decide),fun tl htl=> ?_⟩;have s3:=aD (o:=HO.lst []) htl;have GJ:=(s1.trans s2).trans s3;have Lr:H kn=none:=s1.free hkn;have Zq:H tl=none:=(s1.trans s2).free htl;have nkt:kn≠tl:=aB ak htl;obtain ⟨vs,hv,dv⟩:=id N;have vl:vs.length=ws.length:=by rw [dv.length,List.length_map,cQ]
  have nnk:nd≠kn:=aB hv hkn;have nnt:nd≠tl:=aB (s2 _ _ hv) htl;refine ⟨_,rfl,nd,vs,rfl,bf.of (s3 _ _ (s2 _ _ hv)), ?_⟩
  refine mV (K:=K) (a:=nd) (xs:=vs) (fun j σ H3=>∃(x1 x2 x3:Option V),σ=[some (.ref a),some (.ref nd),some (.ref kn),some (.ref tl),x1,x2,x3]/\Same H H3/\H3 nd=some (.lst vs)/\gQ H3 nd (nm ws)/\oR H3 kn ws j/\cM H3 tl (cB ws j))
   ⟨none,none,none,rfl,GJ,s3 _ _ (s2 _ _ hv),(N.same s2).same s3,⟨[],s3 _ _ ak,rfl,fun j r hj=>by simp at hj⟩,⟨[],ak,by simp [cB,aC]⟩⟩ (fun i σ H3 _ ⟨_,_,_,_,_,e,_⟩=>bf.of e) ?_ ?_
  ·rintro j v σ H3 q hj ⟨x1,x2,x3,rfl,sm,Zn,N3,Kn,T⟩ hq
   have jl:j<ws.length:=by have:=(List.getElem?_eq_some_iff.mp hj).1;omega
   obtain ⟨y,ey⟩:∃y,ws[j]? = some y:=⟨ws[j],by simp [jl]⟩;have hy:=bM ey;obtain ⟨vs',t,hv',et,ht⟩:=uH N3 (nJ ey);have ev:vs'=vs:=by rw [Zn] at hv';injection hv' with z;injection z with z;exact z.symm
   subst ev;rw [hj] at et;cases et;rw [←hy] at ht;have sq:=aD (o:=HO.tup [V.int j,V.ref t]) hq;refine ⟨q,_,rfl,dG.of ak,rfl,_,_,rfl,_,_,rfl,rfl, ?_⟩;refine ⟨_,rfl,_,rfl,_,rfl,_,rfl,a,nd,kn,ws,j,rfl,W.same (sm.trans sq),N3.same sq,Kn.same sq,jl,wl,BL,fun p b d g H4 hp hb kd ko hb0 hd0 hp0 s4=> ?_⟩;have GD:=sq.trans s4;obtain ⟨ts,hts,T5⟩:=id (T.same GD)
   have el:∀e∈bC ws j j,e<ws.length:=fun e he=>by
    rcases yr he with h|h
    ·omega
    ·subst h;simp [bC] at he
   have bl:=nY ws j j;refine ⟨_,rfl,.inl ⟨rfl,_,bf.of hts⟩,_,rfl,_,rfl,_,_,_,_,rfl,rfl,dG.of hp,rfl,_,rfl,nd,b,t,ws,j,_,rfl,N3.same GD,hb,GD _ _ ht,el,by omega,fun r H5 hr0 NT s5=> ?_⟩;obtain ⟨O1,hrs,drs⟩:=NT;have tll:=yw ws j;have l1:ts.length=(cB ws j).length:=by rw [T5.length,List.length_map]
   have l2:O1.length=(aV ws j (bC ws j j)).length:=by rw [drs.length,List.length_map]
   have l3:=oF ws j (bC ws j j);have jj:j*j<=300*300:=Nat.mul_le_mul (by omega) (by omega);refine ⟨tl,r,_,_,rfl,rfl,s5 _ _ hts,hrs,by rw [sizeLine_eq];omega, ?_⟩;have k6:Kp tl H5 (upd H5 tl (.lst (ts++O1))):=Kp.set;have Ln:=s5 _ _ hts;have t6:=k6.tups Ln;obtain ⟨rs,hk,rl,rq⟩:=id (((Kn.same GD).same s5).kp k6 Ln nkt);have hp6:(upd H5 tl (.lst (ts++O1))) p=some (.tup [.ref b,.ref d]):=t6 _ _ (s5 _ _ hp);refine ⟨_,rfl,.inl ⟨rfl,_,bf.of hk⟩,_,rfl,_,_,_,_,rfl,rfl,dG.of hp6,rfl,kn,_,_,rfl,rfl,hk,by rw [List.length_map,sizeLine_eq];omega, ?_⟩;have k7:Kp kn (upd H5 tl (.lst (ts++O1))) (upd (upd H5 tl (.lst (ts++O1))) kn (.lst (rs.map V.ref++[V.ref d]))):=Kp.set;have t7:=k7.tups hk
   have kd6:fK (upd H5 tl (.lst (ts++O1))) d g:=by
    obtain ⟨_,h,_⟩:=kd.ex;exact (kd.same s5).kp k6 (iY (s5 _ _ h) Ln (by intro z;cases z))
   refine ⟨_,_,_,rfl,fun x u e=>k7 _ _ (k6 _ _ (s5 _ _ (GD _ _ (sm _ _ e))) (aB e Zq)) (aB e Lr), ?_, ?_, ?_, ?_⟩
   ·exact k7 _ _ (k6 _ _ (s5 _ _ (GD _ _ Zn)) nnt) nnk
   ·exact (((N3.same GD).same s5).kp Ln k6 nnt).kp hk k7 nnk
   ·refine ⟨rs++[d],by rw [ak,List.map_append];rfl,by simp [rl],fun m r' hm=> ?_⟩
    by_cases hml:m<rs.length
    ·rw [List.getElem?_append_left hml] at hm
     obtain ⟨g',kd',ko'⟩:=rq m r' hm;obtain ⟨_,h,_⟩:=kd'.ex;exact ⟨g',kd'.kp k7 (iY h hk (by intro z;cases z)),ko'⟩
    ·have hm2:=(List.getElem?_eq_some_iff.mp hm).1
     rw [List.length_append,List.length_singleton] at hm2;have em:m=rs.length:=by omega
     subst em;rw [List.getElem?_append_right (Nat.le_refl _)] at hm;simp at hm;subst hm;rw [rl];obtain ⟨_,h,_⟩:=kd6.ex;exact ⟨g,kd6.kp k7 (iY h hk (by intro z;cases z)),ko⟩
   ·refine ⟨ts++O1,k7 _ _ ak nkt.symm, ?_⟩
    rw [iz,List.map_append];refine aC.append (aC.keep (fun a xs h=>t7 _ _ (t6 _ _ (s5.tups _ _ h))) _ (aX _ jQ _) T5) (aC.keep (fun a xs h=>t7 _ _ (t6 _ _ h)) _ (aX _ jQ _) drs)
  ·rintro σ H3 ⟨x1,x2,x3,rfl,sm,Zn,N3,Kn,T⟩
   rw [vl] at T;exact ⟨_,rfl,Gs T fun l ns H4 hl NN pp ss s4=>k l ns H4 (sm.free hl) NN pp ss (sm.trans s4)⟩
def inP (i:Int) (n:Nat):Prop:=0<=i/\i<(n:Int)
instance (i:Int) (n:Nat):Decidable (inP i n):=inferInstanceAs (Decidable (_/\_))
def Ol (K:PySem.W.Frag):Sp:=fun vs H Q _=>∃i:Int,vs=[.int i]/\Q (.bl true) H
theorem wD {f:Addr} {fd:FuncData} (F:lW K "is_whole" "is_whole" cV f fd) (Bt:vD mg):dR P w K mg base lC 1 f fd ["value"] (Ol K):=by
 refine F.ok vY (fun vs H Q E h=> ?_) (fun cdv A outer s H vs Q E hr h=> ?_)
 ·obtain ⟨i,rfl,_⟩:=h
  rfl
 ·obtain ⟨i,rfl,k⟩:=h
  refine ⟨_,(aF (bA (zK (aU (gb (K:=K) (cv:= .ty "int") (c:= .type "int") rfl rfl) (by rfl) Bt.dg cL (aj (pv 0) (aj (jO (v:= .ty "int") (by rfl) Bt.CW vd rfl) ao))) (lO (Hg (aU (gb (K:=K) (cv:= .ty "bool") (c:= .type "bool") rfl rfl) (by rfl) Bt.dg cL (aj (pv 0) (aj (jO (v:= .ty "bool") (by rfl) Bt.Jt CQ rfl) ao)))))))), ?_⟩;refine ⟨_,rfl,_,_,true,rfl,.int i,oH K,true,rfl, ?_⟩;refine fY ?_;exact ⟨_,rfl,_,_,false,rfl,.int i,mO K,false,rfl,k⟩
theorem Fe {ws:List aN} {m n:Nat} (h:m<=n) (g:Int):cnt (ws.take m) g<=cnt (ws.take n) g:=by
 have e:ws.take n=ws.take m++(ws.take n).drop m:=by
  have:=List.take_append_drop m (ws.take n);rw [List.take_take,Nat.min_eq_left h] at this;exact this.symm
 unfold cnt;rw [e,List.filter_append,List.length_append];omega
theorem BX {ws:List aN} {i:Nat} {x:lA} (h:(nm ws)[i]? = some x):∃y,ws[i]? = some y/\x=(y.1,cnt (ws.take i) y.1):=by
 have il:i<ws.length:=by have:=(List.getElem?_eq_some_iff.mp h).1;rw [cQ] at this;exact this
 have e:ws[i]? = some ws[i]:=by simp [il]
 rw [nJ e] at h;exact ⟨ws[i],e,(Option.some.inj h).symm⟩
theorem Ni {ws:List aN} {i j:Nat} {x:lA} (hi:(nm ws)[i]? = some x) (hj:(nm ws)[j]? = some x):¬i<j:=fun lt=>by
 obtain ⟨y,ey,e1⟩:=BX hi;obtain ⟨z,ez,e2⟩:=BX hj;rw [e1] at e2;injection e2 with h1 h2
 have tk:ws.take (i+1)=ws.take i++[y]:=by rw [List.take_add_one,ey];rfl
 have m:=Fe (ws:=ws) (m:=i+1) (n:=j) lt y.1;rw [tk,eE,if_pos rfl] at m;rw [←h1] at h2;omega
theorem fH {ws:List aN} {i j:Nat} {x:lA} (hi:(nm ws)[i]? = some x) (hj:(nm ws)[j]? = some x):i=j:=by
 have:=Ni hi hj;have:=Ni hj hi;omega
def kx (x:lA):List Key:=[Sum.inl x.1,Sum.inl x.2]
theorem Ie {x y:lA} (h:kx x=kx y):x=y:=by
 unfold kx at h;injection h with h1 h2
 injection h2 with h2 _
 have a:x.1=y.1:=Sum.inl.inj h1;have b:x.2=y.2:=Sum.inl.inj h2;exact Prod.ext a b
def Jw (kvs:List (List Key×V)) (ps:List lA):Prop:=(∀(m:Nat) (x:lA),ps[m]? = some x->fL kvs (kx x)=some (.int m)) /\ ∀x:lA,x∉ps->fL kvs (kx x)=none
def DP (ps:List lA):List (List Key×V):=(List.range ps.length).filterMap fun m:Nat=>(ps[m]?).map fun x=>(kx x,V.int (m:Int))
theorem G8 (ps:List lA) (x:lA):DP (ps++[x])=DP ps++[(kx x,V.int (ps.length:Int))]:=by
 unfold DP;rw [List.length_append,List.length_singleton,dF];congr 1
 ·refine iH _ trivial fun m hm=> ?_
  have:m<ps.length:=by simpa using hm
  rw [List.getElem?_append_left this]
 ·simp
theorem Kq {ps:List lA} {m:Nat} {k:List Key} {v:V} (h:(DP ps)[m]? = some (k,v)):∃x,ps[m]? = some x/\k=kx x/\v = .int (m:Int):=by
 have e:DP ps=(List.range ps.length).map fun m:Nat=>(kx (ps[m]?.getD (0,0)),V.int (m:Int)):=by
  unfold DP;rw [←List.filterMap_eq_map];refine iH _ trivial fun m hm=> ?_;have:m<ps.length:=by simpa using hm
  simp [List.getElem?_eq_getElem this]
 rw [e,List.getElem?_map] at h
 have hm:m<ps.length:=by
  refine Decidable.byContradiction fun n=> ?_;rw [List.getElem?_eq_none (by simp;omega)] at h;cases h
 rw [List.getElem?_range hm] at h;cases h;exact ⟨ps[m],by simp [hm],by simp [hm],rfl⟩
theorem Ko (ps:List lA):(DP ps).length=ps.length:=by
 have e:DP ps=(List.range ps.length).map fun m:Nat=>(kx (ps[m]?.getD (0,0)),V.int (m:Int)):=by
  unfold DP;rw [←List.filterMap_eq_map];refine iH _ trivial fun m hm=> ?_;have:m<ps.length:=by simpa using hm
  simp [List.getElem?_eq_getElem this]
 rw [e];simp
theorem Kh {kvs:List (List Key×V)} {k:List Key} {v:V} (h:fL kvs k=none):putK kvs k v=kvs++[(k,v)]:=by
 unfold putK;rw [jk,h];rfl
def pX (K:PySem.W.Frag):Sp:=fun vs H Q _=>∃(a:Addr) (ws:List aN),vs=[.ref a]/\cA H a ws/\ws.length<=300 /\ ∀(d:Addr) (kvs:List (List Key×V)) (H':Hp),H d=none->H' d=some (.dT kvs)->Jw kvs (nm ws)->kvs=DP (nm ws)->Same H H'->Q (.ref d) H'
theorem DY {f:Addr} {fd:FuncData} (F:lW K "places_of" "places_of" cF f fd) (m6:FnAt P w K mg base 1 "names" ["web"] (lZ K)) (Bt:vD mg):dR P w K mg base lC 2 f fd ["web"] (pX K):=by
 refine F.ok gU (fun vs H Q E h=> ?_) (fun cdv A outer s H vs Q E hr h=> ?_)
 ·obtain ⟨a,ws,rfl,_⟩:=h
  rfl
 ·obtain ⟨a,ws,rfl,W,wl,k⟩:=h
  have hu:=lM hr
  refine ⟨_,(au (aW (i:=1) gU.nd rfl (Or.inl rfl) Hh)
   (au (dN PassesOwn.never rfl (mG (K:=K) rfl (by rfl) Bt.jc (aj (bw m6 (hr.mono (by decide)) (by rfl) (aj (pv 0) ao)) ao)) (mH (K:=K) (n:=2) rfl rfl (cJ (aO (i:=2) gU.nd rfl (Or.inl rfl)) (cJ (aO (i:=3) gU.nd rfl (Or.inl rfl)) kW)))
   (aF (uG hu (pv 1) (pv 3) (pv 2) rfl)))
   (aF (bA (pv 1))))), ?_⟩
  intro d hd;have s1:=aD (o:=HO.dT []) hd;refine ⟨_,rfl,a,ws,rfl,W.same s1,by omega,fun p H2 hp PA s2=> ?_⟩;obtain ⟨vs,hp2,dv⟩:=id PA;have vl:vs.length=ws.length:=by rw [dv.length,List.length_map,cQ]
  refine ⟨p,vs,rfl,bf.of hp2, ?_⟩;have Vi:d≠p:=aB ak hp
  refine mV (K:=K) (a:=p) (xs:=vs) (fun i σ H3=>∃(kvs:List (List Key×V)) (x1 x2:Option V),σ=[some (.ref a),some (.ref d),x1,x2]/\H3 d=some (.dT kvs)/\kvs.length<=i/\Jw kvs ((nm ws).take i)/\Kp d H2 H3/\kvs=DP ((nm ws).take i))
   ⟨[],none,none,rfl,s2 _ _ ak,Nat.le_refl _,⟨fun m x e=>by simp at e,fun x _=>rfl⟩,Kp.refl _ _,by simp [DP]⟩ (fun i σ H3 _ ⟨_,_,_,_,_,_,_,kp,_⟩=>bf.of (kp _ _ hp2 Vi.symm)) ?_ ?_
  ·rintro i v σ H3 q hi ⟨kvs,x1,x2,rfl,Nr,kl,pl,kp,ek⟩ hq
   obtain ⟨x,t,ex,rfl,ht⟩:=pC dv hi;have il:=(List.getElem?_eq_some_iff.mp hi).1;have sq:=aD (o:=HO.tup [V.int i,V.ref t]) hq;have Rh:H3 t=some (.tup [.int x.1,.int x.2]):=kp _ _ ht (iY ht (s2 _ _ ak) (by intro z;cases z));refine ⟨q,_,rfl,dG.of ak,rfl,_,_,rfl,_,_,rfl,rfl, ?_⟩;refine ⟨_,rfl,_,rfl,_,rfl,d,_,rfl,vq.t (k:=kx x) (sq _ _ Nr) (sq _ _ Rh) (by rw [sizeLine_eq];omega), ?_⟩;have tk:(nm ws).take (i+1)=(nm ws).take i++[x]:=by rw [List.take_add_one,ex];rfl
   have tl:((nm ws).take i).length=i:=by rw [List.length_take,cQ];omega
   refine ⟨putK kvs (kx x) (V.int i),_,_,rfl,ak, ?_,⟨fun m y e=> ?_,fun y hy=> ?_⟩,fun b o e nb=> ?_, ?_⟩
   ·exact Nat.le_trans (gF ..) (by omega)
   ·rw [pP]
    rw [tk] at e
    by_cases hm:m<i
    ·rw [List.getElem?_append_left (by omega)] at e
     have ne:¬kx y=kx x:=fun z=>by
      have z:=Ie z;subst z;have e':(nm ws)[m]? = some y:=by rw [List.getElem?_take_of_lt hm] at e;exact e
      have:=fH e' ex;omega
     rw [if_neg ne];exact pl.1 m y e
    ·rw [List.getElem?_append_right (by omega),tl] at e
     have ml:m - i<1:=(List.getElem?_eq_some_iff.mp e).1;have:m=i:=by omega
     subst this;rw [Nat.sub_self] at e;cases e;rw [if_pos rfl]
   ·rw [tk] at hy
    have n1:y∉(nm ws).take i:=fun z=>hy (List.mem_append.mpr (.inl z));have n2:y≠x:=fun z=>hy (List.mem_append.mpr (.inr (by rw [z];simp)));rw [pP,if_neg (fun z=>n2 (Ie z))];exact pl.2 y n1
   ·rw [aP nb]
    exact sq _ _ (kp _ _ e nb)
   ·have nx:x∉(nm ws).take i:=fun z=>by
     obtain ⟨m,em⟩:=List.getElem?_of_mem z;have hm:m<i:=by have:=(List.getElem?_eq_some_iff.mp em).1;rw [List.length_take] at this;omega
     rw [List.getElem?_take_of_lt hm] at em;have:=fH em ex;omega
    rw [Kh (pl.2 x nx),ek,tk,G8,tl]
  ·rintro σ H3 ⟨kvs,x1,x2,rfl,Nr,kl,pl,kp,ek⟩
   have e:(nm ws).take vs.length=nm ws:=by rw [vl,←cQ ws,List.take_length]
   rw [e] at pl ek;exact ⟨_,rfl,k d kvs H3 hd Nr pl ek fun b o eb=>kp _ _ (s2 _ _ (s1 _ _ eb)) (aB eb hd)⟩
theorem Je (a b c d:V):jz [a,b,c,d] none (some 2)=[a,b]:=qP _ 2
theorem Jd (a b c d:V):jz [a,b,c,d] (some 2) none=[c,d]:=xQ _ 2
theorem zM {α:Type} (xs:List α) (h:xs.length=4):¬(HT.fM xs.length 0 none=0/\HT.fM xs.length xs.length (some 2)=xs.length):=by
 rw [h];decide
theorem zL {α:Type} (xs:List α) (h:xs.length=4):¬(HT.fM xs.length 0 (some 2)=0/\HT.fM xs.length xs.length none=xs.length):=by
 rw [h];decide
def pY (K:PySem.W.Frag):Sp:=fun vs H Q _=>∃(t:Addr) (x:Nt),vs=[.ref t]/\H t=some (.tup (nV x)) /\ ∀H',Same H H'->Q (.bl (!decide (x.1=x.2.2.1))) H'
theorem zQ {f:Addr} {fd:FuncData} (F:lW K "is_note" "is_note" dX f fd) (Ax:FnAt P w K mg base 1 "is_whole" ["value"] (Ol K)) (Bt:vD mg):dR P w K mg base lC 2 f fd ["value"] (pY K):=by
 refine F.ok zu (fun vs H Q E h=> ?_) (fun cdv A outer s H vs Q E hr h=> ?_)
 ·obtain ⟨t,x,rfl,_⟩:=h
  rfl
 ·obtain ⟨t,x,rfl,ht,k⟩:=h
  have Lk:=hr.units
  refine ⟨_,(au (fD (PW.pt (lF (gM (d7 (aU (gb (K:=K) (cv:= .ty "tuple") (c:= .type "tuple") rfl rfl) (by rfl) Bt.dg cL (aj (pv 0) (aj (jO (v:= .ty "tuple") (by rfl) Bt.CV xY rfl) ao))))) (jL (bU lG (aU (aZ (K:=K) rfl) (by rfl) Bt.jB gj (aj (pv 0) ao)) aA (bG _))))) (aF (bA iU)) bY)
   (aF (bA (zK (aU (gP (K:=K) rfl rfl) (by rfl) Bt.Ju Ac (aj (jN rfl (N:=["number"]) (own:=["number"]) (caps:=[]) (aR.of (by kernel_rfl)) (Bs (K:=K) rfl (pv 0)) (fun _ _ _ _=>(aO (i:=0) (show List.Nodup (["number"]:List Str) by decide +kernel) rfl (Or.inl rfl))) (fun _ _ _ _=>iT) (fun _ _ _ _=>(bw Ax (hr.mono (by decide)) (by rfl) (aj (pv 0) ao)))) ao)) (lO (eG lG (aM (aQ (K:=K) rfl) (pv 0) aA (fun _ _=>rfl)) (aM (aQ (K:=K) rfl) (pv 0) aA (fun _ _=>rfl)) (bG _))))))), ?_⟩
  refine ⟨_,rfl,_,_,true,rfl,.tup ht,jX K,true,rfl, ?_⟩;refine gG ?_;refine ⟨_,rfl,t,_,rfl,.inr (dG.of ht),rfl,_,rfl, ?_⟩;refine mL (by rfl) ?_;refine ⟨_,rfl,t,rfl,⟨_,dG.of ht⟩,fun D hD=> ?_⟩;refine E_ (K:=K) (fun i=>some (.bl true)) hD ht (by show 4<=100000;decide) (fun i v H2 G F hi s2 kG kF=> ?_) (fun H2 s2 e2=> ?_)
  ·obtain ⟨z,rfl⟩:∃z,v=V.int z:=by
    have hm:=List.mem_of_getElem? hi;simp only [nV,List.mem_cons,List.not_mem_nil,or_false] at hm;rcases hm with rfl|rfl|rfl|rfl<;>exact ⟨_,rfl⟩
   exact ⟨_,rfl,z,rfl,kF _ H2 (Same.refl _) rfl⟩
  ·refine ⟨D,[true,true,true,true],rfl,bf.of e2,true,rfl, ?_⟩
   refine fY ?_;refine ⟨_,rfl,_,_,_,_,rfl,rfl,dG.of (s2 _ _ ht),rfl,_,rfl,_,_,_,_,rfl,rfl,dG.of (s2 _ _ ht),rfl,rfl, ?_⟩
   have e:(!decide (V.int x.1=V.int x.2.2.1))=(!decide (x.1=x.2.2.1)):=by
    by_cases q:x.1=x.2.2.1
    ·simp [q]
    ·simp [q]
   show Q (.bl (!decide (V.int x.1=V.int x.2.2.1))) H2;rw [e];exact k H2 s2
theorem QB (x y:Nt):PyData.eqv (nD x) (nD y)=decide (x=y):=by
 obtain ⟨a,b,c,d⟩:=x;obtain ⟨a',b',c',d'⟩:=y;simp only [nD,PyData.eqv,PyData.eqvAll,Bool.and_true]
 by_cases e1:a=a'
 ·subst e1
  by_cases e2:b=b'
  ·subst e2
   by_cases e3:c=c'
   ·subst e3
    by_cases e4:d=d'
    ·subst e4;simp
    ·simp [e4]
   ·simp [e3]
  ·simp [e2]
 ·simp [e1]
theorem qb (ns:List Nt):SeqAt.shaped (.list (ns.map nD))=true:=
 oA nD 1 (by decide) (fun _ _=>rfl) (fun _ _=>by show (max 0 (max 0 (max 0 (max 0 0))))+1<=1;decide)
structure JQ (ws:List aN) (i j:Nat):Prop where
 lt:i<j
 jl:j<ws.length
 br:Bare ws j i
 ne:¬hnd ws i=hnd ws j
theorem JQ.st {ws:List aN} {i j:Nat} (h:JQ ws i j):dh ws i j=true:=h.br.1
theorem JQ.no {ws:List aN} {i j x:Nat} (h:JQ ws i j) (r:gH ws j x):¬gH ws x i:=fun q=>by
 obtain ⟨y,sy,c⟩:=v8 r;refine h.br.2 ⟨y, ?_,sy, ?_⟩
 ·rcases c with c|c
  ·subst c;have:=q.lt;omega
  ·have:=q.lt;have:=c.lt;omega
 ·rcases c with c|c
  ·subst c;exact .inr q
  ·exact .inr (sH q c)
theorem lY {ws:List aN} {p q:Nat} (hl:p<q) (hq:q<ws.length) (e:hnd ws p=hnd ws q):dh ws p q=true:=by
 have e1:ws[p]? = some (ws[p]'(by omega)):=by simp
 have e2:ws[q]? = some ws[q]:=by simp
 rw [bM e1,bM e2] at e;unfold dh yK;rw [e1,e2,decide_eq_true hl];simp [e]
theorem Lj {ws:List aN} {i j:Nat} (h:JQ ws i j):bQ ws i j∈cB ws ws.length:=by
 unfold cB;refine List.mem_flatMap.mpr ⟨j,List.mem_range.mpr h.jl, ?_⟩;unfold aV bC;refine List.mem_map.mpr ⟨i,List.mem_filter.mpr ⟨List.mem_filter.mpr ⟨List.mem_map.mpr ⟨j - 1 - i,List.mem_range.mpr (by have:=h.lt;omega),by have:=h.lt;omega⟩,decide_eq_true h.br⟩,decide_eq_true h.ne⟩,rfl⟩
def n1 (x:Nt):lA:=(x.1,x.2.1)
def n2 (x:Nt):lA:=(x.2.2.1,x.2.2.2)
def tY (ws:List aN) (x:Nt) (i j:Nat):Prop:=x.1≠x.2.2.1/\(nm ws)[i]? = some (n1 x)/\(nm ws)[j]? = some (n2 x)/\i<j
def Am (ws:List aN) (x:Nt):Prop:=∃i j,tY ws x i j
theorem Ca {α:Type} {x:α} {l:List α} (h:x∈l):∃i:Nat,l[i]? = some x:=List.getElem?_of_mem h
def pU (K:PySem.W.Frag):Sp:=fun vs H Q _=>∃(d t:Addr) (kvs:List (List Key×V)) (ws:List aN) (x:Nt),vs=[.ref d,.ref t]/\H d=some (.dT kvs)/\Jw kvs (nm ws)/\H t=some (.tup (nV x)) /\ ∀(bl:Bool) (H':Hp),(bl=true↔Am ws x)->Same H H'->Q (.bl bl) H'
theorem DW {f:Addr} {fd:FuncData} (F:lW K "is_strict" "is_strict" cH f fd) (Fy:FnAt P w K mg base 2 "is_note" ["value"] (pY K)):dR P w K mg base lC 3 f fd ["places","note"] (pU K):=by
 refine F.ok uz (fun vs H Q E h=> ?_) (fun cdv A outer s H vs Q E hr h=> ?_)
 ·obtain ⟨d,t,kvs,ws,x,rfl,_⟩:=h
  rfl
 ·obtain ⟨d,t,kvs,ws,x,rfl,hd,pl,ht,k⟩:=h
  have hu:=lM hr
  refine ⟨_,(au (fD (PW.pt (lF (gM (d7 (bw Fy (hr.mono (by decide)) (by rfl) (aj (pv 1) ao)))) (lF (GZ (sU hu (d9 (kJ (K:=K) rfl) (pv 1) gA (gq aA)) (pv 0))) (jL (GZ (sU hu (d9 (kJ (K:=K) rfl) (pv 1) (gq aA) gA) (pv 0))))))) (aF (bA iU)) bY)
   (aF (bA (eG Hj (jM hu (pv 0) (d9 (kJ (K:=K) rfl) (pv 1) gA (gq aA)) (fun _ _=>rfl)) (jM hu (pv 0) (d9 (kJ (K:=K) rfl) (pv 1) (gq aA) gA) (fun _ _=>rfl)) (bG _))))), ?_⟩
  refine ⟨_,rfl,t,x,rfl,ht,fun H1 s1=>⟨_,rfl, ?_⟩⟩;have ht1:=s1 _ _ ht;have hd1:=s1 _ _ hd;have no:∀{H':Hp},Same H1 H' -> ¬Am ws x->Q (.bl false) H':=fun sm z=>k false _ ⟨fun w=>(by cases w),fun w=>absurd w z⟩ (s1.trans sm)
  by_cases hne:x.1=x.2.2.1
  ·rw [show (!decide (x.1=x.2.2.1))=false by simp [hne]]
   exact fY (no (Same.refl _) fun ⟨_,_,z,_⟩=>z hne)
  rw [show (!decide (x.1=x.2.2.1))=true by simp [hne]];refine gG ?_;refine ⟨_,rfl,_,rfl,_,_,rfl,dG.of ht1,zM _ rfl,fun p1 hp1=> ?_⟩;rw [show jz (nV x) none (some 2)=[.int x.1,.int x.2.1] from Je ..];have s2:=aD (o:=HO.tup [V.int x.1,V.int x.2.1]) hp1;refine ⟨_,rfl,d,_,rfl,jh.t (k:=kx (n1 x)) (s2 _ _ hd1) ak,_,rfl, ?_⟩
  by_cases m1:n1 x∈nm ws
  rotate_left
  ·rw [pl.2 _ m1]
   exact fY (no s2 fun ⟨i,j,_,z,_⟩=>m1 (List.mem_of_getElem? z))
  obtain ⟨i,ei⟩:=Ca m1;rw [pl.1 i _ ei];refine gG ?_;have m8:=s2 _ _ ht1;have hd2:=s2 _ _ hd1;refine ⟨_,rfl,_,rfl,_,_,rfl,dG.of m8,zL _ rfl,fun p2 hp2=> ?_⟩;rw [show jz (nV x) (some 2) none=[.int x.2.2.1,.int x.2.2.2] from Jd ..];have s3:=aD (o:=HO.tup [V.int x.2.2.1,V.int x.2.2.2]) hp2;have U_:=s2.trans s3;refine ⟨_,rfl,d,_,rfl,jh.t (k:=kx (n2 x)) (s3 _ _ hd2) ak,_,rfl, ?_⟩
  by_cases m2:n2 x∈nm ws
  rotate_left
  ·rw [pl.2 _ m2]
   exact fY (no U_ fun ⟨i,j,_,_,z,_⟩=>m2 (List.mem_of_getElem? z))
  obtain ⟨j,ej⟩:=Ca m2;rw [pl.1 j _ ej];refine gG ?_;refine ⟨_,rfl,_,rfl,_,rfl,_,_,rfl,dG.of (s3 _ _ m8),zM _ rfl,fun p3 hp3=> ?_⟩;rw [show jz (nV x) none (some 2)=[.int x.1,.int x.2.1] from Je ..];have s4:=aD (o:=HO.tup [V.int x.1,V.int x.2.1]) hp3;have RN:=U_.trans s4;refine ⟨d,_,rfl,pl.1 i _ ei▸jh.t (k:=kx (n1 x)) (RN _ _ hd1) ak, ?_⟩;refine ⟨_,rfl,_,rfl,_,rfl,_,_,rfl,dG.of (RN _ _ ht1),zL _ rfl,fun p4 hp4=> ?_⟩;rw [show jz (nV x) (some 2) none=[.int x.2.2.1,.int x.2.2.2] from Jd ..];have s5:=aD (o:=HO.tup [V.int x.2.2.1,V.int x.2.2.2]) hp4;have s25:=RN.trans s5;refine ⟨d,_,rfl,pl.1 j _ ej▸jh.t (k:=kx (n2 x)) (s25 _ _ hd1) ak,_,_,rfl,rfl, ?_⟩;refine k _ _ ?_ (s1.trans s25);rw [decide_eq_true_iff];constructor
  ·intro z
   exact ⟨i,j,hne,ei,ej,by omega⟩
  ·rintro ⟨i',j',_,a,b,c⟩
   have:=fH a ei;have:=fH b ej;omega
theorem iW {ws:List aN} {i:Nat} (h:i<ws.length):(nm ws)[i]? = some (hnd ws i,cnt (ws.take i) (hnd ws i)):=by
 have e:ws[i]? = some ws[i]:=by simp [h]
 rw [nJ e];rw [bM e]
def SE (ws:List aN) (ns:List Nt) (a b:Nat):Prop:=(a<b/\b<ws.length/\hnd ws a=hnd ws b/\cnt (ws.take b) (hnd ws b)=cnt (ws.take a) (hnd ws a)+1) \/ ∃x∈ns,tY ws x a b
theorem SE.lt {ws:List aN} {ns:List Nt} {a b:Nat} (h:SE ws ns a b):a<b/\b<ws.length:=by
 rcases h with ⟨h1,h2,_⟩|⟨x,_,_,_,h3,h4⟩
 ·exact ⟨h1,h2⟩
 ·have:=(List.getElem?_eq_some_iff.mp h3).1
  rw [cQ] at this;exact ⟨h4,this⟩
def Gr (K:PySem.W.Frag):Sp:=fun vs H Q _=>∃(d s:Addr) (kvs:List (List Key×V)) (ws:List aN) (ns:List Nt),vs=[.ref d,.ref s]/\H d=some (.dT kvs)/\Jw kvs (nm ws)/\cM H s ns/\ns.length<=100000/\(∀x∈ns,Am ws x) /\ ∀H',Same H H'->Q .non H'
theorem Pz {f:Addr} {fd:FuncData} (F:lW K "check_strict" "check_strict" bL f fd) (yH:FnAt P w K mg base 3 "is_strict" ["places","note"] (pU K)) (Bt:vD mg):dR P w K mg base lC 4 f fd ["places","some"] (Gr K):=by
 refine F.ok oV (fun vs H Q E h=> ?_) (fun cdv A outer s H vs Q E hr h=> ?_)
 ·obtain ⟨d,s,kvs,ws,ns,rfl,_⟩:=h
  rfl
 ·obtain ⟨d,sa,kvs,ws,ns,rfl,hd,pl,N,nl,st,k⟩:=h
  refine ⟨_,(aF (fD (gM (d7 (aU (gP (K:=K) rfl rfl) (by rfl) Bt.Ju Ac (aj (jN rfl (N:=["note","places"]) (own:=["note"]) (caps:=[0]) (aR.of (by kernel_rfl)) (cP (K:=K) rfl (pv 1)) (fun _ _ _ _=>(aO (i:=0) (show List.Nodup (["note","places"]:List Str) by decide +kernel) rfl (Or.inl rfl))) (fun _ _ _ _=>iT) (fun _ _ _ _=>(bw yH (hr.mono (by decide)) (by rfl) (aj (pv 1) (aj (pv 0) ao))))) ao)))) (aF G5) bY)), ?_⟩;obtain ⟨vs,hv,dv⟩:=id N;have vl:vs.length=ns.length:=by rw [dv.length,List.length_map]
  refine ⟨_,rfl,sa,rfl,⟨_,bf.of hv⟩,fun D hD=> ?_⟩;refine xR (K:=K) (a:=sa) (xs:=vs) (fun i=>(vs[i]?).map fun _=>V.bl true) hD (bf.of hv) (by omega) (fun i v H1 G F' hi s1 kG kF=> ?_) (fun H1 s1 e1=> ?_)
  ·obtain ⟨x,t,ex,rfl,ht⟩:=mJ dv hi
   refine ⟨_,rfl,_,rfl,d,t,kvs,ws,x,rfl,s1 _ _ hd,pl,s1 _ _ ht,fun bl H2 hb s2=> ?_⟩;have:bl=true:=hb.mpr (st x (List.mem_of_getElem? ex));subst this;exact kF _ _ s2 (by rw [hi];rfl)
  ·rw [Cu] at e1
   have e1':H1 D=some (.lst ((vs.map fun _=>true).map V.bl)):=by rw [e1,List.map_map];rfl
   refine ⟨D,_,rfl,bf.of e1',_,rfl, ?_⟩;rw [show (vs.map fun _=>true).all id=true by rw [List.all_eq_true];intro b hb;obtain ⟨_,_,rfl⟩:=List.mem_map.mp hb;rfl];exact (show if false=true then _ else _ from gG (k _ s1))
def rJ (i j:Nat):lA:=((i:Int),(j:Int))
def Om (K:PySem.W.Frag):Sp:=fun vs H Q _=>∃(d s:Addr) (kvs:List (List Key×V)) (ws:List aN) (ns:List Nt),vs=[.ref d,.ref s]/\H d=some (.dT kvs)/\kvs=DP (nm ws)/\Jw kvs (nm ws)/\ws.length<=300/\cM H s ns/\ns.length<=90000/\(∀x∈ns,Am ws x) /\
 ∀(r:Addr) (es:List lA) H',H r=none->gQ H' r es->es.length<=90300->(∀x∈es,∃a b,x=rJ a b/\SE ws ns a b)->(∀a b,SE ws ns a b->rJ a b∈es)->Same H H'->Q (.ref r) H'
theorem Qa (x:lA):(kx x).map kV=[.int x.1,.int x.2]:=rfl
theorem zU {ws:List aN} {i:Nat} {x:lA} (e:(nm ws)[i]? = some x):i<ws.length/\x=(hnd ws i,cnt (ws.take i) (hnd ws i)):=by
 have hl:i<ws.length:=by have:=(List.getElem?_eq_some_iff.mp e).1;rwa [cQ] at this
 rw [iW hl] at e;exact ⟨hl,(Option.some.inj e).symm⟩
theorem pF (ws:List aN) (h:Int):∀j,j<=ws.length->0<cnt (ws.take j) h -> ∃m,m<j/\hnd ws m=h/\cnt (ws.take m) h=cnt (ws.take j) h - 1
 | 0,_,hp=>by simp [cnt] at hp
 | j+1,hj,hp=>by
   have e:ws[j]? = some (ws[j]'(by omega)):=by simp
   have tk:ws.take (j+1)=ws.take j++[ws[j]'(by omega)]:=by rw [List.take_add_one,e];rfl
   rw [tk,eE] at hp ⊢
   by_cases q:h=(ws[j]'(by omega)).1
   ·rw [if_pos q]
    exact ⟨j,by omega,by rw [bM e,q],by omega⟩
   ·rw [if_neg q] at hp ⊢
    obtain ⟨m,m1,m2,m3⟩:=pF ws h j (by omega) hp;exact ⟨m,by omega,m2,m3⟩
def prv (ws:List aN) (i:Nat):Nat:=(nm ws).idxOf (hnd ws i,cnt (ws.take i) (hnd ws i) - 1)
theorem zB {ws:List aN} {i:Nat} (hi:i<ws.length) (hp:0<cnt (ws.take i) (hnd ws i)):(nm ws)[prv ws i]? = some (hnd ws i,cnt (ws.take i) (hnd ws i) - 1):=by
 obtain ⟨m,m1,m2,m3⟩:=pF ws (hnd ws i) i (by omega) hp;have hm:(hnd ws i,cnt (ws.take i) (hnd ws i) - 1)∈nm ws:=List.mem_of_getElem? (i:=m) (by rw [iW (show m<ws.length by omega),m2,m3]);have hl:=List.idxOf_lt_length_iff.mpr hm;unfold prv;rw [List.getElem?_eq_getElem hl,List.getElem_idxOf hl]
theorem Pb {ws:List aN} {i:Nat} (ns:List Nt) (hi:i<ws.length) (hp:0<cnt (ws.take i) (hnd ws i)):SE ws ns (prv ws i) i:=by
 have e:=zB hi hp;obtain ⟨m,m1,m2,m3⟩:=pF ws (hnd ws i) i (by omega) hp;have e2:(nm ws)[m]? = some (hnd ws i,cnt (ws.take i) (hnd ws i) - 1):=by rw [iW (show m<ws.length by omega),m2,m3]
 rw [fH e e2];exact .inl ⟨m1,hi,m2,by rw [m2,m3];omega⟩
theorem Ow {ws:List aN} {a b:Nat} (h1:a<b) (h2:b<ws.length) (h3:hnd ws a=hnd ws b) (h4:cnt (ws.take b) (hnd ws b)=cnt (ws.take a) (hnd ws a)+1):0<cnt (ws.take b) (hnd ws b)/\a=prv ws b:=by
 have:=fZ (ws.take a) (hnd ws a);refine ⟨by omega,fH (x:=(hnd ws b,cnt (ws.take b) (hnd ws b) - 1)) ?_ (zB h2 (by omega))⟩;rw [iW (show a<ws.length by omega),h3];congr 2;rw [h3] at h4;omega
def p1 (ws:List aN) (x:Nt):Nat:=(nm ws).idxOf (n1 x)
def p2 (ws:List aN) (x:Nt):Nat:=(nm ws).idxOf (n2 x)
theorem yV {ws:List aN} {x:Nt} (h:Am ws x):tY ws x (p1 ws x) (p2 ws x):=by
 obtain ⟨i,j,ne,h1,h2,lt⟩:=h
 have get:∀{y:lA} {i:Nat},(nm ws)[i]? = some y->(nm ws)[(nm ws).idxOf y]? = some y:=fun {y i} e=>by
  have hl:=List.idxOf_lt_length_iff.mpr (List.mem_of_getElem? e);rw [List.getElem?_eq_getElem hl,List.getElem_idxOf hl]
 have e1:=get h1;have e2:=get h2;have q1:p1 ws x=i:=fH e1 h1;have q2:p2 ws x=j:=fH e2 h2;rw [q1,q2];exact ⟨ne,h1,h2,lt⟩
theorem Gn {ws:List aN} {x:Nt} {i j i' j':Nat} (h:tY ws x i j) (h':tY ws x i' j'):i=i'/\j=j':=⟨fH h.2.1 h'.2.1,fH h.2.2.1 h'.2.2.1⟩
theorem R_ {f:Addr} {fd:FuncData} (F:lW K "steps_by" "steps_by" cT f fd) (Bt:vD mg):dR P w K mg base lC 1 f fd ["places","some"] (Om K):=by
 refine F.ok oE (fun vs H Q E h=> ?_) (fun cdv A outer s H vs Q E hr h=> ?_)
 ·obtain ⟨d,s,kvs,ws,ns,rfl,_⟩:=h
  rfl
 ·obtain ⟨d,sa,kvs,ws,ns,rfl,hd,ek,pl,wl,N,nl,st,k⟩:=h
  have hu:=lM hr
  refine ⟨_,(au (G4 (mF (i:=2) rfl oE.nd rfl (Or.inl rfl) (N:=["name","places"]) (own:=["name"]) (caps:=[0]) (aR.of (by kernel_rfl)) (G_ (pv 0)) (fun _ _ _ _=>(aO (i:=0) (show List.Nodup (["name","places"]:List Str) by decide +kernel) rfl (Or.inl rfl))) (fun _ _ _ _=>(kO (bU Ng (aM (aQ (K:=K) rfl) (pv 0) aA (fun _ _=>rfl)) aA (bG _)))) (fun _ _ _ _=>(lN (aj (jM hu (pv 1) (lN (aj (aM (aQ (K:=K) rfl) (pv 0) aA (fun _ _=>rfl)) (aj (bF qx (aM (aQ (K:=K) rfl) (pv 0) aA (fun _ _=>rfl)) aA) ao))) (fun _ _=>rfl)) (aj (jM hu (pv 1) (pv 0) (fun _ _=>rfl)) ao))))))
   (au (cY (zJ (K:=K) rfl PySem.F.plainAttrs_list PySem.F.slot_list_extend PySem.F.type_list_extend sW (pv 2) (aj (jN rfl (N:=["note","places"]) (own:=["note"]) (caps:=[0]) (aR.of (by kernel_rfl)) (cP (K:=K) rfl (pv 1)) (fun _ _ _ _=>(aO (i:=0) (show List.Nodup (["note","places"]:List Str) by decide +kernel) rfl (Or.inl rfl))) (fun _ _ _ _=>iT) (fun _ _ _ _=>(lN (aj (jM hu (pv 1) (d9 (kJ (K:=K) rfl) (pv 0) gA (gq aA)) (fun _ _=>rfl)) (aj (jM hu (pv 1) (d9 (kJ (K:=K) rfl) (pv 0) (gq aA) gA) (fun _ _=>rfl)) ao))))) ao)))
   (aF (bA (pv 2))))), ?_⟩
  have YT:kvs.length=ws.length:=by rw [ek,Ko,cQ]
  refine ⟨_,rfl,d,kvs,rfl,hd,fun o D hD=> ?_⟩;have fz:(upd H d (.gK o (.dT kvs))) d=some (.gK o (.dT kvs)):=ak;have ndD:D≠d:=fun z=>by rw [z,ak] at hD;cases hD
  have hD0:H D=none:=by rwa [aP ndD] at hD
  refine Fd (fun i=>if 0<cnt (ws.take i) (hnd ws i) then some (pD (rJ (prv ws i) i)) else none) (fun i dd e=> ?_) hD fz (by omega) (fun i kk v b H1 G F' hi hb s1 kG kF=> ?_) (fun H1 vs s1 e1 d1=> ?_)
  ·by_cases z:0<cnt (ws.take i) (hnd ws i)
   ·rw [if_pos z] at e;cases e;rfl
   ·rw [if_neg z] at e;cases e
  ·rw [ek] at hi
   obtain ⟨x,ex,rfl,rfl⟩:=Kq hi;obtain ⟨il,rfl⟩:=zU ex;rw [Qa] at hb;refine ⟨_,rfl,_,_,_,_,rfl,rfl,dG.of hb,rfl,_,_,rfl,rfl,_,rfl, ?_⟩;refine Io (fun hp=> ?_) (fun hp=> ?_)
   ·have hp:0<cnt (ws.take i) (hnd ws i):=of_decide_eq_true hp
    have epv:=zB il hp;refine ⟨_,rfl,_,rfl,_,_,_,_,rfl,rfl,dG.of hb,rfl,_,rfl,_,_,_,_,rfl,rfl,dG.of hb,rfl,_,_,rfl,rfl,(by show 2<=sizeLine;decide),fun u hu'=> ?_⟩;have su:=aD (o:=HO.tup [V.int (hnd ws i),V.int (cnt (ws.take i) (hnd ws i) - 1)]) hu';refine ⟨d,V.int (prv ws i:Nat),rfl,.inr ⟨kvs,kx (hnd ws i,cnt (ws.take i) (hnd ws i) - 1),u,.inr ⟨o,su _ _ (s1 _ _ fz)⟩,rfl,ak,(pl.1 _ _ epv).symm⟩, ?_⟩;refine ⟨_,rfl,_,rfl,d,V.int (i:Nat),rfl,.inr ⟨kvs,kx (hnd ws i,cnt (ws.take i) (hnd ws i)),b,.inr ⟨o,su _ _ (s1 _ _ fz)⟩,rfl,su _ _ hb,(pl.1 _ _ ex).symm⟩,(by show 2<=sizeLine;decide),fun w hw=> ?_⟩;have sw:=aD (o:=HO.tup [V.int (prv ws i:Nat),V.int (i:Nat)]) hw;exact kF _ (pD (rJ (prv ws i) i)) _ (su.trans sw) (if_pos hp) (uZ (x:=rJ (prv ws i) i) ak)
   ·have hp:¬0<cnt (ws.take i) (hnd ws i):=fun z=>hp (decide_eq_true z)
    exact kG _ (Same.refl _) (if_neg hp)
  ·
   have fz1:=s1 _ _ fz;refine ⟨_,⟨d,kvs,o,kvs,hd,fz1,rfl⟩, ?_⟩
   have sm:Same H (upd H1 d (.dT kvs)):=fun b u e=>by
    by_cases q:b=d
    ·subst q;rw [hd] at e;cases e;exact ak
    ·rw [aP q];exact s1 _ _ (by rw [aP q];exact e)
   have tk:∀a xs,H1 a=some (HO.tup xs)->(upd H1 d (.dT kvs)) a=some (HO.tup xs):=fun a xs h=>by
    have:a≠d:=fun z=>by rw [z,fz1] at h;cases h
    rw [aP this];exact h
   have e2:(upd H1 d (.dT kvs)) D=some (.lst vs):=by rw [aP ndD];exact e1
   have hfl:(List.range kvs.length).filterMap (fun i=>if 0<cnt (ws.take i) (hnd ws i) then some (pD (rJ (prv ws i) i)) else none)=((List.range ws.length).filterMap fun i=>if 0<cnt (ws.take i) (hnd ws i) then some (rJ (prv ws i) i) else none).map pD:=by
    rw [YT,List.map_filterMap];refine iH _ trivial fun i _=> ?_;split<;>rfl
   rw [hfl] at d1;have P2:gQ (upd H1 d (.dT kvs)) D ((List.range ws.length).filterMap fun i=>if 0<cnt (ws.take i) (hnd ws i) then some (rJ (prv ws i) i) else none):=⟨vs,e2,aC.keep tk _ (aX _ jP _) d1⟩;have hd2:(upd H1 d (.dT kvs)) d=some (.dT kvs):=ak;have len1:=nR (fun i:Nat=>if 0<cnt (ws.take i) (hnd ws i) then some (rJ (prv ws i) i) else none) ws.length;generalize upd H1 d (.dT kvs)=H2 at sm P2 hd2 ⊢;clear e2 tk;have N2:=N.same sm;obtain ⟨nv,Lp,NK⟩:=id N2;have Ve:nv.length=ns.length:=by rw [NK.length,List.length_map]
   obtain ⟨v2,hv2,dv2⟩:=id P2;have v2l:v2.length<=ws.length:=by rw [dv2.length,List.length_map];exact len1
   refine ⟨_,rfl,.inl ⟨rfl,_,bf.of hv2⟩,_,rfl,sa,rfl,⟨_,bf.of Lp⟩,fun D2 hD2=> ?_⟩;have nDD:D≠D2:=aB hv2 hD2;refine lu (K:=K) (fun i=>(ns[i]?).map fun x=>pD (rJ (p1 ws x) (p2 ws x))) (fun i dd e=> ?_) hD2 (bf.of Lp) (by omega) (fun i v H3 G F' hi s3 kG kF=> ?_) (fun H3 us s3 e3 d3=> ?_)
   ·cases ex:ns[i]? with
    | none=>rw [ex] at e;cases e
    | some x=>rw [ex] at e;cases e;rfl
   ·obtain ⟨x,t,ex,rfl,ht⟩:=mJ NK hi
    have sx:=yV (st x (List.mem_of_getElem? ex));have Rh:=s3 _ _ ht;refine ⟨_,rfl,_,rfl,_,rfl,t,_,rfl,dG.of Rh,zM _ rfl,fun u hu'=> ?_⟩;rw [show jz (nV x) none (some 2)=[V.int x.1,V.int x.2.1] from Je _ _ _ _];have su:=aD (o:=HO.tup [V.int x.1,V.int x.2.1]) hu';refine ⟨d,V.int (p1 ws x:Nat),rfl,by rw [←pl.1 _ _ sx.2.1];exact jh.t (su _ _ (s3 _ _ hd2)) ak, ?_⟩;refine ⟨_,rfl,_,rfl,_,rfl,t,_,rfl,dG.of (su _ _ Rh),zL _ rfl,fun w hw=> ?_⟩;rw [show jz (nV x) (some 2) none=[V.int x.2.2.1,V.int x.2.2.2] from Jd _ _ _ _];have sw:=aD (o:=HO.tup [V.int x.2.2.1,V.int x.2.2.2]) hw;refine ⟨d,V.int (p2 ws x:Nat),rfl,by rw [←pl.1 _ _ sx.2.2.1];exact jh.t (sw _ _ (su _ _ (s3 _ _ hd2))) ak,(by show 2<=sizeLine;decide),fun y hy=> ?_⟩;have sy:=aD (o:=HO.tup [V.int (p1 ws x:Nat),V.int (p2 ws x:Nat)]) hy;exact kF _ (pD (rJ (p1 ws x) (p2 ws x))) _ ((su.trans sw).trans sy) (by rw [ex];rfl) (uZ (x:=rJ (p1 ws x) (p2 ws x)) ak)
   ·rw [Ve,Cu] at d3
    have d3':aC H3 us ((ns.map fun x=>rJ (p1 ws x) (p2 ws x)).map pD):=by rw [List.map_map];exact d3
    have hD3:=s3 _ _ hv2;have dv3:=aC.keep s3.tups _ (aX _ jP _) dv2;have V8:us.length=ns.length:=by rw [d3'.length,List.length_map,List.length_map]
    refine ⟨D,D2,_,_,rfl,rfl,hD3,e3,by rw [sizeLine_eq];omega, ?_⟩;have kD:Kp D H3 (upd H3 D (.lst (v2++us))):=Kp.set;have tD':=kD.tups hD3;refine ⟨_,rfl,k D (((List.range ws.length).filterMap fun i=>if 0<cnt (ws.take i) (hnd ws i) then some (rJ (prv ws i) i) else none)++ns.map fun x=>rJ (p1 ws x) (p2 ws x)) _ hD0 ⟨v2++us,ak, ?_⟩ ?_ (fun x hx=> ?_) (fun a b h=> ?_) (fun b u e=>kD _ _ (s3 _ _ (sm _ _ e)) (aB e hD0))⟩
    ·rw [List.map_append]
     exact aC.append (aC.keep tD' _ (aX _ jP _) dv3) (aC.keep tD' _ (aX _ jP _) d3')
    ·rw [List.length_append,List.length_map];omega
    ·rcases List.mem_append.mp hx with z|z
     ·obtain ⟨i,hi,e⟩:=List.mem_filterMap.mp z
      by_cases hp:0<cnt (ws.take i) (hnd ws i)
      ·rw [if_pos hp] at e
       cases e;exact ⟨_,_,rfl,Pb ns (List.mem_range.mp hi) hp⟩
      ·rw [if_neg hp] at e;cases e
     ·obtain ⟨y,hy,rfl⟩:=List.mem_map.mp z
      exact ⟨_,_,rfl,.inr ⟨y,hy,yV (st y hy)⟩⟩
    ·rcases h with ⟨h1,h2,h3,h4⟩|⟨y,hy,hs⟩
     ·obtain ⟨q1,rfl⟩:=Ow h1 h2 h3 h4
      exact List.mem_append_left _ (List.mem_filterMap.mpr ⟨b,List.mem_range.mpr h2,if_pos q1⟩)
     ·obtain ⟨rfl,rfl⟩:=Gn hs (yV (st y hy))
      exact List.mem_append_right _ (List.mem_map.mpr ⟨y,hy,rfl⟩)
def LI (H:Hp) (a:Addr) (os:List Int):Prop:=H a=some (.lst (os.map V.int))
theorem LI.kp {H H':Hp} {a r:Addr} {os:List Int} (h:LI H a os) (k:Kp r H H') (n:a≠r):LI H' a os:=k _ _ h n
theorem yW {H:Hp} {r p:Addr} (S:aY H r) (hp:H p=none):p≠r:=by
 obtain ⟨f,t,c,e,_⟩:=S;exact (aB e hp).symm
def nI (l:List Nat):List Int:=l.map fun n:Nat=>(n:Int)
def Ar (ws:List aN) (os:List Nat):Prop:=∀(k l p q:Nat),k<l->os[k]? = some p->os[l]? = some q->dh ws q p=false
theorem iG (l:List Nat):(nI l).length=l.length:=by simp [nI]
theorem zW {l:List Nat} {i x:Nat} (e:l[i]? = some x):(nI l)[i]? = some (x:Int):=by unfold nI;rw [List.getElem?_map,e];rfl
theorem Qq {os:List Nat} {t:Nat} {p:Int} (e:(nI os)[t]? = some p):∃q:Nat,os[t]? = some q/\p=(q:Int):=by
 unfold nI at e;rw [List.getElem?_map] at e;cases h:os[t]? with
 | none=>rw [h] at e;cases e
 | some q=>rw [h] at e;exact ⟨q,rfl,(Option.some.inj e).symm⟩
inductive jC (ws:List aN) (ns:List Nt) (j:Nat):Nat->Prop
 | one {i:Nat} (h:SE ws ns i j):jC ws ns j i
 | more {i k:Nat} (h:SE ws ns i k) (r:jC ws ns j k):jC ws ns j i
theorem DK {ws:List aN} {ns:List Nt} {j m:Nat} (r:jC ws ns j m):∃a,SE ws ns a j/\(m=a\/jC ws ns a m):=by
 induction r with
 | one h=>exact ⟨_,h,.inl rfl⟩
 | more h _ ih=>
   obtain ⟨a,s,q⟩:=ih;refine ⟨a,s,.inr ?_⟩;rcases q with rfl|q
   ·exact .one h
   ·exact .more h q
theorem sJ {ws:List aN} {ns:List Nt} {a j m:Nat} (s:SE ws ns a j) (r:jC ws ns a m):jC ws ns j m:=by
 induction r with
 | one h=>exact .more h (.one s)
 | more h _ ih=>exact .more h ih
theorem qT {ws:List aN} {m j:Nat} (h:m<j) (hj:j<=ws.length):cnt (ws.take m) (hnd ws m)+1<=cnt (ws.take j) (hnd ws m):=by
 have e:ws[m]? = some (ws[m]'(by omega)):=by simp
 have tk:ws.take (m+1)=ws.take m++[ws[m]'(by omega)]:=by rw [List.take_add_one,e];rfl
 have:=jA ws (hnd ws m) (m+1) (j - (m+1));rw [show m+1+(j - (m+1))=j by omega,tk,eE,if_pos (bM e)] at this;exact this
theorem xG {ws:List aN} (ns:List Nt):∀(j m:Nat),j<ws.length->m<j->hnd ws m=hnd ws j->jC ws ns j m:=fun j=>by
 induction j using Nat.strongRecOn with
 | _ j ih=>
   intro m hj hm e;have c1:=qT (ws:=ws) hm (by omega);rw [e] at c1;have nn:=fZ (ws.take m) (hnd ws j);have hp:0<cnt (ws.take j) (hnd ws j):=by omega
   obtain ⟨a,a1,a2,a3⟩:=pF ws (hnd ws j) j (by omega) hp;have sa:SE ws ns a j:= .inl ⟨a1,hj,a2,by rw [a2,a3];omega⟩
   by_cases q:m=a
   ·subst q;exact .one sa
   ·by_cases l:m<a
    ·exact sJ sa (ih a a1 m (by omega) l (e.trans a2.symm))
    ·have c2:=qT (ws:=ws) (show a<m by omega) (by omega)
     rw [a2] at c2;omega
def Jx (H:Hp) (kn:Addr) (ws:List aN) (ns:List Nt) (n:Nat):Prop:=∃rs:List Addr,H kn=some (.lst (rs.map V.ref))/\rs.length=n /\ ∀j r,rs[j]? = some r -> ∃g,fK H r g/\Fw ws g fun m=>m=j\/jC ws ns j m
theorem Jx.same {H H':Hp} {kn:Addr} {ws:List aN} {ns:List Nt} {n:Nat} (h:Jx H kn ws ns n) (k:Same H H'):Jx H' kn ws ns n:=by
 obtain ⟨rs,e,l,q⟩:=h;refine ⟨rs,k _ _ e,l,fun j r hj=> ?_⟩;obtain ⟨g,a,b⟩:=q j r hj;exact ⟨g,a.same k,b⟩
structure SrcAt (H:Hp) (S:Addr) (n:Nat) (f:Nat->List Nat) (rs:List Addr):Prop where
 hS:H S=some (.lst (rs.map V.ref))
 len:rs.length=n
 nd:rs.Nodup
 ns:S∉rs
 li:∀b r,rs[b]? = some r->LI H r (nI (f b))
theorem SrcAt.same {H H':Hp} {S:Addr} {n:Nat} {f:Nat->List Nat} {rs:List Addr} (h:SrcAt H S n f rs) (k:Same H H'):SrcAt H' S n f rs:=⟨k _ _ h.hS,h.len,h.nd,h.ns,fun b r e=>k _ _ (h.li b r e)⟩
def jo (es:List lA) (k b:Nat):List Nat:=(es.take k).filterMap fun x=>if x.2=(b:Int) then some x.1.toNat else none
theorem Ij {ws:List aN} {j:Nat} (hj:j<ws.length):Fw ws (fun x=>if x=hnd ws j then cnt (ws.take j) (hnd ws j)+1 else 0) fun m=>hnd ws m=hnd ws j/\m<=j:=fun m x ex=>by
 have hm:m<ws.length:=(List.getElem?_eq_some_iff.mp ex).1;have eh:=bM ex;show cnt (ws.take m) x.1<(if x.1=hnd ws j then _ else 0)↔_
 by_cases e:x.1=hnd ws j
 ·rw [if_pos e,e]
  constructor
  ·intro h
   refine ⟨eh.trans e, ?_⟩;refine Decidable.byContradiction fun n=> ?_;have:=qT (ws:=ws) (show j<m by omega) (by omega);omega
  ·rintro ⟨_,l⟩
   have:=jA ws (hnd ws j) m (j - m);rw [show m+(j - m)=j by omega] at this;omega
 ·rw [if_neg e]
  have:=fZ (ws.take m) x.1;exact ⟨fun h=>by omega,fun h=>absurd (eh.symm.trans h.1) e⟩
def Oo (K:PySem.W.Frag):Sp:=fun vs H Q _=>∃(nd st:Addr) (ws:List aN) (ns:List Nt) (es:List lA),vs=[.ref nd,.ref st]/\gQ H nd (nm ws)/\gQ H st es/\es.length<=90300/\(∀x∈es,∃a b,x=rJ a b/\SE ws ns a b)/\(∀a b,SE ws ns a b->rJ a b∈es)/\ws.length<=300/\(∀x∈ws,0<=x.1/\x.1<8) /\
 ∀(r:Addr) H',H r=none->Jx H' r ws ns ws.length->Same H H'->Q (.ref r) H'
theorem Sd {f:Addr} {fd:FuncData} (F:lW K "knowns_by" "knowns_by" cG f fd) (pJ:FnAt P w K mg base 1 "learn" ["known","more"] (pq K)) (Bt:vD mg):dR P w K mg base lC 2 f fd ["named","steps"] (Oo K):=by
 refine F.ok cD (fun vs H Q E h=> ?_) (fun cdv A outer s H vs Q E hr h=> ?_)
 ·obtain ⟨nd,st,ws,ns,es,rfl,_⟩:=h
  rfl
 ·obtain ⟨nd,st,ws,ns,es,rfl,N,Es,el,es1,es2,wl,BL,k⟩:=h
  have hu:=lM hr
  refine ⟨_,(au (mF (i:=2) rfl cD.nd rfl (Or.inl rfl) (N:=["name"]) (own:=["name"]) (caps:=[]) (aR.of (by kernel_rfl)) (cP (K:=K) rfl (pv 0)) (fun _ _ _ _=>(aO (i:=0) (show List.Nodup (["name"]:List Str) by decide +kernel) rfl (Or.inl rfl))) (fun _ _ _ _=>iT) (fun _ _ _ _=>(eN ao)))
   (au (dN PassesOwn.never rfl (cP (K:=K) rfl (pv 1)) (aO (i:=3) cD.nd rfl (Or.inl rfl))
   (aF (cY (cZ (K:=K) rfl (aM (aK (K:=K) rfl) (pv 2) (aM (aQ (K:=K) rfl) (pv 3) aA (fun _ _=>rfl)) (fun _ _=>rfl)) (aj (aM (aQ (K:=K) rfl) (pv 3) aA (fun _ _=>rfl)) ao)))))
   (au (aW (i:=4) cD.nd rfl (Or.inl rfl) (eN ao))
   (au (dN PassesOwn.never rfl (mG (K:=K) rfl (by rfl) Bt.jc (aj (pv 0) ao)) (mH (K:=K) (n:=2) rfl rfl (cJ (aO (i:=5) cD.nd rfl (Or.inl rfl)) (cJ (aO (i:=6) cD.nd rfl (Or.inl rfl)) kW)))
   (au (aW (i:=7) cD.nd rfl (Or.inl rfl) (Bw (wu (aM (aQ (K:=K) rfl) (pv 6) aA (fun _ _=>rfl)) (bF dO (aM (aQ (K:=K) rfl) (pv 6) aA (fun _ _=>rfl)) aA) Bq) rfl rfl (by simp) (by decide)))
   (au (dN PassesOwn.never rfl (cP (K:=K) rfl (aM (aK (K:=K) rfl) (pv 2) (pv 5) (fun _ _=>rfl))) (aO (i:=8) cD.nd rfl (Or.inl rfl))
   (aF (cY (bw pJ (hr.mono (by decide)) (by rfl) (aj (pv 7) (aj (aM (aK (K:=K) rfl) (pv 4) (pv 8) (fun _ _=>rfl)) ao))))))
   (aF (cY (cZ (K:=K) rfl (pv 4) (aj (pv 7) ao)))))))
   (aF (bA (pv 4))))))), ?_⟩
  obtain ⟨nv,Lp,NK⟩:=id N;have Ve:nv.length=ws.length:=by rw [NK.length,List.length_map,cQ]
  refine ⟨_,rfl,nd,rfl,⟨_,bf.of Lp⟩,fun S hS=> ?_⟩
  refine nT (K:=K) (a:=nd) (xs:=nv) (fun i σ H2=>(∃v,σ=[v]) /\ ∃rs:List Addr,rs.length=i/\rs.Nodup/\H2 S=some (.lst (rs.map V.ref))/\(∀r∈rs,r≠S/\H r=none/\LI H2 r [])/\Same H H2)
   ⟨⟨none,rfl⟩,[],rfl,List.nodup_nil,ak,by simp,aD hS⟩ (fun i σ H2 _ ⟨_,_,_,_,_,_,sm⟩=>bf.of (sm _ _ Lp)) ?_ (fun σ H2 h2=> ?_)
  ·rintro i v σ H2 hi ⟨⟨v0,rfl⟩,rs,rl,WT,hS2,all,sm⟩
   have il:i<nv.length:=(List.getElem?_eq_some_iff.mp hi).1;refine ⟨(by show 0<=sizeLine;decide),fun q hq=> ?_⟩;have sq:=aD (o:=HO.lst []) hq;have nqS:q≠S:=(aB hS2 hq).symm;have kS:Kp S (upd H2 q (.lst [])) (upd (upd H2 q (.lst [])) S (.lst (rs.map V.ref++[V.ref q]))):=Kp.set;refine ⟨_,sq _ _ hS2,by rw [List.length_map,sizeLine_eq];omega,⟨_,rfl⟩,rs++[q],by simp [rl], ?_,by rw [ak];simp,fun r hr'=> ?_,fun b o e=>kS _ _ (sq _ _ (sm _ _ e)) (aB e hS)⟩
   ·rw [List.nodup_append]
    refine ⟨WT,by simp,fun a ha b hb e=> ?_⟩;simp at hb;subst hb;subst e;have:=(all a ha).2.2;rw [show H2 a=_ from this] at hq;cases hq
   ·rcases List.mem_append.mp hr' with z|z
    ·obtain ⟨q1,q2,q3⟩:=all r z
     exact ⟨q1,q2,kS _ _ (sq _ _ q3) q1⟩
    ·simp at z
     subst z;exact ⟨nqS,sm.free hq,kS _ _ ak nqS⟩
  obtain ⟨_,rs,rl,WT,hS2,all,JH⟩:=h2;have Wg:SrcAt H2 S ws.length (jo es 0) rs:=⟨hS2,by rw [rl,Ve],WT,fun z=>(all S z).1 rfl,fun b r e=>(all r (List.mem_of_getElem? e)).2.2⟩;have WR:∀r∈rs,H r=none:=fun r hr'=>(all r hr').2.1;obtain ⟨ev,hev,dev⟩:=id (Es.same JH);have evl:ev.length=es.length:=by rw [dev.length,List.length_map]
  have Nv:H st=some (.lst ev):=by
   obtain ⟨ev0,h0,_⟩:=Es;have:=(JH _ _ h0).symm.trans hev;rw [h0,←Option.some.inj this]
  dsimp only;refine Bf (fun σ H3=>∃(x3:Option V),σ=[some (.ref nd),some (.ref st),some (.ref S),x3,none,none,none,none,none]/\Same H H3/\SrcAt H3 S ws.length (jo es es.length) rs) (fun D' hD' _=> ?_) ?_
  ·refine ⟨_,rfl,st,rfl,⟨_,bf.of hev⟩, ?_⟩
   refine jw (K:=K) (a:=st) (xs:=ev) (fun q σ H3=>∃(x3:Option V),σ=[some (.ref nd),some (.ref st),some (.ref S),x3,none,none,none,none,none]/\Same H H3/\SrcAt H3 S ws.length (jo es q) rs)
    ⟨none,rfl,JH,Wg⟩ (fun q σ H3 _ ⟨_,_,sm,_⟩=>bf.of (sm _ _ Nv)) ?_ ?_
   ·rintro q v σ H3 hq ⟨x3,rfl,sm3,src⟩
    have d3:aC H3 ev (es.map pD):=by
     obtain ⟨ev0,h0,d0⟩:=Es;rw [Nv] at h0;cases h0;exact aC.keep sm3.tups _ (aX _ jP _) d0
    obtain ⟨y,ty,ey,rfl,hty⟩:=pC d3 hq;obtain ⟨a,b,rfl,se⟩:=es1 y (List.mem_of_getElem? ey)
    replace hty:H3 ty=some (.tup [.int (a:Int),.int (b:Int)]):=hty
    have sl:=se.lt;have ql:q<es.length:=(List.getElem?_eq_some_iff.mp ey).1;obtain ⟨r,er⟩:∃r,rs[b]? = some r:=⟨rs[b]'(by rw [src.len];exact sl.2),by simp⟩;have hr':=src.li b r er
    have adT:(jo es q b).length<=q:=by
     unfold jo;refine Nat.le_trans (List.length_filterMap_le _ _) ?_;rw [List.length_take];omega
    refine ⟨_,rfl,_,rfl,_,_,_,_,rfl,rfl,dG.of hty,rfl,_,_,_,_,rfl,rfl,bf.of src.hS,cO (by rw [List.getElem?_map,er];rfl), ?_⟩;refine ⟨.inl ⟨rfl,_,bf.of hr'⟩,_,rfl,_,_,_,_,rfl,rfl,dG.of hty,rfl,r,_,_,rfl,rfl,hr',by rw [List.length_map,iG,sizeLine_eq];omega, ?_⟩;have kr:Kp r H3 (upd H3 r (.lst ((nI (jo es q b)).map V.int++[V.int (a:Int)]))):=Kp.set;have hr0:=WR r (List.mem_of_getElem? er);have nSr:S≠r:=fun z=>src.ns (by rw [z];exact List.mem_of_getElem? er)
    have sf:∀b',jo es (q+1) b'=jo es q b'++(if (b:Int)=(b':Int) then [a] else []):=fun b'=>by
     unfold jo;rw [List.take_add_one,ey,Option.toList_some,List.filterMap_append];congr 1
     by_cases z:(b:Int)=(b':Int)<;>simp [rJ,z]
    refine ⟨_,rfl,fun c o e=>kr _ _ (sm3 _ _ e) (aB e hr0),kr _ _ src.hS nSr,src.len,src.nd,src.ns,fun b' r' Ny=> ?_⟩
    by_cases eb:b'=b
    ·subst eb
     rw [er] at Ny;cases Ny;show upd _ _ _ _=_;rw [ak,sf,if_pos rfl];simp [nI]
    ·have nrr:r'≠r:=fun z=>by
      subst z;obtain ⟨h1,e1⟩:=List.getElem?_eq_some_iff.mp er;obtain ⟨h2,e2⟩:=List.getElem?_eq_some_iff.mp Ny;rcases Nat.lt_or_gt_of_ne eb with l|l
      ·exact List.pairwise_iff_getElem.mp src.nd b' b h2 h1 l (e2.trans e1.symm)
      ·exact List.pairwise_iff_getElem.mp src.nd b b' h1 h2 l (e1.trans e2.symm)
     rw [sf,if_neg (by omega),List.append_nil];exact kr _ _ (src.li b' r' Ny) nrr
   ·rintro σ H3 ⟨x3,rfl,sm3,src⟩
    rw [evl] at src;exact hD' _ _ ⟨x3,rfl,sm3,src⟩
  ·rintro σ H3 ⟨x3,rfl,sm3,src⟩
   have Oi:∀a j,a∈jo es es.length j↔SE ws ns a j:=fun a j=>by
    unfold jo;rw [List.take_length,List.mem_filterMap];constructor
    ·rintro ⟨x,hx,e⟩
     obtain ⟨a',b',rfl,se⟩:=es1 x hx
     by_cases z:(rJ a' b').2=(j:Int)
     ·rw [if_pos z] at e
      have z:(b':Int)=(j:Int):=z;have e:a'=a:=by have:=Option.some.inj e;simpa [rJ] using this
      have z:b'=j:=by omega
      subst e z;exact se
     ·rw [if_neg z] at e;cases e
    ·intro se
     exact ⟨rJ a j,es2 a j se,by rw [if_pos (show (rJ a j).2=(j:Int) from rfl)];rfl⟩
   refine ⟨(by show 0<=sizeLine;decide),fun kn hkn=> ?_⟩;have s4:=aD (o:=HO.lst []) hkn;have Rb:=sm3.trans s4;have Lr:H kn=none:=sm3.free hkn;have Wf:=src.same s4;refine ⟨_,rfl,nd,_,rfl,bf.of (Rb _ _ Lp), ?_⟩
   refine mV (K:=K) (a:=nd) (xs:=nv) (fun j σ H5=>∃(x5 x6 x7 x8:Option V),σ=[some (.ref nd),some (.ref st),some (.ref S),x3,some (.ref kn),x5,x6,x7,x8]/\Same H H5/\Jx H5 kn ws ns j/\SrcAt H5 S ws.length (jo es es.length) rs/\kn∉rs/\kn≠S)
    ⟨none,none,none,none,rfl,Rb,⟨[],ak,rfl,fun j r h=>by simp at h⟩,Wf,(fun z=>by
      obtain ⟨b,hb⟩:=List.getElem?_of_mem z;have:=src.li b kn hb;rw [show H3 kn=_ from this] at hkn;cases hkn),(aB src.hS hkn).symm⟩ (fun j σ H5 _ ⟨_,_,_,_,_,sm,_⟩=>bf.of (sm _ _ Lp)) ?_ ?_
   ·rintro j v σ H5 p hj ⟨x5,x6,x7,x8,rfl,Ou,KN,RG,Yp,Yr⟩ hp
    have jl:j<ws.length:=by have:=(List.getElem?_eq_some_iff.mp hj).1;omega
    have dn5:aC H5 nv ((nm ws).map pD):=aC.keep Ou.tups _ (aX _ jP _) NK;obtain ⟨y,ty,ey,rfl,hty⟩:=pC dn5 hj;obtain ⟨_,rfl⟩:=zU ey
    replace hty:H5 ty=some (.tup [.int (hnd ws j),.int (cnt (ws.take j) (hnd ws j))]):=hty
    have sp:=aD (o:=HO.tup [V.int (j:Int),V.ref ty]) hp;refine ⟨p,_,rfl,dG.of ak,rfl,_,_,rfl,_,_,rfl,rfl, ?_⟩;have Qn:=sp _ _ hty;have V3:=KN.same sp;have J3:=RG.same sp;have Ot:=Ou.trans sp;generalize upd H5 p (.tup [V.int (j:Int),V.ref ty])=H6 at Qn V3 J3 Ot ⊢;intro d hd;have s7:=aD (o:=HO.dK []) hd;refine ⟨_,rfl,_,_,_,_,rfl,rfl,dG.of (s7 _ _ Qn),rfl,_,rfl,_,_,_,_,rfl,rfl,dG.of (s7 _ _ Qn),rfl,_,_,rfl,rfl,ak,[(Sum.inl (hnd ws j),V.int (cnt (ws.take j) (hnd ws j)+1))],rfl,by show 1<=15;decide, ?_⟩
    have e1:upd (upd H6 d (.dK [])) d (.dK (lQ [] [(Sum.inl (hnd ws j),V.int (cnt (ws.take j) (hnd ws j)+1))]))=upd H6 d (.dK (oG [hnd ws j] fun x=>if x=hnd ws j then cnt (ws.take j) (hnd ws j)+1 else 0)):=by
     rw [o_];congr 2;show [(Sum.inl (hnd ws j),V.int (cnt (ws.take j) (hnd ws j)+1))]=_;simp [oG]
    rw [e1];have s8:Same H6 (upd H6 d (.dK (oG [hnd ws j] fun x=>if x=hnd ws j then cnt (ws.take j) (hnd ws j)+1 else 0))):=aD hd;have ey':ws[j]? = some ws[j]:=by simp [jl]
    have h08:0<=hnd ws j/\hnd ws j<8:=by rw [bM ey'];exact BL _ (List.mem_of_getElem? ey')
    have Vm:fK (upd H6 d (.dK (oG [hnd ws j] fun x=>if x=hnd ws j then cnt (ws.take j) (hnd ws j)+1 else 0))) d (fun x=>if x=hnd ws j then cnt (ws.take j) (hnd ws j)+1 else 0):=by
     refine ⟨⟨[hnd ws j],ak,by simp,fun h hh=> ?_,fun h hh=> ?_⟩,fun h=> ?_⟩
     ·have:h=hnd ws j:=by simpa using hh
      subst this;exact h08
     ·have:h≠hnd ws j:=by simpa using hh
      rw [if_neg this]
     ·have:=fZ (ws.take j) (hnd ws j)
      show 0<=if h=hnd ws j then _ else _;split<;>omega
    have hd0:H d=none:=Ot.free hd;have KN8:=V3.same s8;have uh:=J3.same s8;have FJ:=Ot.trans s8;have PK:d≠kn:=by obtain ⟨rs',h',_⟩:=V3;exact (aB h' hd).symm
    have ndS:d≠S:=(aB J3.hS hd).symm
    have ndr:∀r∈rs,r≠d:=fun r hr'=>by
     obtain ⟨b,hb⟩:=List.getElem?_of_mem hr';exact aB (J3.li b r hb) hd
    obtain ⟨ks,hks,Rf,kq⟩:=id V3
    have ndk:∀(i:Nat) (r:Addr),ks[i]? = some r->d≠r:=fun i r hi=>by
     obtain ⟨g,kd,_⟩:=kq i r hi;obtain ⟨_,h',_⟩:=kd.ex;exact (aB h' hd).symm
    generalize upd H6 d (.dK (oG [hnd ws j] fun x=>if x=hnd ws j then cnt (ws.take j) (hnd ws j)+1 else 0))=H8 at Vm s8 KN8 uh FJ ⊢;clear s7 e1;obtain ⟨r,er⟩:∃r,rs[j]? = some r:=⟨rs[j]'(by rw [uh.len];exact jl),by simp⟩;have hr8:=uh.li j r er;have Sh:=ndr r (List.mem_of_getElem? er);dsimp only;refine Bf (fun σ H9=>∃(x8:Option V) (g:Int->Int),σ=[some (.ref nd),some (.ref st),some (.ref S),x3,some (.ref kn),some (.int (j:Int)),some (.ref ty),some (.ref d),x8]/\Kp d H8 H9/\fK H9 d g/\Fw ws g fun m=>m=j\/jC ws ns j m) (fun D' hD' _=> ?_) ?_
    ·refine ⟨_,rfl,_,rfl,_,_,_,_,rfl,rfl,bf.of uh.hS,cO (by rw [List.getElem?_map,er];rfl),r,rfl,⟨_,bf.of hr8⟩, ?_⟩
     refine jw (K:=K) (a:=r) (xs:=(nI (jo es es.length j)).map V.int) (fun q σ H9=>∃(x8:Option V) (g:Int->Int),σ=[some (.ref nd),some (.ref st),some (.ref S),x3,some (.ref kn),some (.int (j:Int)),some (.ref ty),some (.ref d),x8]/\Kp d H8 H9/\fK H9 d g/\Fw ws g fun m=>(hnd ws m=hnd ws j/\m<=j) \/ ∃a∈(jo es es.length j).take q,m=a\/jC ws ns a m)
      ⟨_,_,rfl,Kp.refl _ _,Vm,(Ij jl).iff fun m=>by simp⟩ (fun q σ H9 _ ⟨_,_,_,kp,_⟩=>bf.of (kp _ _ hr8 Sh)) ?_ ?_
     ·rintro q v σ H9 hq ⟨y8,g,rfl,w6,SQ,Rg⟩
      rw [List.getElem?_map] at hq;cases ea:(nI (jo es es.length j))[q]? with
      | none=>rw [ea] at hq;cases hq
      | some z=>
        rw [ea] at hq;cases hq;obtain ⟨a,ea',rfl⟩:=Qq ea;have se:SE ws ns a j:=(Oi a j).mp (List.mem_of_getElem? ea');have al:a<ks.length:=by rw [Rf];exact se.lt.1
        obtain ⟨u,eu⟩:∃u,ks[a]? = some u:=⟨ks[a],by simp [al]⟩;obtain ⟨ga,kda,kna⟩:=kq a u eu;have ndu:=ndk a u eu;have hk9:=w6 _ _ (s8 _ _ hks) PK.symm;have Lb:=(kda.same s8).kp w6 ndu.symm;refine ⟨_,rfl,_,rfl,_,rfl,_,_,_,_,rfl,rfl,bf.of hk9,cO (by rw [List.getElem?_map,eu];rfl),d,u,g,ga,rfl,SQ,Lb,ndu,fun HA kdA kA=> ?_⟩;refine ⟨_,_,rfl,w6.trans kA,kdA,(Cj Rg kna).iff fun m=> ?_⟩;have tk:(jo es es.length j).take (q+1)=(jo es es.length j).take q++[a]:=by rw [List.take_add_one,ea'];rfl
        rw [tk];constructor
        ·rintro ((h|⟨a',h1,h2⟩)|h)
         ·exact .inl h
         ·exact .inr ⟨a',List.mem_append_left _ h1,h2⟩
         ·exact .inr ⟨a,by simp,h⟩
        ·rintro (h|⟨a',h1,h2⟩)
         ·exact .inl (.inl h)
         ·rcases List.mem_append.mp h1 with z|z
          ·exact .inl (.inr ⟨a',z,h2⟩)
          ·simp at z;subst z;exact .inr h2
     ·rintro σ H9 ⟨y8,g,rfl,w6,SQ,Rg⟩
      have e:(jo es es.length j).take ((nI (jo es es.length j)).map V.int).length=jo es es.length j:=by rw [List.length_map,iG,List.take_length]
      rw [e] at Rg;refine hD' _ _ ⟨y8,g,rfl,w6,SQ,Rg.iff fun m=> ?_⟩;constructor
      ·rintro (⟨h1,h2⟩|⟨a,h1,h2⟩)
       ·by_cases q:m=j
        ·exact .inl q
        ·exact .inr (xG ns j m jl (by omega) h1)
       ·have se:=(Oi a j).mp h1
        rcases h2 with rfl|h2
        ·exact .inr (.one se)
        ·exact .inr (sJ se h2)
      ·rintro (rfl|h)
       ·exact .inl ⟨rfl,Nat.le_refl _⟩
       ·obtain ⟨a,se,q⟩:=DK h
        exact .inr ⟨a,(Oi a j).mpr se,q⟩
    ·rintro σ H9 ⟨y8,g,rfl,w6,SQ,Rg⟩
     have hk9:=w6 _ _ (s8 _ _ hks) PK.symm;refine ⟨_,rfl,.inl ⟨rfl,_,bf.of hk9⟩,_,rfl,kn,_,_,rfl,rfl,hk9,by rw [List.length_map,sizeLine_eq];omega, ?_⟩;have kK:Kp kn H9 (upd H9 kn (.lst (ks.map V.ref++[V.ref d]))):=Kp.set;have smZ:Same H (upd H9 kn (.lst (ks.map V.ref++[V.ref d]))):=fun b o e=>kK _ _ (w6 _ _ (FJ _ _ e) (aB e hd0)) (aB e Lr);refine ⟨_,_,_,_,rfl,smZ,⟨ks++[d],by rw [ak];simp,by simp [Rf],fun i u hu'=> ?_⟩,⟨kK _ _ (w6 _ _ uh.hS ndS.symm) Yr.symm,uh.len,uh.nd,uh.ns,fun b r' Ny=>kK _ _ (w6 _ _ (uh.li b r' Ny) (ndr r' (List.mem_of_getElem? Ny))) (fun z=>Yp (by rw [←z];exact List.mem_of_getElem? Ny))⟩,Yp,Yr⟩
     by_cases il:i<ks.length
     ·rw [List.getElem?_append_left il] at hu'
      obtain ⟨ga,kda,kna⟩:=kq i u hu';have Lb:=(kda.same s8).kp w6 (ndk i u hu').symm;obtain ⟨_,h',_⟩:=Lb.ex;exact ⟨ga,Lb.kp kK (iY h' hk9 (by intro z;cases z)),kna⟩
     ·rw [List.getElem?_append_right (by omega)] at hu'
      have:i - ks.length<1:=(List.getElem?_eq_some_iff.mp hu').1;have hi:i=j:=by omega
      subst hi;rw [Rf,Nat.sub_self] at hu';cases hu';exact ⟨g,SQ.kp kK PK,Rg⟩
   ·rintro σ H5 ⟨x5,x6,x7,x8,rfl,Ou,KN,RG,Yp,Yr⟩
    rw [Ve] at KN;exact ⟨_,rfl,k kn H5 Lr KN Ou⟩
def EnP (ws:List aN) (ns:List Nt):Prop:=∀(i j:Nat) (x y:aN),i<j->ws[i]? = some x->ws[j]? = some y->mt x y=true->jC ws ns j i
def Oq (K:PySem.W.Frag):Sp:=fun vs H Q _=>∃(a s:Addr) (ws:List aN) (ns:List Nt),vs=[.ref a,.ref s]/\cA H a ws/\ws.length<=300/\(∀x∈ws,0<=x.1/\x.1<8)/\cM H s ns/\ns.length<=90000/\(∀x∈ns,Am ws x) /\
 ∀(b:Bool) H',(b=true↔EnP ws ns)->Same H H'->Q (.bl b) H'
theorem Sg {f:Addr} {fd:FuncData} (F:lW K "enough" "enough" eY f fd) (yF:FnAt P w K mg base 2 "places_of" ["web"] (pX K)) (rF:FnAt P w K mg base 4 "check_strict" ["places","some"] (Gr K)) (m6:FnAt P w K mg base 1 "names" ["web"] (lZ K)) (Av:FnAt P w K mg base 1 "steps_by" ["places","some"] (Om K)) (yG:FnAt P w K mg base 2 "knowns_by" ["named","steps"] (Oo K)) (iJ:FnAt P w K mg base 1 "touches_meet" ["one","other"] (yZ K)) (lX:FnAt P w K mg base 1 "is_known" ["name","known"] (pA K)) (Bt:vD mg):dR P w K mg base lC 5 f fd ["web","some"] (Oq K):=by
 refine F.ok fQ (fun vs H Q E h=> ?_) (fun cdv A outer s H vs Q E hr h=> ?_)
 ·obtain ⟨a,s,ws,ns,rfl,_⟩:=h
  rfl
 ·obtain ⟨a,sa,ws,ns,rfl,W,wl,BL,N,nl,st,k⟩:=h
  have hu:=lM hr
  refine ⟨_,(au (aW (i:=2) fQ.nd rfl (Or.inl rfl) (bw yF (hr.mono (by decide)) (by rfl) (aj (pv 0) ao)))
   (au (cY (bw rF (hr.mono (by decide)) (by rfl) (aj (pv 2) (aj (pv 1) ao))))
   (au (aW (i:=3) fQ.nd rfl (Or.inl rfl) (bw m6 (hr.mono (by decide)) (by rfl) (aj (pv 0) ao)))
   (au (aW (i:=4) fQ.nd rfl (Or.inl rfl) (bw yG (hr.mono (by decide)) (by rfl) (aj (pv 3) (aj (bw Av (hr.mono (by decide)) (by rfl) (aj (pv 2) (aj (pv 1) ao))) ao))))
   (au (dN PassesOwn.never rfl (mG (K:=K) rfl (by rfl) Bt.jc (aj (pv 4) ao)) (mH (K:=K) (n:=2) rfl rfl (cJ (aO (i:=5) fQ.nd rfl (Or.inl rfl)) (cJ (aO (i:=6) fQ.nd rfl (Or.inl rfl)) kW)))
   (aF (dN PassesOwn.never rfl (eV (by rfl) Bt.gD (aj (pv 5) ao)) (aO (i:=7) fQ.nd rfl (Or.inl rfl))
   (aF (fD (PW.pt (zA (d7 (bw iJ (hr.mono (by decide)) (by rfl) (aj (aM (aK (K:=K) rfl) (pv 0) (pv 7) (fun _ _=>rfl)) (aj (aM (aK (K:=K) rfl) (pv 0) (pv 5) (fun _ _=>rfl)) ao)))) (uF (gM (d7 (bw lX (hr.mono (by decide)) (by rfl) (aj (aM (aK (K:=K) rfl) (pv 3) (pv 7) (fun _ _=>rfl)) (aj (pv 6) ao)))))))) (aF (bA iU)) bY)))))
   (aF (bA iU))))))), ?_⟩
  refine ⟨_,rfl,a,ws,rfl,W,wl,fun d kvs H1 _ h1 pl ek s1=> ?_⟩;refine ⟨_,rfl,_,rfl,d,sa,kvs,ws,ns,rfl,h1,pl,N.same s1,by omega,st,fun H2 s2=> ?_⟩;have s12:=s1.trans s2;refine ⟨_,rfl,a,ws,rfl,W.same s12,by omega,fun nd H3 _ ND s3=> ?_⟩;have GJ:=s12.trans s3;refine ⟨_,rfl,_,rfl,_,rfl,d,sa,kvs,ws,ns,rfl,s3 _ _ (s2 _ _ h1),ek,pl,wl,N.same GJ,nl,st,fun e es H4 _ Es el es1 es2 s4=> ?_⟩;refine ⟨nd,e,ws,ns,es,rfl,ND.same s4,Es,el,es1,es2,wl,BL,fun kn H5 _ KN s5=> ?_⟩;have Ka:=(GJ.trans s4).trans s5;have ND5:=(ND.same s4).same s5;obtain ⟨ks,hks,Rf,kq⟩:=id KN;refine ⟨_,rfl,kn,_,rfl,bf.of hks, ?_⟩
  refine mV (K:=K) (a:=kn) (xs:=ks.map V.ref) (fun j σ H6=>∃(x5 x6 x7:Option V),σ=[some (.ref a),some (.ref sa),some (.ref d),some (.ref nd),some (.ref kn),x5,x6,x7]/\Same H5 H6 /\ ∀(i j':Nat) (x y:aN),j'<j->i<j'->ws[i]? = some x->ws[j']? = some y->mt x y=true->jC ws ns j' i)
   ⟨none,none,none,rfl,Same.refl _,fun i j' x y h=>absurd h (Nat.not_lt_zero _)⟩ (fun j σ H6 _ ⟨_,_,_,_,sm,_⟩=>bf.of (sm _ _ hks)) ?_ ?_
  ·rintro j v σ H6 p hj ⟨x5,x6,x7,rfl,Ot,inv⟩ hp
   rw [List.getElem?_map] at hj;cases eu:ks[j]? with
   | none=>rw [eu] at hj;cases hj
   | some u=>
   rw [eu] at hj;cases hj;have jl:j<ws.length:=by rw [←Rf];exact (List.getElem?_eq_some_iff.mp eu).1
   obtain ⟨g,kd,knp⟩:=kq j u eu;have sp:=aD (o:=HO.tup [V.int (j:Int),V.ref u]) hp;refine ⟨p,_,rfl,dG.of ak,rfl,_,_,rfl,_,_,rfl,rfl, ?_⟩;have sm7:=Ot.trans sp;generalize upd H6 p (.tup [V.int (j:Int),V.ref u])=H7 at sm7 ⊢;refine ⟨_,rfl,_,rfl,by omega,by omega, ?_⟩
   refine ju (lo:=0) (n:=_) (fun i σ H8=>∃(x7:Option V),σ=[some (.ref a),some (.ref sa),some (.ref d),some (.ref nd),some (.ref kn),some (.int (j:Int)),some (.ref u),x7]/\Same H5 H8 /\ ∀(i':Nat) (x y:aN),i'<i->ws[i']? = some x->ws[j]? = some y->mt x y=true->jC ws ns j i')
    ⟨_,rfl,sm7,fun i' x y h=>absurd h (Nat.not_lt_zero _)⟩ ?_ ?_
   ·rintro i σ H8 hi ⟨y7,rfl,FJ,Lg⟩
    have hi:i<j:=by omega
    have il:i<ws.length:=by omega
    obtain ⟨x,ex⟩:∃x,ws[i]? = some x:=⟨ws[i],by simp [il]⟩;obtain ⟨y,ey⟩:∃y,ws[j]? = some y:=⟨ws[j],by simp [jl]⟩;obtain ⟨vs,t1,ha,e1,ht1⟩:=iR (W.same (Ka.trans FJ)) ex;obtain ⟨vs',t2,ha',e2,m8⟩:=iR (W.same (Ka.trans FJ)) ey;have ev:vs=vs':=by rw [ha] at ha';injection ha' with q;injection q
    subst ev;rw [Int.zero_add];refine ⟨_,rfl,_,rfl,_,_,_,_,rfl,rfl,bf.of ha,jV e1,_,rfl,_,rfl,_,_,_,_,rfl,rfl,bf.of ha,jV e2,t1,t2,x,y,rfl,ht1,m8,_,rfl, ?_⟩;cases em:mt x y with
    | false=>
      refine (show if false=true then _ else _ from gG ?_);refine ⟨_,rfl,FJ,fun i' x' y' hi' ex' ey' m'=> ?_⟩
      by_cases z:i'=i
      ·subst z
       rw [ex] at ex';rw [ey] at ey';cases ex';cases ey';rw [em] at m';cases m'
      ·exact Lg i' x' y' (by omega) ex' ey' m'
    | true=>
      refine (show if true=true then _ else _ from fY ?_);obtain ⟨nv,Lp,NK⟩:=id (ND5.same FJ);have nil:i<nv.length:=by rw [NK.length,List.length_map,cQ];exact il
      obtain ⟨vn,evn⟩:∃vn,nv[i]? = some vn:=⟨nv[i],by simp [nil]⟩;obtain ⟨yy,ty,ey2,rfl,hty⟩:=pC NK evn;obtain ⟨_,rfl⟩:=zU ey2;have kn:=knp i x ex;rw [←bM ex] at kn;refine ⟨_,rfl,_,rfl,_,_,_,_,rfl,rfl,bf.of Lp,jV evn,_,rfl,ty,u,_,_,g,rfl,hty,kd.same FJ,_,rfl, ?_⟩
      by_cases q:cnt (ws.take i) (hnd ws i)<g (hnd ws i)
      ·rw [decide_eq_true q]
       refine (show if false=true then _ else _ from gG ?_);refine ⟨_,rfl,FJ,fun i' x' y' hi' ex' ey' m'=> ?_⟩
       by_cases z:i'=i
       ·subst z
        exact (kn.mp q).resolve_left (by omega)
       ·exact Lg i' x' y' (by omega) ex' ey' m'
      ·rw [decide_eq_false q]
       refine (show if true=true then _ else _ from fY ?_);refine k false _ ⟨fun z=>Bool.noConfusion z,fun z=>absurd (kn.mpr (.inr (z i j x y hi ex ey em))) q⟩ (Ka.trans FJ)
   ·rintro σ H8 ⟨y7,rfl,FJ,Lg⟩
    refine ⟨_,_,_,rfl,FJ,fun i j' x y hj' hij ex ey m=> ?_⟩
    by_cases z:j'=j
    ·subst z
     exact Lg i x y (by omega) ex ey m
    ·exact inv i j' x y (by omega) hij ex ey m
  ·rintro σ H6 ⟨x5,x6,x7,rfl,Ot,inv⟩
   refine k true _ ⟨fun _=>fun i j x y hij ex ey m=> ?_,fun _=>rfl⟩ (Ka.trans Ot);have jl:=(List.getElem?_eq_some_iff.mp ey).1;exact inv i j x y (by rw [List.length_map,Rf];exact jl) hij ex ey m
def N7 (ws:List aN) (x:Nt):Prop:=∃i j,dh ws i j=true /\ ¬hnd ws i=hnd ws j/\x=bQ ws i j
theorem N7.str {ws:List aN} {x:Nt} (h:N7 ws x):Am ws x:=by
 obtain ⟨i,j,st,ne,rfl⟩:=h;have l:=bD st;exact ⟨i,j,ne,iW (by omega),iW l.2,l.1⟩
theorem JQ.mtg {ws:List aN} {i j:Nat} (h:JQ ws i j):N7 ws (bQ ws i j):=⟨i,j,h.st,h.ne,rfl⟩
theorem sX {ws:List aN} {x:Nt} (h:x∈cB ws ws.length):∃i j,x=bQ ws i j/\JQ ws i j:=by
 unfold cB at h;obtain ⟨j,hj,h⟩:=List.mem_flatMap.mp h;unfold aV bC at h;obtain ⟨i,hi,rfl⟩:=List.mem_map.mp h;obtain ⟨h1,h2⟩:=List.mem_filter.mp hi;obtain ⟨h3,h4⟩:=List.mem_filter.mp h1;have b:=of_decide_eq_true h4;exact ⟨i,j,rfl,(bD b.1).1,List.mem_range.mp hj,b,of_decide_eq_true h2⟩
theorem Oh {ws:List aN} {i j:Nat} {x y:aN} (ex:ws[i]? = some x) (ey:ws[j]? = some y) (ne:¬hnd ws i=hnd ws j) (st:dh ws i j=true):mt x y=true:=by
 unfold dh yK at st;rw [ex,ey] at st;rw [bM ex,bM ey] at ne;simp [ne] at st;exact st.2
theorem PN {ws:List aN} {i j:Nat} {x y:aN} (h:i<j) (ex:ws[i]? = some x) (ey:ws[j]? = some y) (m:mt x y=true):dh ws i j=true /\ ¬hnd ws i=hnd ws j:=by
 constructor
 ·unfold dh yK
  rw [ex,ey,decide_eq_true h];simp [m]
 ·rw [bM ex,bM ey]
  intro e;unfold mt at m;rw [if_pos e] at m;cases m
theorem BW {ws:List aN} {x:Nt} {a b:Nat} (hx:N7 ws x) (s:tY ws x a b):x=bQ ws a b/\dh ws a b=true:=by
 obtain ⟨i,j,st,ne,rfl⟩:=hx;have l:=bD st;obtain ⟨_,h1,h2,_⟩:=s;have e1:a=i:=fH h1 (iW (by omega));have e2:b=j:=fH h2 (iW l.2);subst e1 e2;exact ⟨rfl,st⟩
theorem zm {ws:List aN} {ns:List Nt} (hn:∀x∈ns,N7 ws x) {a b:Nat} (h:SE ws ns a b):dh ws a b=true:=by
 rcases h with ⟨h1,h2,h3,_⟩|⟨x,hx,s⟩
 ·exact lY h1 h2 h3
 ·exact (BW (hn x hx) s).2
theorem GQ {ws:List aN} {ns:List Nt} (hn:∀x∈ns,N7 ws x) {j i:Nat} (r:jC ws ns j i):gH ws j i:=by
 induction r with
 | one h=>exact .one (zm hn h)
 | more h _ ih=>exact .more (zm hn h) ih
theorem qj {ws:List aN} {ns:List Nt} {i k j:Nat} (h:jC ws ns k i) (r:jC ws ns j k):jC ws ns j i:=by
 induction h with
 | one h=>exact .more h r
 | more h _ ih=>exact .more h ih
theorem QD {ws:List aN} {ns:List Nt} (hp:∀i j,JQ ws i j->bQ ws i j∈ns):∀(d p q:Nat),q - p<=d->gH ws q p->jC ws ns q p:=by
 intro d
 induction d with
 | zero=>intro p q hd r;have:=r.lt;omega
 | succ d ih=>
   intro p q hd r;have rl:=r.lt
   have step:dh ws p q=true->jC ws ns q p:=fun st=>by
    by_cases eh:hnd ws p=hnd ws q
    ·exact xG ns q p rl.2 rl.1 eh
    ·by_cases b:Bare ws q p
     ·have np:JQ ws p q:=⟨rl.1,rl.2,b,eh⟩
      refine .one (.inr ⟨_,hp p q np,eh,iW (by omega),iW rl.2,rl.1⟩)
     ·have:yI ws q (p+1) p:=Classical.byContradiction fun n=>b ⟨st,n⟩
      obtain ⟨x,x1,x2,x3⟩:=this;have rx:gH ws x p:=x3.resolve_left (by omega);have xl:=bD x2;exact qj (ih p x (by omega) rx) (ih x q (by omega) (.one x2))
   cases r with
   | one st=>exact step st
   | @more _ k st r'=>
     have kl:=r'.lt;have sl:=bD st;exact qj (ih p k (by omega) (.one st)) (ih k q (by omega) r')
theorem QC {ws:List aN} {ns:List Nt} (hn:∀x∈ns,N7 ws x):EnP ws ns ↔ ∀x∈cB ws ws.length,x∈ns:=by
 constructor
 ·intro h x hx
  obtain ⟨i,j,rfl,np⟩:=sX hx;have il:i<ws.length:=Nat.lt_trans np.lt np.jl;have ex:ws[i]? = some ws[i]:=by simp
  have ey:ws[j]? = some (ws[j]'np.jl):=by simp
  have r:=h i j _ _ np.lt ex ey (Oh ex ey np.ne np.st);cases r with
  | one s=>
    rcases s with ⟨_,_,e,_⟩|⟨x,hx,s⟩
    ·exact absurd e np.ne
    ·rw [←(BW (hn x hx) s).1];exact hx
  | more s r=>exact absurd (gH.one (zm hn s)) (np.no (GQ hn r))
 ·intro h i j x y hij ex ey m
  obtain ⟨st,_⟩:=PN hij ex ey m;exact QD (fun i j np=>h _ (Lj np)) _ i j (Nat.le_refl _) (.one st)
def cW (ws:List aN) (os:List Nat) (j:Nat):Nat->Nat
 | 0=>0
 | m+1=>cW ws os j m+(if dh ws m j=true/\m∉os then 1 else 0)
theorem pH {ws:List aN} {os:List Nat} {x:Nat} (hx:x∉os) (j:Nat):∀m,cW ws (os++[x]) j m+(if x<m/\dh ws x j=true then 1 else 0)=cW ws os j m
 | 0=>by simp [cW]
 | m+1=>by
   have ih:=pH (ws:=ws) hx j m;unfold cW
   by_cases e:m=x
   ·subst e
    rw [if_neg (show ¬(m<m/\dh ws m j=true) by omega)] at ih;cases hs:dh ws m j with
    | true=>
      rw [if_neg (show ¬(true=true/\m∉os++[m]) by simp),if_pos (show m<m+1/\true=true by simp),if_pos (show true=true/\m∉os by simp [hx])];omega
    | false=>
      rw [if_neg (show ¬(false=true/\m∉os++[m]) by simp),if_neg (show ¬(m<m+1/\false=true) by simp),if_neg (show ¬(false=true/\m∉os) by simp)];omega
   ·have e1:(m∉os++[x])↔m∉os:=by simp [e]
    have e2:(x<m+1)↔x<m:=by omega
    simp only [e1,e2];omega
theorem CP {ws:List aN} {os:List Nat} {j:Nat}:∀{m},(∀i,i<m->dh ws i j=true->i∈os)->cW ws os j m=0
 | 0,_=>rfl
 | m+1,h=>by
   unfold cW;rw [CP fun i hi=>h i (by omega),if_neg fun z=>z.2 (h m (by omega) z.1)]
theorem NP {ws:List aN} {os:List Nat} {j:Nat}:∀{m},cW ws os j m=0 -> ∀i,i<m->dh ws i j=true->i∈os
 | 0,_,i,hi,_=>absurd hi (Nat.not_lt_zero _)
 | m+1,h,i,hi,hs=>by
   unfold cW at h
   by_cases e:i=m
   ·subst e
    refine Decidable.byContradiction fun n=> ?_;rw [if_pos ⟨hs,n⟩] at h;omega
   ·exact NP (m:=m) (by omega) i (by omega) hs
theorem Jj {α:Type} (ws:List aN) (j:Nat) (g:Nat->α):∀m,((List.range m).filterMap fun i=>if dh ws i j=true then some (g i) else none).length=cW ws [] j m
 | 0=>rfl
 | m+1=>by
   rw [dF,List.length_append,Jj ws j g m];show _=cW ws [] j m+(if dh ws m j=true/\m∉([]:List Nat) then 1 else 0);cases dh ws m j<;>simp
structure FO (ws:List aN) (os fs:List Nat):Prop where
 nd:os.Nodup
 lt:∀x∈os,x<ws.length
 cl:∀j∈os,∀i,dh ws i j=true->i∈os
 kp:Ar ws os
 JL:fs.Nodup
 fm:∀x,x∈fs↔x<ws.length/\x∉os/\cW ws os x x=0
theorem IW (ws:List aN):FO ws [] ((List.range ws.length).filter fun j=>cW ws [] j j==0) where
 nd:=List.nodup_nil
 lt:=by simp
 cl:=by simp
 kp:=fun k l p q _ e=>by simp at e
 JL:=List.Nodup.sublist List.filter_sublist List.nodup_range
 fm:=fun x=>by simp
theorem FO.some {ws:List aN} {os fs:List Nat} (h:FO ws os fs) (hl:os.length<ws.length):0<fs.length:=by
 have ex:∃x,x<ws.length/\x∉os:=by
  refine Decidable.byContradiction fun n=> ?_;have:=List.Nodup.length_le_of_subset (List.nodup_range (n:=ws.length)) (l₂:=os) fun x hx=>Decidable.byContradiction fun m=>n ⟨x,List.mem_range.mp hx,m⟩;rw [List.length_range] at this;omega
 obtain ⟨x,hx,nx⟩:=ex
 have least:∀x,x<ws.length->x∉os -> ∃y,y<ws.length/\y∉os /\ ∀i,i<y->i∈os:=fun x=>by
  induction x using Nat.strongRecOn with
  | _ x ih=>
    intro hx nx
    by_cases q:∃i,i<x/\i∉os
    ·obtain ⟨i,hi,ni⟩:=q
     exact ih i hi (by omega) ni
    ·exact ⟨x,hx,nx,fun i hi=>Decidable.byContradiction fun m=>q ⟨i,hi,m⟩⟩
 obtain ⟨y,hy,ny,al⟩:=least x hx nx;have:y∈fs:=(h.fm y).mpr ⟨hy,ny,CP fun i hi _=>al i hi⟩;exact List.length_pos_of_mem this
def jf (ws:List aN) (os:List Nat) (x j y:Nat):Nat:=if y<j then cW ws (os++[x]) y y else cW ws os y y
structure Mid (ws:List aN) (os:List Nat) (x j:Nat) (ms:List Int) (fs:List Nat):Prop where
 ml:ms.length=ws.length
 mg:∀y,y<ws.length->y∉os->y≠x->gI ms (y:Int)=(jf ws os x j y:Int)
 JL:fs.Nodup
 fm:∀y,y∈fs↔y<ws.length/\y∉os/\y≠x/\jf ws os x j y=0
theorem Ei {ws:List aN} {os fs:List Nat} {x k:Nat} {ms:List Int} (h:FO ws os fs) (ml:ms.length=ws.length) (mg:∀y,y<ws.length->y∉os->gI ms (y:Int)=(cW ws os y y:Int)) (e:fs[k]? = some x):Mid ws os x (x+1) ms (fs.eraseIdx k):=by
 have hxf:x∈fs:=List.mem_of_getElem? e;obtain ⟨hx,nx,zx⟩:=(h.fm x).mp hxf
 have eq:∀y,y≠x->jf ws os x (x+1) y=cW ws os y y:=fun y ny=>by
  unfold jf;split
  ·have:=pH (ws:=ws) nx y y
   rw [if_neg (show ¬(x<y/\dh ws x y=true) by omega)] at this;omega
  ·rfl
 refine ⟨ml,fun y hy ny nyx=>by rw [eq y nyx];exact mg y hy ny,h.JL.eraseIdx k,fun y=> ?_⟩;have pw:=List.pairwise_iff_getElem.mp h.JL;obtain ⟨hk,ek⟩:=List.getElem?_eq_some_iff.mp e
 have e1:y∈fs.eraseIdx k↔y∈fs/\y≠x:=by
  rw [List.mem_eraseIdx_iff_getElem];constructor
  ·rintro ⟨i,hi,nik,ei⟩
   refine ⟨by rw [←ei];exact List.getElem_mem hi,fun q=> ?_⟩;rw [←ei,←ek] at q;rcases Nat.lt_or_gt_of_ne nik with l|l
   ·exact pw i k hi hk l q
   ·exact pw k i hk hi l q.symm
  ·rintro ⟨hy,ny⟩
   obtain ⟨i,hi,ei⟩:=List.getElem_of_mem hy;exact ⟨i,hi,fun q=>ny (by subst q;rw [←ei,ek]),ei⟩
 rw [e1,h.fm y];constructor
 ·rintro ⟨⟨a,b,c⟩,d⟩
  exact ⟨a,b,d,by rw [eq y d];exact c⟩
 ·rintro ⟨a,b,d,c⟩
  exact ⟨⟨a,b,by rw [←eq y d];exact c⟩,d⟩
theorem uN {ws:List aN} {os:List Nat} {x j y:Nat} (n:y≠j):jf ws os x (j+1) y=jf ws os x j y:=by
 unfold jf
 by_cases h:y<j
 ·rw [if_pos h,if_pos (by omega)]
 ·rw [if_neg h,if_neg (by omega)]
theorem HX {ws:List aN} {os fs:List Nat} {x j:Nat} {ms:List Int} (h:Mid ws os x j ms fs) (nx:x∉os) (hs:dh ws x j=false):Mid ws os x (j+1) ms fs:=by
 have eq:∀y,jf ws os x (j+1) y=jf ws os x j y:=fun y=>by
  by_cases e:y=j
  ·subst e
   unfold jf;rw [if_pos (by omega),if_neg (by omega)];have:=pH (ws:=ws) nx y y;rw [if_neg (show ¬(x<y/\dh ws x y=true) by rw [hs];simp)] at this;omega
  ·exact uN e
 exact ⟨h.ml,fun y a b c=>by rw [eq y];exact h.mg y a b c,h.JL,fun y=>by rw [eq y];exact h.fm y⟩
theorem K6 {ws:List aN} {os:List Nat} {x j:Nat} (nx:x∉os) (hs:dh ws x j=true):jf ws os x j j=jf ws os x (j+1) j+1:=by
 unfold jf;rw [if_neg (by omega),if_pos (by omega)];have:=pH (ws:=ws) nx j j;rw [if_pos (show x<j/\dh ws x j=true from ⟨(bD hs).1,hs⟩)] at this;omega
theorem HW {ws:List aN} {os fs:List Nat} {x j:Nat} {ms:List Int} (h:Mid ws os x j ms fs) (nx:x∉os) (cl:∀j∈os,∀i,dh ws i j=true->i∈os) (hs:dh ws x j=true):
 gI ms (j:Int) - 1=(jf ws os x (j+1) j:Int)/\Mid ws os x (j+1) (ms.set ((j:Int)).toNat (gI ms (j:Int) - 1)) (if jf ws os x (j+1) j=0 then fs++[j] else fs):=by
 obtain ⟨l1,l2⟩:=bD hs;have nj:j∉os:=fun q=>nx (cl j q x hs);have e1:=h.mg j l2 nj (by omega);have e2:=K6 nx hs;have e3:gI ms (j:Int) - 1=(jf ws os x (j+1) j:Int):=by omega
 have njf:j∉fs:=fun q=>by have:=((h.fm j).mp q).2.2.2;omega
 refine ⟨e3,by rw [List.length_set];exact h.ml,fun y a b c=> ?_, ?_,fun y=> ?_⟩
 ·have ml:=h.ml
  rw [IK (by omega) (by omega) (by omega)]
  by_cases e:y=j
  ·subst e
   rw [if_pos rfl,e3]
  ·rw [if_neg (by omega),uN e]
   exact h.mg y a b c
 ·split
  ·rw [List.nodup_append]
   exact ⟨h.JL,by simp,fun a ha b hb e=>by simp at hb;subst hb;subst e;exact njf ha⟩
  ·exact h.JL
 ·by_cases e:y=j
  ·subst e
   constructor
   ·intro hy
    refine ⟨l2,nj,by omega, ?_⟩;split at hy
    ·assumption
    ·exact absurd hy njf
   ·rintro ⟨_,_,_,z⟩
    rw [if_pos z];simp
  ·rw [uN e,←h.fm y]
   split<;>simp [e]
theorem Ly {ws:List aN} {os fs fs':List Nat} {x:Nat} {ms:List Int} (h:FO ws os fs) (hxf:x∈fs) (M:Mid ws os x ws.length ms fs'):FO ws (os++[x]) fs'/\ms.length=ws.length /\ ∀y,y<ws.length->y∉os++[x]->gI ms (y:Int)=(cW ws (os++[x]) y y:Int):=by
 obtain ⟨hx,nx,zx⟩:=(h.fm x).mp hxf;have eq:∀y,y<ws.length->jf ws os x ws.length y=cW ws (os++[x]) y y:=fun y hy=>by unfold jf;rw [if_pos hy]
 refine ⟨⟨?_, ?_, ?_, ?_,M.JL,fun y=> ?_⟩,M.ml,fun y hy ny=> ?_⟩
 ·rw [List.nodup_append]
  exact ⟨h.nd,by simp,fun a ha b hb e=>by simp at hb;subst hb;subst e;exact nx ha⟩
 ·intro y hy
  rcases List.mem_append.mp hy with q|q
  ·exact h.lt y q
  ·simp at q;omega
 ·intro j hj i hs
  rw [List.mem_append];rcases List.mem_append.mp hj with q|q
  ·exact .inl (h.cl j q i hs)
  ·simp at q
   subst q;exact .inl (NP zx i (bD hs).1 hs)
 ·intro k l p q hkl ep eq'
  by_cases hl:l<os.length
  ·rw [List.getElem?_append_left (by omega)] at ep
   rw [List.getElem?_append_left hl] at eq';exact h.kp k l p q hkl ep eq'
  ·have hl2:l<(os++[x]).length:=(List.getElem?_eq_some_iff.mp eq').1
   rw [List.length_append,List.length_singleton] at hl2;have:l=os.length:=by omega
   subst this;rw [List.getElem?_append_right (Nat.le_refl _),Nat.sub_self] at eq';cases eq';rw [List.getElem?_append_left hkl] at ep;cases hs:dh ws x p with
   | false=>rfl
   | true=>exact absurd (h.cl p (List.mem_of_getElem? ep) x hs) nx
 ·rw [M.fm y]
  constructor
  ·rintro ⟨a,b,c,d⟩
   rw [eq y a] at d;exact ⟨a,by simp [b,c],d⟩
  ·rintro ⟨a,b,d⟩
   simp at b;exact ⟨a,b.1,b.2,by rw [eq y a];exact d⟩
 ·simp at ny
  rw [←eq y hy];exact M.mg y hy ny.1 ny.2
theorem Ci {r m:Addr} {H H2:Hp} {o:HO} (k:Kp r H H2) (hm:H m=none):Kp r H (upd H2 m o):=fun b u e n=>by rw [aP (aB e hm)];exact k b u e n
theorem aY.upd {H:Hp} {r m:Addr} {o:HO} (S:aY H r) (n:m≠r):aY (L2.upd H m o) r:=S.keep' Kp.set n.symm
theorem LI.upd {H:Hp} {a m:Addr} {o:HO} {os:List Int} (h:LI H a os) (n:m≠a):LI (L2.upd H m o) a os:=by
 show L2.upd H m o a=_;rw [aP n.symm];exact h
theorem lR {α β:Type} (f:α->β):∀(l:List α) (n:Nat),(l.map f).eraseIdx n=(l.eraseIdx n).map f
 | [],_=>by simp
 | _::_,0=>rfl
 | x::l,n+1=>by rw [List.map_cons,List.eraseIdx_cons_succ,List.eraseIdx_cons_succ,List.map_cons,lR f l n]
theorem A_ {H:Hp} {a:Addr} {ws:List aN} {i j:Nat} (W:cA H a ws) (hi:i<ws.length) (hj:j<ws.length) (l:i<j):∃vs t1 t2 x y,H a=some (.lst vs)/\C_ vs (i:Int)=some (.ref t1)/\C_ vs (j:Int)=some (.ref t2) /\
 H t1=some (.tup [.int x.1,.str x.2.1,.int x.2.2])/\H t2=some (.tup [.int y.1,.str y.2.1,.int y.2.2])/\dh ws i j=(decide (x.1=y.1)||mt x y):=by
 obtain ⟨x,ex⟩:∃x,ws[i]? = some x:=⟨ws[i],by simp [hi]⟩;obtain ⟨y,ey⟩:∃y,ws[j]? = some y:=⟨ws[j],by simp [hj]⟩;obtain ⟨vs,t1,ha,e1,ht1⟩:=iR W ex;obtain ⟨vs',t2,ha',e2,m8⟩:=iR W ey;have ev:vs=vs':=by rw [ha] at ha';injection ha' with q;injection q
 subst ev;exact ⟨vs,t1,t2,x,y,ha,cO e1,cO e2,ht1,m8,by unfold dh yK;rw [ex,ey,decide_eq_true l,Bool.true_and]⟩
def ux (K:PySem.W.Frag):Sp:=fun vs H Q _=>∃(r a:Addr) (ws:List aN),vs=[.ref r,.ref a]/\aY H r/\cA H a ws/\ws.length<=300/\a≠r /\
 ∀(c:Addr) (os:List Nat) H',H c=none->LI H' c (nI os)->os.length=ws.length->os.Nodup->(∀x∈os,x<ws.length)->Ar ws os->c≠r->aY H' r->Kp r H H'->Q (.ref c) H'
theorem Ea {f:Addr} {fd:FuncData} (F:lW K "_law_free_order" "_law_free_order" bN f fd) (dH:FnAt P w K mg base 1 "_law_draw" ["spring","many"] (j9 K)) (Df:FnAt P w K mg base 2 "_law_step" ["one","other"] (uw K)) (Bt:vD mg):dR P w K mg base lC 3 f fd ["spring","web"] (ux K):=by
 refine F.ok cj (fun vs H Q E h=> ?_) (fun cdv A outer s H vs Q E hr h=> ?_)
 ·obtain ⟨r,a,ws,rfl,_⟩:=h
  rfl
 ·obtain ⟨r,a,ws,rfl,S,W,wl,Yu,k⟩:=h
  refine ⟨_,(au (aW (i:=2) cj.nd rfl (Or.inr rfl) (wB rfl (xc:= "j") (N:=["j","web"]) (own:=["j"]) (caps:=[1]) (bh.of (by kernel_rfl)) (eV (by rfl) Bt.gD (aj (aU (aZ (K:=K) rfl) (by rfl) Bt.jB gj (aj (pv 1) ao)) ao)) (fun _ _ _ _=>(aO (i:=0) (show List.Nodup (["j","web"]:List Str) by decide +kernel) rfl (Or.inr rfl) (Or.inl qO))) (fun _ _ _ _=>iT) (fun _ _ _ _=>(aU (aZ (K:=K) rfl) (by rfl) Bt.jB gj (aj (jN rfl (N:=["i","web","j"]) (own:=["i"]) (caps:=[1,0]) (aR.of (by kernel_rfl)) (eV (by rfl) Bt.gD (aj (pv 0) ao)) (fun _ _ _ _=>(aO (i:=0) (show List.Nodup (["i","web","j"]:List Str) by decide +kernel) rfl (Or.inl rfl))) (fun _ _ _ _=>(kO (d7 (bw Df (hr.mono (by decide)) (by rfl) (aj (aM (aK (K:=K) rfl) (pv 1) (pv 0) (fun _ _=>rfl)) (aj (aM (aK (K:=K) rfl) (pv 1) (pv 2) (fun _ _=>rfl)) ao)))))) (fun _ _ _ _=>(pv 0))) ao)))))
   (au (mF (i:=3) rfl cj.nd rfl (Or.inl rfl) (N:=["j","waits"]) (own:=["j"]) (caps:=[2]) (aR.of (by kernel_rfl)) (eV (by rfl) Bt.gD (aj (aU (aZ (K:=K) rfl) (by rfl) Bt.jB gj (aj (pv 1) ao)) ao)) (fun _ _ _ _=>(aO (i:=0) (show List.Nodup (["j","waits"]:List Str) by decide +kernel) rfl (Or.inl rfl))) (fun _ _ _ _=>(kO (bU lH (aM (aK (K:=K) rfl) (pv 1) (pv 0) (fun _ _=>rfl)) aA (bG _)))) (fun _ _ _ _=>(pv 0)))
   (au (aW (i:=4) cj.nd rfl (Or.inl rfl) (eN ao))
   (au (dN PassesOwn.never rfl (eV (by rfl) Bt.gD (aj (aU (aZ (K:=K) rfl) (by rfl) Bt.jB gj (aj (pv 1) ao)) ao)) (aO (i:=5) cj.nd rfl (Or.inl rfl))
   (au (aW (i:=6) cj.nd rfl (Or.inl rfl) (zJ (K:=K) rfl PySem.F.plainAttrs_list PySem.F.slot_list_pop PySem.F.type_list_pop HS (pv 3) (aj (bw dH (hr.mono (by decide)) (by rfl) (aj (pv 0) (aj (aU (aZ (K:=K) rfl) (by rfl) Bt.jB gj (aj (pv 3) ao)) ao))) ao)))
   (au (cY (cZ (K:=K) rfl (pv 4) (aj (pv 6) ao)))
   (aF (dN PassesOwn.never rfl (DR (by rfl) Bt.gD (aj (bF dO (pv 6) aA) (aj (aU (aZ (K:=K) rfl) (by rfl) Bt.jB gj (aj (pv 1) ao)) ao))) (aO (i:=7) cj.nd rfl (Or.inl rfl))
   (aF (fD (d7 (bw Df (hr.mono (by decide)) (by rfl) (aj (aM (aK (K:=K) rfl) (pv 1) (pv 6) (fun _ _=>rfl)) (aj (aM (aK (K:=K) rfl) (pv 1) (pv 7) (fun _ _=>rfl)) ao)))) (au (qt (bF qx (aM (aK (K:=K) rfl) (pv 2) (pv 7) (fun _ _=>rfl)) aA) (uI (pv 2) (pv 7) set_list))
   (aF (fD (bU lH (aM (aK (K:=K) rfl) (pv 2) (pv 7) (fun _ _=>rfl)) aA (bG _)) (aF (cY (cZ (K:=K) rfl (pv 3) (aj (pv 7) ao)))) bY))) bY)))))))
   (aF (bA (pv 4))))))), ?_⟩
  obtain ⟨vs,ha,dv⟩:=id W;have Dh:vs.length=ws.length:=by rw [dv.length,List.length_map]
  refine ⟨_,rfl,a,_,rfl,.inl (bf.of ha),_,rfl,by omega,by omega, ?_⟩;rw [Dh,Int.toNat_natCast];intro m hm;refine lq (fun j:Nat=>some (V.int (cW ws [] j j:Nat))) hm (by omega) (fun j H1 G F hj s1 kG kF=> ?_) (fun H1 s1 e1=> ?_)
  ·refine ⟨_,rfl,_,rfl,by omega,by omega, ?_⟩
   rw [show (0+(j:Int)).toNat=j by omega];intro D hD;refine lq (fun i:Nat=>if dh ws i j=true then some (V.int (0+(i:Int))) else none) hD (by omega) (fun i H2 G2 F2 hi s2 S_ Tc=> ?_) (fun H2 s2 e2=> ?_)
   ·obtain ⟨vs2,t1,t2,x,y,ha2,e1,e2,ht1,m8,es⟩:=A_ ((W.same s1).same s2) (i:=i) (j:=j) (by omega) hj hi
    refine ⟨_,rfl,_,rfl,_,_,_,_,rfl,rfl,bf.of ha2,by rw [Int.zero_add];exact e1,_,rfl,_,rfl,_,_,_,_,rfl,rfl,bf.of ha2,by rw [Int.zero_add];exact e2,t1,t2,x,y,rfl,ht1,m8,_,rfl, ?_⟩;rw [←es];cases hs:dh ws i j with
    | true=>exact fY ⟨_,rfl,Tc _ _ (Same.refl _) (if_pos hs)⟩
    | false=>exact gG (S_ _ (Same.refl _) (if_neg (by rw [hs];simp)))
   ·refine ⟨D,_,rfl,.inl (bf.of e2), ?_⟩
    refine kF _ _ s2 ?_;rw [Jj]
  have e1':H1 m=some (.lst ((nI ((List.range ws.length).map fun j=>cW ws [] j j)).map V.int)):=by
   rw [e1,nI,List.map_map,List.map_map,←List.filterMap_eq_map];rfl
  have hm1:=hm;refine ⟨_,rfl,a,_,rfl,.inl (bf.of (s1 _ _ ha)),_,rfl,by omega,by omega, ?_⟩;rw [Dh,Int.toNat_natCast];intro fr hfr;have gW:∀y,y<ws.length->gI (nI ((List.range ws.length).map fun j=>cW ws [] j j)) (y:Int)=(cW ws [] y y:Int):=fun y hy=>Qs (zW (by rw [List.getElem?_map,List.getElem?_range hy];rfl));refine lq (fun j:Nat=>if cW ws [] j j=0 then some (V.int (j:Int)) else none) hfr (by omega) (fun j H2 G F hj s2 kG kF=> ?_) (fun H2 s2 e2=> ?_)
  ·refine ⟨_,rfl,_,rfl,_,_,_,_,rfl,rfl,bf.of (s2 _ _ e1'),by rw [Int.zero_add];exact Ak (by omega) (by rw [iG,List.length_map,List.length_range];omega),rfl,_,rfl, ?_⟩
   rw [gW j hj]
   by_cases z:cW ws [] j j=0
   ·rw [show decide (V.int (cW ws [] j j:Nat)=V.int 0)=true by simp [z]]
    exact fY ⟨_,rfl,kF _ _ (Same.refl _) (by rw [if_pos z,Int.zero_add])⟩
   ·rw [show decide (V.int (cW ws [] j j:Nat)=V.int 0)=false from decide_eq_false fun q=>z (by injection q with q;omega)]
    exact gG (kG _ (Same.refl _) (if_neg z))
  have e2':H2 fr=some (.lst ((nI ((List.range ws.length).filter fun j=>cW ws [] j j==0)).map V.int)):=by
   rw [e2,nI,List.map_map];congr 2;rw [←List.filterMap_eq_filter,List.map_filterMap];refine iH _ trivial fun j _=> ?_
   by_cases z:cW ws [] j j=0<;>simp [Option.guard,z]
  have s12:=s1.trans s2;have Qp:H fr=none:=s1.free hfr;have Yn:m≠fr:=aB e1' hfr;refine ⟨(by show 0<=sizeLine;decide),fun o ho=> ?_⟩;have s3:=aD (o:=HO.lst []) ho;have GJ:=s12.trans s3;have Zv:H o=none:=s12.free ho;have nmo:m≠o:=aB (s2 _ _ e1') ho;have Yt:fr≠o:=aB e2' ho;have nmr:=yW S hm;have Ys:=yW S Qp;have nor:=yW S Zv;refine ⟨_,rfl,a,_,rfl,.inl (bf.of (GJ _ _ ha)),_,rfl,by omega,by omega, ?_⟩;rw [Dh,Int.toNat_natCast]
  refine ju (lo:=0) (n:=ws.length) (fun t σ H4=>∃(os fs:List Nat) (ms:List Int) (x1 x2 x3:Option V),σ=[some (.ref r),some (.ref a),some (.ref m),some (.ref fr),some (.ref o),x1,x2,x3] /\
   Kp r H H4/\aY H4 r/\LI H4 m ms/\LI H4 fr (nI fs)/\LI H4 o (nI os)/\FO ws os fs/\os.length=t/\ms.length=ws.length /\ ∀y,y<ws.length->y∉os->gI ms (y:Int)=(cW ws os y y:Int))
   ⟨[],_,_,none,none,none,rfl,.of_same GJ,S.keep GJ,s3 _ _ (s2 _ _ e1'),s3 _ _ e2',ak,IW ws,rfl,by simp [nI],fun y hy _=>gW y hy⟩ ?_ ?_
  ·rintro t σ H4 ht ⟨os,fs,ms,x1,x2,x3,rfl,kp,S4,M4,F4,O4,fo,ol,ml,mg⟩
   have aex:=fo.some (by omega)
   have fle:fs.length<=ws.length:=by
    have:=List.Nodup.length_le_of_subset fo.JL (l₂:=List.range ws.length) fun x hx=>List.mem_range.mpr ((fo.fm x).mp hx).1;rwa [List.length_range] at this
   refine ⟨_,rfl,.inl ⟨rfl,_,bf.of F4⟩,_,rfl,_,rfl,fr,_,rfl,.inl (bf.of F4),r,_,rfl,S4,by rw [List.length_map,iG];omega,by rw [List.length_map,iG];omega,fun n H5 n0 n1 S5 k5=> ?_⟩;rw [List.length_map,iG] at n1;obtain ⟨x,ex⟩:∃x,fs[n.toNat]? = some x:=⟨fs[n.toNat]'(by omega),by simp⟩;have hxf:x∈fs:=List.mem_of_getElem? ex;obtain ⟨hx,nx,zx⟩:=(fo.fm x).mp hxf;have kp5:=kp.trans k5;have F5:LI H5 fr (nI fs):=F4.kp k5 Ys;have M5:LI H5 m ms:=M4.kp k5 nmr;have O5:LI H5 o (nI os):=O4.kp k5 nor;refine ⟨fr,_,n,n.toNat,V.int (x:Int),rfl,rfl,F5,by omega,by omega, ?_, ?_, ?_⟩
   ·exact (uR (Cm n0 (by rw [List.length_map,iG];omega))).1
   ·rw [List.getElem?_map,zW ex];rfl
   have F6:LI (upd H5 fr (.lst (((nI fs).map V.int).eraseIdx n.toNat))) fr (nI (fs.eraseIdx n.toNat)):=by
    show upd _ _ _ _=_;rw [ak,nI,nI,lR,lR]
   have kp6:Kp r H (upd H5 fr (.lst (((nI fs).map V.int).eraseIdx n.toNat))):=Ci kp5 Qp;have S6:=S5.upd (o:= .lst (((nI fs).map V.int).eraseIdx n.toNat)) Ys;have M6:LI (upd H5 fr (.lst (((nI fs).map V.int).eraseIdx n.toNat))) m ms:=M5.upd Yn.symm;have O6:LI (upd H5 fr (.lst (((nI fs).map V.int).eraseIdx n.toNat))) o (nI os):=O5.upd Yt;generalize upd H5 fr (.lst (((nI fs).map V.int).eraseIdx n.toNat))=H6 at F6 kp6 S6 M6 O6 ⊢;refine ⟨_,rfl,.inl ⟨rfl,_,bf.of O6⟩,_,rfl,o,_,_,rfl,rfl,O6,by rw [sizeLine_eq,List.length_map,iG];omega, ?_⟩
   have O7:LI (upd H6 o (.lst ((nI os).map V.int++[V.int (x:Int)]))) o (nI (os++[x])):=by
    show upd _ _ _ _=_;rw [ak,nI,nI,List.map_append,List.map_append];rfl
   have Vl:Kp r H (upd H6 o (.lst ((nI os).map V.int++[V.int (x:Int)]))):=Ci kp6 Zv;have S7:=S6.upd (o:= .lst ((nI os).map V.int++[V.int (x:Int)])) nor;have M7:LI (upd H6 o (.lst ((nI os).map V.int++[V.int (x:Int)]))) m ms:=M6.upd nmo.symm;have F7:LI (upd H6 o (.lst ((nI os).map V.int++[V.int (x:Int)]))) fr (nI (fs.eraseIdx n.toNat)):=F6.upd Yt.symm;generalize upd H6 o (.lst ((nI os).map V.int++[V.int (x:Int)]))=H7 at O7 Vl S7 M7 F7 ⊢;have W7:cA H7 a ws:=W.J5 S Vl Yu;refine ⟨_,rfl,_,_,rfl,rfl,_,rfl,a,_,rfl,.inl (bf.of (Vl _ _ ha Yu)),_,_,rfl,⟨by omega,by omega,by omega,by omega⟩, ?_⟩;rw [Dh]
   refine ju (lo:=(x:Int)+1) (n:=(((ws.length:Nat):Int) - ((x:Int)+1)).toNat) (fun u σ H8=>∃(fs':List Nat) (ms':List Int) (x3:Option V),σ=[some (.ref r),some (.ref a),some (.ref m),some (.ref fr),some (.ref o),some (.int (0+(t:Int))),some (.int (x:Int)),x3] /\
    Kp r H H8/\aY H8 r/\LI H8 m ms'/\LI H8 fr (nI fs')/\LI H8 o (nI (os++[x]))/\Mid ws os x (x+1+u) ms' fs')
    ⟨_,ms,x3,rfl,Vl,S7,M7,F7,O7,Ei fo ml mg ex⟩ ?_ ?_
   ·rintro u σ H8 hu' ⟨fs',ms',x3',rfl,SM,S8,M8,F8,O8,md⟩
    have hj:x+1+u<ws.length:=by omega
    have W8:cA H8 a ws:=W.J5 S SM Yu;obtain ⟨vs8,t1,t2,X,Y,ha8,e1,e2,ht1,m8,es⟩:=A_ W8 (i:=x) (j:=x+1+u) hx hj (by omega);have ej:(x:Int)+1+(u:Int)=((x+1+u:Nat):Int):=by omega
    rw [ej];refine ⟨_,rfl,_,rfl,_,_,_,_,rfl,rfl,bf.of ha8,e1,_,rfl,_,rfl,_,_,_,_,rfl,rfl,bf.of ha8,e2,t1,t2,X,Y,rfl,ht1,m8,_,rfl, ?_⟩;rw [←es];cases hs:dh ws x (x+1+u) with
    | false=>
      refine gG ?_;exact ⟨fs',ms',_,rfl,SM,S8,M8,F8,O8,HX md nx hs⟩
    | true=>
      refine fY ?_;obtain ⟨g1,Vk⟩:=HW md nx fo.cl hs;have ml':=md.ml;refine ⟨_,rfl,_,rfl,_,_,_,_,rfl,rfl,bf.of M8,Ak (by omega) (by omega),_,_,rfl,rfl,_,rfl,_,rfl,m,_,_,_,rfl,rfl,M8,Cm (by omega) (by rw [List.length_map];omega), ?_⟩
      have M9:LI (upd H8 m (.lst ((ms'.map V.int).set ((x+1+u:Nat):Int).toNat (V.int (gI ms' ((x+1+u:Nat):Int) - 1))))) m (ms'.set ((x+1+u:Nat):Int).toNat (gI ms' ((x+1+u:Nat):Int) - 1)):=by
       show upd _ _ _ _=_;rw [ak,List.map_set]
      have w6:Kp r H (upd H8 m (.lst ((ms'.map V.int).set ((x+1+u:Nat):Int).toNat (V.int (gI ms' ((x+1+u:Nat):Int) - 1))))):=Ci SM hm;have S9:=S8.upd (o:= .lst ((ms'.map V.int).set ((x+1+u:Nat):Int).toNat (V.int (gI ms' ((x+1+u:Nat):Int) - 1)))) nmr;have F9:LI (upd H8 m (.lst ((ms'.map V.int).set ((x+1+u:Nat):Int).toNat (V.int (gI ms' ((x+1+u:Nat):Int) - 1))))) fr (nI fs'):=F8.upd Yn;have O9:LI (upd H8 m (.lst ((ms'.map V.int).set ((x+1+u:Nat):Int).toNat (V.int (gI ms' ((x+1+u:Nat):Int) - 1))))) o (nI (os++[x])):=O8.upd nmo;generalize upd H8 m (.lst ((ms'.map V.int).set ((x+1+u:Nat):Int).toNat (V.int (gI ms' ((x+1+u:Nat):Int) - 1))))=H9 at M9 w6 S9 F9 O9 ⊢;refine ⟨_,rfl,_,rfl,_,_,_,_,rfl,rfl,bf.of M9,Ak (by omega) (by rw [List.length_set];omega),rfl,_,rfl, ?_⟩;rw [IK (by omega) (by omega) (by omega),if_pos rfl,g1]
      by_cases z:jf ws os x (x+1+u+1) (x+1+u)=0
      ·rw [show decide (V.int (jf ws os x (x+1+u+1) (x+1+u):Nat)=V.int 0)=true by simp [z]]
       refine fY ?_;rw [if_pos z] at Vk
       have fl9:fs'.length<=ws.length:=by
        have:=List.Nodup.length_le_of_subset md.JL (l₂:=List.range ws.length) fun x hx=>List.mem_range.mpr ((md.fm x).mp hx).1;rwa [List.length_range] at this
       refine ⟨_,rfl,.inl ⟨rfl,_,bf.of F9⟩,_,rfl,fr,_,_,rfl,rfl,F9,by rw [sizeLine_eq,List.length_map,iG];omega, ?_⟩;refine ⟨fs'++[x+1+u],_,_,rfl,Ci w6 Qp,S9.upd Ys,M9.upd Yn.symm, ?_,O9.upd Yt,Vk⟩;show upd _ _ _ _=_;rw [ak,nI,nI,List.map_append,List.map_append];rfl
      ·rw [show decide (V.int (jf ws os x (x+1+u+1) (x+1+u):Nat)=V.int 0)=false from decide_eq_false fun q=>z (by injection q with q;omega)]
       refine gG ?_;rw [if_neg z] at Vk;exact ⟨fs',_,_,rfl,w6,S9,M9,F9,O9,Vk⟩
   ·rintro σ H8 ⟨fs',ms',x3',rfl,SM,S8,M8,F8,O8,md⟩
    rw [show x+1+(((ws.length:Nat):Int) - ((x:Int)+1)).toNat=ws.length by omega] at md;obtain ⟨fo',ml',mg'⟩:=Ly fo hxf md;exact ⟨os++[x],fs',ms',_,_,_,rfl,SM,S8,M8,F8,O8,fo',by simp [ol],ml',mg'⟩
  ·rintro σ H4 ⟨os,fs,ms,x1,x2,x3,rfl,kp,S4,M4,F4,O4,fo,ol,ml,mg⟩
   exact ⟨_,rfl,k o os H4 Zv O4 ol fo.nd fo.lt fo.kp nor S4 kp⟩
def um (K:PySem.W.Frag):Sp:=fun vs H Q _=>∃i:Int,vs=[.int i]/\Q (.bl true) H
theorem Hq {f:Addr} {fd:FuncData} (F:lW K "_law_whole" "_law_whole" eZ f fd) (Bt:vD mg):dR P w K mg base lC 1 f fd ["found"] (um K):=by
 refine F.ok Dw (fun vs H Q E h=> ?_) (fun cdv A outer s H vs Q E hr h=> ?_)
 ·obtain ⟨i,rfl,_⟩:=h
  rfl
 ·obtain ⟨i,rfl,k⟩:=h
  refine ⟨_,(aF (bA (zK (aU (gb (K:=K) (cv:= .ty "int") (c:= .type "int") rfl rfl) (by rfl) Bt.dg cL (aj (pv 0) (aj (jO (v:= .ty "int") (by rfl) Bt.CW vd rfl) ao))) (lO (Hg (aU (gb (K:=K) (cv:= .ty "bool") (c:= .type "bool") rfl rfl) (by rfl) Bt.dg cL (aj (pv 0) (aj (jO (v:= .ty "bool") (by rfl) Bt.Jt CQ rfl) ao)))))))), ?_⟩;refine ⟨_,rfl,_,_,true,rfl,.int i,oH K,true,rfl, ?_⟩;refine fY ?_;exact ⟨_,rfl,_,_,false,rfl,.int i,mO K,false,rfl,k⟩
def uo (K:PySem.W.Frag):Sp:=fun vs H Q _=>∃(f d:Addr) (ps qs:List Nt),vs=[.ref f,.ref d]/\cM H f ps/\cM H d qs /\ ∀H',Same H H'->Q (.bl (decide (ps=qs))) H'
theorem Hr {f:Addr} {fd:FuncData} (F:lW K "_law_rows" "_law_rows" ig f fd) (JB:FnAt P w K mg base 1 "_law_whole" ["found"] (um K)) (Bt:vD mg):dR P w K mg base lC 2 f fd ["found","due"] (uo K):=by
 refine F.ok v7 (fun vs H Q E h=> ?_) (fun cdv A outer s H vs Q E hr h=> ?_)
 ·obtain ⟨f,d,ps,qs,rfl,_⟩:=h
  rfl
 ·obtain ⟨f,d,ps,qs,rfl,P1,P2,k⟩:=h
  have Lk:=hr.units
  refine ⟨_,(au (fD (PW.pt (lF (gM (d7 (aU (gb (K:=K) (cv:= .ty "list") (c:= .type "list") rfl rfl) (by rfl) Bt.dg cL (aj (pv 0) (aj (jO (v:= .ty "list") (by rfl) Bt.rB mZ rfl) ao))))) (jL (bU lG (aU (aZ (K:=K) rfl) (by rfl) Bt.jB gj (aj (pv 0) ao)) (aU (aZ (K:=K) rfl) (by rfl) Bt.jB gj (aj (pv 1) ao)) (bG _))))) (aF (bA iU)) bY)
   (au (dN PassesOwn.never rfl (cP (K:=K) rfl (pv 0)) (aO (i:=2) v7.nd rfl (Or.inl rfl))
   (aF (fD (PW.pt (lF (gM (d7 (aU (gb (K:=K) (cv:= .ty "tuple") (c:= .type "tuple") rfl rfl) (by rfl) Bt.dg cL (aj (pv 2) (aj (jO (v:= .ty "tuple") (by rfl) Bt.CV xY rfl) ao))))) (jL (gM (d7 (aU (gP (K:=K) rfl rfl) (by rfl) Bt.Ju Ac (aj (jN rfl (N:=["number"]) (own:=["number"]) (caps:=[]) (aR.of (by kernel_rfl)) (Bs (K:=K) rfl (pv 2)) (fun _ _ _ _=>(aO (i:=0) (show List.Nodup (["number"]:List Str) by decide +kernel) rfl (Or.inl rfl))) (fun _ _ _ _=>iT) (fun _ _ _ _=>(bw JB (hr.mono (by decide)) (by rfl) (aj (pv 0) ao)))) ao))))))) (aF (bA iU)) bY)))
   (aF (bA (eG (KD (K:=K) rfl Lk) (pv 0) (pv 1) (bG _)))))), ?_⟩
  obtain ⟨vs,hf,dv⟩:=id P1;obtain ⟨us,hd,du⟩:=id P2;have l1:vs.length=ps.length:=by rw [dv.length,List.length_map]
  have l2:us.length=qs.length:=by rw [du.length,List.length_map]
  refine ⟨_,rfl,_,_,true,rfl,.lst hf,rO K,true,rfl, ?_⟩;refine gG ?_;refine ⟨_,rfl,f,_,rfl,.inl (bf.of hf),_,rfl,d,_,rfl,.inl (bf.of hd),rfl,_,rfl, ?_⟩
  by_cases hl:vs.length=us.length
  ·have e1:V.int (vs.length:Int)=V.int (us.length:Int):=by rw [hl]
   refine mL e1 ?_;refine ⟨_,rfl,f,rfl,⟨_,bf.of hf⟩,jw (K:=K) (a:=f) (xs:=vs) (fun i σ H2=>∃v:Option V,σ=[some (.ref f),some (.ref d),v]/\Same H H2) ⟨none,rfl,Same.refl H⟩ (fun i σ H2 _ ⟨_,_,sm⟩=>bf.of (sm _ _ hf)) ?_ ?_⟩
   ·rintro i y σ H2 hi ⟨v,rfl,sm⟩
    obtain ⟨dd,ed,dy⟩:=dv.get hi;rw [List.getElem?_map] at ed;cases ex:ps[i]? with
    | none=>rw [ex] at ed;cases ed
    | some x=>
      rw [ex] at ed;cases ed;obtain ⟨t,rfl,ht⟩:=jR dy;have m8:=sm.tups _ _ ht;refine ⟨_,rfl,_,_,true,rfl,.tup m8,jX K,true,rfl, ?_⟩;refine gG ?_;refine ⟨_,rfl,t,rfl,⟨_,dG.of m8⟩,fun D hD=> ?_⟩;refine xT (K:=K) (a:=t) (xs:=(nV x)) (fun j σ H3=>∃v:Option V,σ=[v]/\H3=upd H2 D (.lst ((List.replicate j true).map V.bl))/\j<=4) ⟨none,rfl,rfl,by decide⟩ (fun j σ H3 _ ⟨_,_,e,_⟩=>dG.of (by rw [e];exact aD hD _ _ m8)) ?_ ?_
      ·rintro j z σ H3 hj ⟨v,rfl,rfl,hj2⟩
       obtain ⟨n,rfl⟩:∃n,z=V.int n:=by
        match j,hj with
        | 0,hj=>exact ⟨_,(Option.some.inj hj).symm⟩
        | 1,hj=>exact ⟨_,(Option.some.inj hj).symm⟩
        | 2,hj=>exact ⟨_,(Option.some.inj hj).symm⟩
        | 3,hj=>exact ⟨_,(Option.some.inj hj).symm⟩
        | _+4,hj=>cases hj
       have hj3:j<4:=(List.getElem?_eq_some_iff.mp hj).1;refine ⟨_,rfl,n,rfl,_,ak,(by rw [List.length_map,List.length_replicate,sizeLine_eq];omega),_,rfl, ?_,by omega⟩;rw [o_,List.replicate_succ',List.map_append];rfl
      ·rintro σ H3 ⟨v,rfl,rfl,_⟩
       refine ⟨D,List.replicate 4 true,rfl,bf.of ak,true,rfl, ?_⟩;refine gG ?_;exact ⟨_,rfl,sm.trans (aD hD)⟩
   ·rintro σ H2 ⟨v,rfl,sm⟩
    refine ⟨_,rfl,_,rfl,_,_,mX (sm _ _ hf) (aC.keep sm.tups _ (aX _ jQ ps) dv),mX (sm _ _ hd) (aC.keep sm.tups _ (aX _ jQ qs) du),qb ps,qb qs, ?_⟩;show Q (.bl (PyData.eqv (.list (ps.map nD)) (.list (qs.map nD)))) H2;rw [xK nD QB];exact k H2 sm
  ·have e1:¬V.int (vs.length:Int)=V.int (us.length:Int):=by intro z;injection z with z;omega
   have e2:decide (ps=qs)=false:=decide_eq_false (fun z=>hl (by rw [l1,l2,z]));rw [decide_eq_false e1];refine fY ?_;rw [←e2];exact k H (Same.refl H)
theorem iB {ws:List aN} {x:aN} {i j:Nat} (hj:j<ws.length):dh (ws++[x]) i j=dh ws i j:=by
 unfold dh yK
 by_cases l:i<j
 ·rw [List.getElem?_append_left (by omega),List.getElem?_append_left hj]
 ·rw [decide_eq_false l,Bool.false_and,Bool.false_and]
theorem sI {ws:List aN} {x:aN} {i j:Nat} (hj:j<ws.length):gH (ws++[x]) j i↔gH ws j i:=by
 constructor
 ·intro r
  induction r with
  | one h=>exact .one (by rwa [iB hj] at h)
  | more h r ih=>
    have:=ih.lt;exact .more (by rwa [iB (by (clear h hj;omega))] at h) ih
 ·intro r
  induction r with
  | one h=>exact .one (by rwa [iB hj])
  | more h r ih=>
    have:=r.lt;exact .more (by rwa [iB (by (clear h hj;omega))]) ih
theorem Aj {ws:List aN} {x:aN} {j i:Nat} (hj:j<ws.length):bC (ws++[x]) j i=bC ws j i:=by
 unfold bC;refine List.filter_congr fun e _=> ?_
 have:Bare (ws++[x]) j e↔Bare ws j e:=by
  unfold Bare yI;rw [iB hj];constructor
  ·rintro ⟨a,b⟩
   refine ⟨a,fun ⟨y,y1,y2,y3⟩=>b ⟨y,y1,by rw [iB hj];exact y2,y3.imp id (sI (by have:=bD y2;(clear y3 y2 y1 b a hj;omega))).mpr⟩⟩
  ·rintro ⟨a,b⟩
   refine ⟨a,fun ⟨y,y1,y2,y3⟩=> ?_⟩;rw [iB hj] at y2;exact b ⟨y,y1,y2,y3.imp id (sI (by have:=bD y2;(clear y3 y2 y1 b a hj;omega))).mp⟩
 by_cases q:Bare ws j e
 ·rw [decide_eq_true q,decide_eq_true (this.mpr q)]
 ·rw [decide_eq_false q,decide_eq_false (fun z=>q (this.mp z))]
theorem kj {ws:List aN} {x:aN} {i:Nat} (hi:i<ws.length):hnd (ws++[x]) i=hnd ws i:=by
 unfold hnd;rw [List.getElem?_append_left hi]
theorem wH {ws:List aN} {x:aN} {i j:Nat} (hi:i<ws.length) (hj:j<ws.length):bQ (ws++[x]) i j=bQ ws i j:=by
 unfold bQ;rw [kj hi,kj hj,List.take_append_of_le_length (by (clear hj;omega)),List.take_append_of_le_length (by (clear hi;omega))]
theorem uK {ws:List aN} {x:aN} {j:Nat} (hj:j<ws.length) {l:List Nat} (hl:∀e∈l,e<ws.length):aV (ws++[x]) j l=aV ws j l:=by
 unfold aV;rw [List.filter_congr (q:=fun e=>decide (¬hnd ws e=hnd ws j)) fun e he=>by rw [kj (hl e he),kj hj]];exact List.map_congr_left fun e he=>wH (hl e (List.mem_filter.mp he).1) hj
theorem Jv {ws:List aN} {j i e:Nat} (hj:j<ws.length) (h:e∈bC ws j i):e<ws.length:=by
 rcases yr h with q|q
 ·omega
 ·subst q
  unfold bC at h;have:=(List.mem_filter.mp h).1;obtain ⟨t,_,rfl⟩:=List.mem_map.mp this;omega
theorem tX {ws:List aN} {x:aN}:∀n,n<=ws.length->cB (ws++[x]) n=cB ws n
 | 0,_=>rfl
 | n+1,h=>by
   rw [iz,iz,tX n (by omega),Aj (by omega),uK (by omega) fun e he=>Jv (by omega) he]
theorem uL (ws:List aN) (j:Nat) (l l':List Nat):aV ws j (l++l')=aV ws j l++aV ws j l':=by
 unfold aV;rw [List.filter_append,List.map_append]
theorem yu:∀(suf pre:List aN) {n:Nat},n<=pre.length->cB (pre++suf) n=cB pre n
 | [],pre,n,_=>by rw [List.append_nil]
 | x::s,pre,n,h=>by
   rw [show pre++x::s=(pre++[x])++s by simp,yu s (pre++[x]) (by rw [List.length_append];omega),tX n h]
theorem uY {p q:List aN} {i:Nat}:(p++q)[p.length+i]? = q[i]? :=by
 rw [List.getElem?_append_right (by omega),Nat.add_sub_cancel_left]
theorem jG {p q:List aN} {i j:Nat}:dh (p++q) (p.length+i) (p.length+j)=dh q i j:=by
 unfold dh yK;rw [uY,uY];congr 1;rw [Bool.eq_iff_iff,decide_eq_true_iff,decide_eq_true_iff];omega
theorem Bk {p q:List aN} {i j:Nat}:gH (p++q) (p.length+j) (p.length+i)↔gH q j i:=by
 constructor
 ·intro r
  generalize ej:p.length+j=J at r;generalize ei:p.length+i=I at r
  induction r generalizing i with
  | one h=>
    subst ei;subst ej;exact .one (by rwa [jG] at h)
  | @more a k h r ih=>
    subst ei;subst ej;have lt:=(bD h).1;obtain ⟨m,rfl⟩:∃m,k=p.length+m:=⟨k - p.length,by omega⟩;exact .more (by rwa [jG] at h) (ih rfl)
 ·intro r
  induction r with
  | one h=>exact .one (by rwa [jG])
  | more h r ih=>exact .more (by rwa [jG]) ih
theorem u5 (p q:List aN) (h:Int):cnt (p++q) h=cnt p h+cnt q h:=by
 unfold cnt;rw [List.filter_append,List.length_append];omega
theorem pR {p q:List aN} {i:Nat}:(p++q).take (p.length+i)=p++q.take i:=by
 rw [List.take_append,List.take_of_length_le (by omega),Nat.add_sub_cancel_left]
theorem uW {p q:List aN} {i:Nat}:hnd (p++q) (p.length+i)=hnd q i:=by
 unfold hnd;rw [uY]
def JK (p:List aN) (x:Nt):Nt:=(x.1,x.2.1+cnt p x.1,x.2.2.1,x.2.2.2+cnt p x.2.2.1)
theorem zT {p q:List aN} {i j:Nat}:bQ (p++q) (p.length+i) (p.length+j)=JK p (bQ q i j):=by
 unfold bQ JK;rw [uW,uW,pR,pR,u5,u5];simp only [Prod.mk.injEq,true_and];exact ⟨Int.add_comm _ _,Int.add_comm _ _⟩
theorem Ma {p q:List aN} {j i e:Nat}:yI (p++q) (p.length+j) (p.length+i) (p.length+e)↔yI q j i e:=by
 unfold yI;constructor
 ·rintro ⟨y,y1,y2,y3⟩
  obtain ⟨m,rfl⟩:∃m,y=p.length+m:=⟨y - p.length,by omega⟩;refine ⟨m,by omega,by rwa [jG] at y2, ?_⟩;rcases y3 with y3|y3
  ·exact .inl (by omega)
  ·exact .inr (Bk.mp y3)
 ·rintro ⟨m,y1,y2,y3⟩
  refine ⟨p.length+m,by omega,by rwa [jG], ?_⟩;rcases y3 with y3|y3
  ·exact .inl (by omega)
  ·exact .inr (Bk.mpr y3)
theorem yp {p q:List aN} {j e:Nat}:Bare (p++q) (p.length+j) (p.length+e)↔Bare q j e:=by
 unfold Bare;rw [jG,show p.length+e+1=p.length+(e+1) by omega,Ma]
noncomputable def Ho (p q:List aN) (j:Nat):List Nat:=((List.range p.length).map fun t=>p.length - 1 - t).filter fun e=>decide (Bare (p++q) (p.length+j) e)
theorem Fv {p q:List aN} {j:Nat}:bC (p++q) (p.length+j) (p.length+j)=(bC q j j).map (fun e=>p.length+e)++Ho p q j:=by
 unfold bC Ho
 have er:(List.range (p.length+j)).map (fun t=>p.length+j - 1 - t)=((List.range j).map fun t=>p.length+(j - 1 - t))++(List.range p.length).map fun t=>p.length - 1 - t:=by
  rw [Nat.add_comm p.length j,List.range_add,List.map_append,List.map_map];congr 1
  ·refine List.map_congr_left fun t ht=> ?_
   have:=List.mem_range.mp ht;omega
  ·refine List.map_congr_left fun t ht=> ?_
   show j+p.length - 1 - (j+t)=_;omega
 rw [er,List.filter_append];congr 1;rw [List.filter_map,List.filter_map,List.map_map]
 have:((fun e=>decide (Bare (p++q) (p.length+j) e))∘fun t=>p.length+(j - 1 - t))=((fun e=>decide (Bare q j e))∘fun t=>j - 1 - t):=by
  funext t;simp only [Function.comp]
  by_cases b:Bare q j (j - 1 - t)
  ·rw [decide_eq_true b,decide_eq_true (yp.mpr b)]
  ·rw [decide_eq_false b,decide_eq_false fun z=>b (yp.mp z)]
 rw [this];rfl
noncomputable def jT (p q:List aN) (n:Nat):List Nt:=(List.range n).flatMap fun j=>aV (p++q) (p.length+j) (Ho p q j)
theorem rN {p q:List aN} {j:Nat} (l:List Nat):aV (p++q) (p.length+j) (l.map fun e=>p.length+e)=(aV q j l).map (JK p):=by
 unfold aV;rw [List.filter_map,List.map_map,List.map_map]
 have:((fun e=>decide (¬hnd (p++q) e=hnd (p++q) (p.length+j)))∘fun e=>p.length+e)=fun e=>decide (¬hnd q e=hnd q j):=by
  funext e;simp only [Function.comp,uW]
 rw [this];exact List.map_congr_left fun e _=>zT
theorem yC (p q:List aN):∀n,(cB (p++q) (p.length+n)).Perm (cB p p.length++((cB q n).map (JK p)++jT p q n))
 | 0=>by
   rw [Nat.add_zero,yu q p (Nat.le_refl _)];show List.Perm _ (cB p p.length++([]++[]));simp
 | n+1=>by
   have ih:=yC p q n;rw [show p.length+(n+1)=(p.length+n)+1 by omega,iz,iz,Fv,uL,rN,List.map_append]
   have ec:jT p q (n+1)=jT p q n++aV (p++q) (p.length+n) (Ho p q n):=by
    unfold jT;rw [List.range_succ,List.flatMap_append];simp
   rw [ec];refine (ih.append_right _).trans ?_;simp only [List.append_assoc];refine List.Perm.append_left _ (List.Perm.append_left _ ?_);rw [←List.append_assoc,←List.append_assoc];exact List.Perm.append_right _ List.perm_append_comm
def iD (ws:List aN) (o:List Nat):List aN:=o.map fun i=>(ws[i]?).getD (0,"",0)
theorem get_some {α:Type} {l:List α} {i:Nat} (h:i<l.length):∃x,l[i]? = some x:=⟨_,List.getElem?_eq_getElem h⟩
structure Ord (ws:List aN) (o:List Nat):Prop where
 perm:o.Perm (List.range ws.length)
 keep:∀(i j a b:Nat),o[i]? = some a->o[j]? = some b->dh ws a b=true->i<j
 nm:∀(i a:Nat) (x:aN),o[i]? = some a->ws[a]? = some x->cnt ((iD ws o).take i) x.1=cnt (ws.take a) x.1
theorem K5 (x y:aN):mt x y=mt y x:=by
 unfold mt
 by_cases h:x.1=y.1
 ·rw [if_pos h,if_pos h.symm]
 ·rw [if_neg h,if_neg (fun z:y.1=x.1=>h z.symm)]
  by_cases c:x.2.2=y.2.2
  ·rw [if_pos c,if_pos c.symm]
   by_cases l:x.2.1 = "load" <;> by_cases m:y.2.1 = "load" <;> simp [l,m]
  ·rw [if_neg c,if_neg (fun z:y.2.2=x.2.2=>c z.symm)]
theorem Gm (ws:List aN) (i j:Nat):yK ws i j=yK ws j i:=by
 unfold yK;cases ws[i]? with
 | none=>cases ws[j]? <;> rfl
 | some x=>
   cases ws[j]? with
   | none=>rfl
   | some y=>
     show (decide (x.1=y.1)||mt x y)=(decide (y.1=x.1)||mt y x);rw [K5 x y];congr 1
     by_cases h:x.1=y.1
     ·rw [decide_eq_true h,decide_eq_true h.symm]
     ·rw [decide_eq_false h,decide_eq_false (fun z=>h z.symm)]
theorem Bj (ws:List aN) (o:List Nat):(iD ws o).length=o.length:=by unfold iD;simp
theorem pB {ws:List aN} {o:List Nat} {i a:Nat} {x:aN} (h:o[i]? = some a) (e:ws[a]? = some x):(iD ws o)[i]? = some x:=by
 unfold iD;rw [List.getElem?_map,h];show some ((ws[a]?).getD (0,"",0))=some x;rw [e];rfl
theorem Dz (ws:List aN):iD ws (List.range ws.length)=ws:=by
 refine List.ext_getElem? fun i=> ?_
 by_cases h:i<ws.length
 ·exact (pB (List.getElem?_range h) (List.getElem?_eq_getElem h)).trans (List.getElem?_eq_getElem h).symm
 ·rw [List.getElem?_eq_none (by rw [Bj,List.length_range];omega),List.getElem?_eq_none (by omega)]
section
variable {ws:List aN} {o:List Nat}
theorem Ord.len (O:Ord ws o):o.length=ws.length:=by rw [O.perm.length_eq,List.length_range]
theorem Ord.lt (O:Ord ws o) {i a:Nat} (h:o[i]? = some a):a<ws.length:=List.mem_range.mp (O.perm.mem_iff.mp (List.mem_of_getElem? h))
theorem Ord.Dg (O:Ord ws o):(iD ws o).length=ws.length:=by rw [Bj,O.len]
theorem Ord.nodup (O:Ord ws o):o.Nodup:=O.perm.nodup_iff.mpr List.nodup_range
theorem Ord.inj (O:Ord ws o) {i j a:Nat} (hi:o[i]? = some a) (hj:o[j]? = some a):i=j:=by
 obtain ⟨li,ei⟩:=List.getElem?_eq_some_iff.mp hi;obtain ⟨lj,ej⟩:=List.getElem?_eq_some_iff.mp hj;have nd:=List.pairwise_iff_getElem.mp (List.nodup_iff_pairwise_ne.mp O.nodup);rcases Nat.lt_trichotomy i j with l|l|l
 ·exact absurd (ei.trans ej.symm) (nd i j li lj l)
 ·exact l
 ·exact absurd (ej.trans ei.symm) (nd j i lj li l)
theorem Ord.onto (O:Ord ws o) {a:Nat} (h:a<ws.length):∃i:Nat,o[i]? = some a:=List.getElem?_of_mem (O.perm.mem_iff.mpr (List.mem_range.mpr h))
theorem Ord.of (O:Ord ws o) {i:Nat} (h:i<ws.length):∃a,o[i]? = some a:=get_some (by rw [O.len];exact h)
theorem Ord.dh (O:Ord ws o) {i j a b:Nat} (hi:o[i]? = some a) (hj:o[j]? = some b):dh (iD ws o) i j=true↔Prf.dh ws a b=true:=by
 obtain ⟨xa,ea⟩:=get_some (O.lt hi);obtain ⟨xb,eb⟩:=get_some (O.lt hj)
 have es:yK (iD ws o) i j=yK ws a b:=by
  unfold yK;rw [pB hi ea,pB hj eb,ea,eb]
 constructor
 ·intro q
  unfold Prf.dh at q;rw [Bool.and_eq_true,es] at q;obtain ⟨lij,st⟩:=q;have lij:=of_decide_eq_true lij;rcases Nat.lt_trichotomy a b with l|l|l
  ·unfold Prf.dh
   rw [decide_eq_true l,st];rfl
  ·subst l
   exact absurd (O.inj hi hj) (by omega)
  ·have:Prf.dh ws b a=true:=by
    unfold Prf.dh;rw [decide_eq_true l,Gm,st];rfl
   have:=O.keep j i b a hj hi this;omega
 ·intro q
  have l:=O.keep i j a b hi hj q;unfold Prf.dh at q ⊢;rw [Bool.and_eq_true] at q;rw [decide_eq_true l,es,q.2];rfl
theorem Ord.WY (O:Ord ws o) {j b:Nat} (hj:o[j]? = some b):∀{i:Nat},gH (iD ws o) j i -> ∀a,o[i]? = some a->gH ws b a:=by
 intro i r
 induction r with
 | one h=>exact fun a ha=> .one ((O.dh ha hj).mp h)
 | more h r ih=>
   intro a ha;have:=(bD h).2;rw [O.Dg] at this;obtain ⟨c,hc⟩:=O.of this;exact .more ((O.dh ha hc).mp h) (ih c hc)
theorem Ord.WX (O:Ord ws o) {j b:Nat} (hj:o[j]? = some b):∀{a:Nat},gH ws b a -> ∀i,o[i]? = some a->gH (iD ws o) j i:=by
 intro a r
 induction r with
 | one h=>exact fun i hi=> .one ((O.dh hi hj).mpr h)
 | more h r ih=>
   intro i hi;obtain ⟨k,hk⟩:=O.onto (bD h).2;exact .more ((O.dh hi hk).mpr h) (ih k hk)
theorem Ord.rch (O:Ord ws o) {i j a b:Nat} (hi:o[i]? = some a) (hj:o[j]? = some b):gH (iD ws o) j i↔gH ws b a:=⟨fun r=>O.WY hj r a hi,fun r=>O.WX hj r i hi⟩
theorem yj {ws:List aN} {j e:Nat}:Bare ws j e↔Prf.dh ws e j=true /\ ¬ ∃x,Prf.dh ws x j=true/\gH ws x e:=by
 unfold Bare yI;constructor
 ·rintro ⟨s,q⟩
  refine ⟨s,fun ⟨x,sx,r⟩=>q ⟨x,r.lt.1,sx,.inr r⟩⟩
 ·rintro ⟨s,q⟩
  refine ⟨s,fun ⟨x,l,sx,r⟩=>q ⟨x,sx, ?_⟩⟩;rcases r with r|r
  ·omega
  ·exact r
theorem Ord.bare (O:Ord ws o) {i j a b:Nat} (hi:o[i]? = some a) (hj:o[j]? = some b):Bare (iD ws o) j i↔Bare ws b a:=by
 rw [yj,yj,O.dh hi hj];constructor
 ·rintro ⟨s,q⟩
  refine ⟨s,fun ⟨x,sx,r⟩=> ?_⟩;obtain ⟨k,hk⟩:=O.onto (Nat.lt_trans (bD sx).1 (bD sx).2);exact q ⟨k,(O.dh hk hj).mpr sx,(O.rch hi hk).mpr r⟩
 ·rintro ⟨s,q⟩
  refine ⟨s,fun ⟨k,sk,r⟩=> ?_⟩;have:=Nat.lt_trans (bD sk).1 (bD sk).2;rw [O.Dg] at this;obtain ⟨x,hx⟩:=O.of this;exact q ⟨x,(O.dh hx hj).mp sk,(O.rch hi hx).mp r⟩
theorem b_ {ws:List aN} {j e:Nat}:e∈bC ws j j↔Bare ws j e:=by
 unfold bC;rw [List.mem_filter];constructor
 ·exact fun h=>of_decide_eq_true h.2
 ·intro h
  have l:=(bD h.1).1;exact ⟨List.mem_map.mpr ⟨j - 1 - e,List.mem_range.mpr (by omega),by omega⟩,decide_eq_true h⟩
theorem iV (ws:List aN) (j:Nat):(bC ws j j).Nodup:=by
 unfold bC;rw [List.nodup_iff_pairwise_ne];refine List.Pairwise.filter _ ?_;rw [List.pairwise_map];refine List.Pairwise.imp_of_mem ?_ List.nodup_range;intro a b ha hb ne;have ha:=List.mem_range.mp ha;have hb:=List.mem_range.mp hb;omega
theorem Ord.down (O:Ord ws o) {j b:Nat} (hj:o[j]? = some b):((bC (iD ws o) j j).map fun i=>(o[i]?).getD 0).Perm (bC ws b b):=by
 have lt:∀{e:Nat},e∈bC (iD ws o) j j -> ∃a,o[e]? = some a:=fun {e} h=>by
  have:=bD (b_.mp h).1;rw [O.Dg] at this;exact O.of (by omega)
 refine (List.perm_ext_iff_of_nodup ?_ (iV _ _)).mpr fun a=> ?_
 ·rw [List.nodup_iff_pairwise_ne,List.pairwise_map]
  refine List.Pairwise.imp_of_mem ?_ (iV _ _);intro x y hx hy ne z;obtain ⟨a,ha⟩:=lt hx;obtain ⟨c,hc⟩:=lt hy;rw [ha,hc] at z;have z:a=c:=z;subst z;exact ne (O.inj ha hc)
 ·rw [b_,List.mem_map]
  constructor
  ·rintro ⟨i,hi,e⟩
   obtain ⟨c,hc⟩:=lt hi;rw [hc] at e;have e:c=a:=e;subst e;exact (O.bare hc hj).mp (b_.mp hi)
  ·intro h
   obtain ⟨i,hi⟩:=O.onto (Nat.lt_trans (bD h.1).1 (bD h.1).2);exact ⟨i,b_.mpr ((O.bare hi hj).mpr h),by rw [hi];rfl⟩
theorem Ord.hnd (O:Ord ws o) {i a:Nat} (hi:o[i]? = some a):hnd (iD ws o) i=Prf.hnd ws a:=by
 obtain ⟨xa,ea⟩:=get_some (O.lt hi);rw [bM (pB hi ea),bM ea]
theorem Ord.note (O:Ord ws o) {i j a b:Nat} (hi:o[i]? = some a) (hj:o[j]? = some b):bQ (iD ws o) i j=bQ ws a b:=by
 obtain ⟨xa,ea⟩:=get_some (O.lt hi);obtain ⟨xb,eb⟩:=get_some (O.lt hj);have n1:=O.nm i a _ hi ea;have n2:=O.nm j b _ hj eb;unfold bQ;rw [O.hnd hi,O.hnd hj,bM ea,bM eb,n1,n2]
theorem Ord.notes (O:Ord ws o) {j b:Nat} (hj:o[j]? = some b):(aV (iD ws o) j (bC (iD ws o) j j)).Perm (aV ws b (bC ws b b)):=by
 have q:=((O.down hj).filter fun e=>decide (¬Prf.hnd ws e=Prf.hnd ws b)).map fun e=>bQ ws e b;refine List.Perm.trans (List.Perm.of_eq ?_) q;unfold aV;rw [List.filter_map,List.map_map]
 have lt:∀{e:Nat},e∈bC (iD ws o) j j -> ∃a,o[e]? = some a:=fun {e} h=>by
  have:=bD (b_.mp h).1;rw [O.Dg] at this;exact O.of (by omega)
 have ef:(bC (iD ws o) j j).filter (fun e=>decide (¬Prf.hnd (iD ws o) e=Prf.hnd (iD ws o) j))=(bC (iD ws o) j j).filter ((fun e=>decide (¬Prf.hnd ws e=Prf.hnd ws b))∘fun i=>(o[i]?).getD 0):=by
  refine List.filter_congr fun e he=> ?_;obtain ⟨a,ha⟩:=lt he;show decide _=decide (¬Prf.hnd ws ((o[e]?).getD 0)=Prf.hnd ws b);rw [O.hnd ha,O.hnd hj,ha];rfl
 rw [ef];refine List.map_congr_left fun e he=> ?_;obtain ⟨a,ha⟩:=lt (List.mem_filter.mp he).1;show bQ _ _ _=bQ ws ((o[e]?).getD 0) b;rw [ha];exact O.note ha hj
theorem Bu {α β:Type} {f g:α->List β}:∀(l:List α),(∀i∈l,(f i).Perm (g i))->(l.flatMap f).Perm (l.flatMap g)
 | [],_=>List.Perm.refl _
 | a::l,h=>by
   rw [List.flatMap_cons,List.flatMap_cons];exact (h a (.head _)).append (Bu l fun i hi=>h i (.tail _ hi))
theorem Ord.all (O:Ord ws o):(cB (iD ws o) (iD ws o).length).Perm (cB ws ws.length):=by
 unfold cB;rw [O.Dg];have p:(o.flatMap fun b=>aV ws b (bC ws b b)).Perm ((List.range ws.length).flatMap fun b=>aV ws b (bC ws b b)):=O.perm.flatMap_right _;refine List.Perm.trans ?_ p
 have eo:o=(List.range ws.length).map fun i=>(o[i]?).getD 0:=by
  refine List.ext_getElem? fun i=> ?_
  by_cases h:i<ws.length
  ·rw [List.getElem?_map,List.getElem?_range h]
   obtain ⟨a,ha⟩:=O.of h;show o[i]? = some ((o[i]?).getD 0);rw [ha];rfl
  ·rw [List.getElem?_eq_none (by rw [O.len];omega),List.getElem?_eq_none (by simp;omega)]
 have e2:(o.flatMap fun b=>aV ws b (bC ws b b))=(List.range ws.length).flatMap fun i=>aV ws ((o[i]?).getD 0) (bC ws ((o[i]?).getD 0) ((o[i]?).getD 0)):=by
  conv=>lhs;rw [eo]
  rw [List.flatMap_map]
 rw [e2];refine Bu _ fun i hi=> ?_;obtain ⟨a,ha⟩:=O.of (List.mem_range.mp hi);rw [ha];exact O.notes ha
theorem Ord.Rn (O:Ord ws o):(iD ws o).Perm ws:=by
 have q:(iD ws o).Perm (iD ws (List.range ws.length)):=O.perm.map _;rwa [Dz] at q
end
def Rc (ws:List aN) (h:Int):List Nat:=(List.range ws.length).filter fun i=>decide (hnd ws i=h)
theorem G7 (ws:List aN) (x:aN) (h:Int):Rc (ws++[x]) h=Rc ws h++(if x.1=h then [ws.length] else []):=by
 unfold Rc;rw [List.length_append,List.length_singleton,List.range_succ,List.filter_append];congr 1
 ·refine List.filter_congr fun i hi=> ?_
  rw [kj (List.mem_range.mp hi)]
 ·have:hnd (ws++[x]) ws.length=x.1:=by unfold hnd;simp
  rw [List.filter_cons,this]
  by_cases e:x.1=h<;>simp [e]
theorem wz (h:Int):∀(n:Nat) (ws:List aN),ws.length=n->((Rc ws h).length:Int)=cnt ws h
 | 0,ws,e=>by
   cases ws with
   | nil=>rfl
   | cons _ _=>cases e
 | n+1,ws,e=>by
   rcases List.eq_nil_or_concat ws with rfl|⟨l,x,rfl⟩
   ·cases e
   ·have ih:=wz h n l (by simpa using e)
    rw [List.concat_eq_append,G7,List.length_append,eE]
    by_cases e:x.1=h
    ·rw [if_pos e,if_pos e.symm];simp;(clear e;omega)
    ·rw [if_neg e,if_neg (Ne.symm e)];simpa using ih
theorem Km (ws:List aN) (h:Int):((Rc ws h).length:Int)=cnt ws h:=wz h _ ws rfl
theorem Ir {ws:List aN} {a m:Nat} (h:m<a):hnd (ws.take a) m=hnd ws m:=by
 unfold hnd;rw [List.getElem?_take,if_pos h]
theorem z_ {ws:List aN} {a:Nat} (ha:a<=ws.length) (h:Int):cnt (ws.take a) h=(((List.range a).filter fun m=>decide (hnd ws m=h)).length:Int):=by
 rw [←Km];unfold Rc;rw [List.length_take,Nat.min_eq_left ha];congr 2;refine List.filter_congr fun m hm=> ?_;rw [Ir (List.mem_range.mp hm)]
theorem CK {ws:List aN} {h:Int}:∀{o:List Nat},(∀m∈o,m<ws.length)->cnt (iD ws o) h=((o.filter fun m=>decide (hnd ws m=h)).length:Int)
 | [],_=>rfl
 | m::o,q=>by
   obtain ⟨x,ex⟩:=get_some (q m (.head _));have ih:=CK (h:=h) (o:=o) fun m hm=>q m (.tail _ hm)
   have e:iD ws (m::o)=x::iD ws o:=by
    show (ws[m]?).getD (0,"",0)::iD ws o=_;rw [ex];rfl
   unfold cnt at ih ⊢;rw [e,List.filter_cons,List.filter_cons,bM ex]
   by_cases c:x.1=h
   ·rw [if_pos (decide_eq_true c),if_pos (decide_eq_true c),List.length_cons,List.length_cons]
    omega
   ·rw [if_neg (by simp [c]),if_neg (by simp [c])]
    exact ih
theorem Pn {ws:List aN} {o:List Nat} (p:o.Perm (List.range ws.length)) (keep:∀(i j a b:Nat),o[i]? = some a->o[j]? = some b->dh ws a b=true->i<j):Ord ws o:=by
 refine ⟨p,keep,fun i a x hi hx=> ?_⟩;have al:=(List.getElem?_eq_some_iff.mp hx).1;have nd:o.Nodup:=p.nodup_iff.mpr List.nodup_range;have lt:∀m∈o,m<ws.length:=fun m hm=>List.mem_range.mp (p.mem_iff.mp hm);have tk:(iD ws o).take i=iD ws (o.take i):=by unfold iD;rw [List.map_take]
 rw [tk,CK fun m hm=>lt m (List.mem_of_mem_take hm),z_ (Nat.le_of_lt al)];congr 1;refine List.Perm.length_eq ((List.perm_ext_iff_of_nodup ?_ ?_).mpr fun m=> ?_)
 ·exact List.Pairwise.filter _ (List.Pairwise.sublist (List.take_sublist _ _) nd)
 ·exact List.Pairwise.filter _ List.nodup_range
 ·rw [List.mem_filter,List.mem_filter,List.mem_range]
  constructor
  ·rintro ⟨hm,e⟩
   refine ⟨?_,e⟩;have e:=of_decide_eq_true e;obtain ⟨t,ht⟩:=List.getElem?_of_mem hm;rw [List.getElem?_take] at ht;split at ht
   ·rename_i ti
    rcases Nat.lt_trichotomy m a with q|q|q
    ·exact q
    ·subst q
     have nd':=List.pairwise_iff_getElem.mp (List.nodup_iff_pairwise_ne.mp nd);obtain ⟨l1,e1⟩:=List.getElem?_eq_some_iff.mp ht;obtain ⟨l2,e2⟩:=List.getElem?_eq_some_iff.mp hi;exact absurd (e1.trans e2.symm) (nd' t i l1 l2 ti)
    ·have:=keep i t a m hi ht (lY q (lt m (List.mem_of_getElem? ht)) (by rw [e,bM hx]))
     omega
   ·cases ht
  ·rintro ⟨hm,e⟩
   refine ⟨?_,e⟩;have e:=of_decide_eq_true e;obtain ⟨t,ht⟩:=List.getElem?_of_mem (p.mem_iff.mpr (List.mem_range.mpr (by omega:m<ws.length)));have ti:=keep t i m a ht hi (lY hm al (by rw [e,bM hx]));exact List.mem_of_getElem? (i:=t) (by rw [List.getElem?_take,if_pos ti];exact ht)
theorem nO {ws:List aN} {x:Nt} (h:x∈cB ws ws.length):∃i j,i<j/\j<ws.length/\x=bQ ws i j/\Bare ws j i /\ ¬hnd ws i=hnd ws j:=by
 unfold cB at h;obtain ⟨j,hj,hx⟩:=List.mem_flatMap.mp h;unfold aV at hx;obtain ⟨e,he,rfl⟩:=List.mem_map.mp hx;obtain ⟨h1,h2⟩:=List.mem_filter.mp he;have b:=b_.mp h1;exact ⟨e,j,(bD b.1).1,List.mem_range.mp hj,rfl,b,of_decide_eq_true h2⟩
theorem oN {ws:List aN} {i:Nat} (h:i<ws.length):cnt (ws.take i) (hnd ws i)<cnt ws (hnd ws i):=by
 obtain ⟨x,ex⟩:∃x,ws[i]? = some x:=⟨ws[i],by simp [h]⟩;have hx:=bM ex;have tk:ws.take (i+1)=ws.take i++[x]:=by rw [List.take_add_one,ex];rfl
 have m:=jA ws (hnd ws i) (i+1) (ws.length - (i+1));rw [show i+1+(ws.length - (i+1))=ws.length by omega,List.take_length,tk,eE,if_pos hx] at m;omega
theorem wG {ws:List aN} {i:Nat} (h:i<ws.length):0<=cnt (ws.take i) (hnd ws i)/\cnt (ws.take i) (hnd ws i)<cnt ws (hnd ws i):=⟨fZ _ _,oN h⟩
def inB (p:List aN) (x:Nt):Bool:=decide (x.2.2.2<cnt p x.2.2.1)
def iQ (p:List aN) (x:Nt):Bool:=decide (x.2.1≥cnt p x.1)&&decide (x.2.2.2≥cnt p x.2.2.1)
def xZ (p:List aN) (x:Nt):Nt:=(x.1,x.2.1 - cnt p x.1,x.2.2.1,x.2.2.2 - cnt p x.2.2.1)
section
variable {p q:List aN}
theorem qR {x:Nt} (h:x∈jT p q q.length):x.2.1<cnt p x.1/\cnt p x.2.2.1<=x.2.2.2:=by
 unfold jT at h;obtain ⟨j,hj,hx⟩:=List.mem_flatMap.mp h;have hj:=List.mem_range.mp hj;unfold aV at hx;obtain ⟨e,he,rfl⟩:=List.mem_map.mp hx;have he:=(List.mem_filter.mp he).1;unfold Ho at he;obtain ⟨t,ht,te⟩:=List.mem_map.mp (List.mem_filter.mp he).1;have ht:=List.mem_range.mp ht;have el:e<p.length:=by omega
 refine ⟨?_, ?_⟩
 ·show cnt ((p++q).take e) (hnd (p++q) e)<cnt p (hnd (p++q) e)
  have e1:hnd (p++q) e=hnd p e:=by
   unfold hnd;rw [List.getElem?_append_left el]
  rw [List.take_append_of_le_length (by omega),e1];exact oN el
 ·show cnt p (hnd (p++q) (p.length+j))<=cnt ((p++q).take (p.length+j)) (hnd (p++q) (p.length+j))
  rw [pR,u5];have:=fZ (q.take j) (hnd (p++q) (p.length+j));omega
theorem Kw {ns:List Nt} (pm:ns.Perm (cB (p++q) (p++q).length)):(ns.filter (inB p)).Perm (cB p p.length)/\((ns.filter (iQ p)).map (xZ p)).Perm (cB q q.length):=by
 have pm:ns.Perm (cB p p.length++((cB q q.length).map (JK p)++jT p q q.length)):=by
  rw [List.length_append] at pm;exact pm.trans (yC p q q.length)
 have P:∀x∈cB p p.length,x.2.1<cnt p x.1/\x.2.2.2<cnt p x.2.2.1:=fun x hx=>by
  obtain ⟨i,j,ij,jl,rfl,_⟩:=nO hx;exact ⟨(wG (ws:=p) (by omega)).2,(wG jl).2⟩
 have N:∀x∈cB q q.length,0<=x.2.1/\0<=x.2.2.2:=fun x hx=>by
  obtain ⟨i,j,ij,jl,rfl,_⟩:=nO hx;exact ⟨fZ _ _,fZ _ _⟩
 have S:∀x∈(cB q q.length).map (JK p),¬x.2.1<cnt p x.1 /\ ¬x.2.2.2<cnt p x.2.2.1:=fun x hx=>by
  obtain ⟨y,hy,rfl⟩:=List.mem_map.mp hx;have:=N y hy;show ¬y.2.1+cnt p y.1<cnt p y.1 /\ ¬y.2.2.2+cnt p y.2.2.1<cnt p y.2.2.1;omega
 refine ⟨?_, ?_⟩
 ·refine (pm.filter _).trans (List.Perm.of_eq ?_)
  have o1:(cB p p.length).filter (inB p)=cB p p.length:=List.filter_eq_self.mpr fun x hx=>decide_eq_true (P x hx).2;have o2:((cB q q.length).map (JK p)).filter (inB p)=[]:=List.filter_eq_nil_iff.mpr fun x hx z=>(S x hx).2 (of_decide_eq_true z)
  have o3:(jT p q q.length).filter (inB p)=[]:=List.filter_eq_nil_iff.mpr fun x hx z=>by
   have:=(qR hx).2;have:=of_decide_eq_true z;omega
  rw [List.filter_append,List.filter_append,o1,o2,o3,List.append_nil,List.append_nil]
 ·refine ((pm.filter _).map _).trans (List.Perm.of_eq ?_)
  have o1:(cB p p.length).filter (iQ p)=[]:=List.filter_eq_nil_iff.mpr fun x hx z=>by
   unfold iQ at z;rw [decide_eq_false (by have:=(P x hx).1;omega)] at z;cases z
  have o2:((cB q q.length).map (JK p)).filter (iQ p)=(cB q q.length).map (JK p):=List.filter_eq_self.mpr fun x hx=>by
   unfold iQ;rw [decide_eq_true (by have:=(S x hx).1;omega),decide_eq_true (by have:=(S x hx).2;omega)];rfl
  have o3:(jT p q q.length).filter (iQ p)=[]:=List.filter_eq_nil_iff.mpr fun x hx z=>by
   unfold iQ at z;rw [decide_eq_false (by have:=(qR hx).1;omega)] at z;cases z
  rw [List.filter_append,List.filter_append,o1,o2,o3,List.nil_append,List.append_nil,List.map_map]
  have:∀x∈cB q q.length,(xZ p∘JK p) x=x:=fun x hx=>by
   obtain ⟨u,v,u',v'⟩:=x;show (u,v+cnt p u - cnt p u,u',v'+cnt p u' - cnt p u')=(u,v,u',v');rw [Int.add_sub_cancel,Int.add_sub_cancel]
  rw [List.map_congr_left this,List.map_id']
end
theorem Mh {p:List aN} {x y:Nt} (h:Tim.d_ (nK y) (nK x)=false):Tim.d_ (nK (xZ p y)) (nK (xZ p x))=false:=by
 obtain ⟨a,b,c,d⟩:=x;obtain ⟨a',b',c',d'⟩:=y;simp only [nK,xZ,Tim.d_] at h ⊢
 by_cases e1:a'=a
 ·subst e1
  simp only [if_true] at h ⊢
  by_cases e2:b'=b
  ·subst e2
   simp only [if_true] at h ⊢
   by_cases e3:c'=c
   ·subst e3
    simp only [if_true] at h ⊢
    by_cases e4:d'=d
    ·subst e4
     simp
    ·rw [if_neg e4] at h
     rw [if_neg (by omega)];have:=of_decide_eq_false h;exact decide_eq_false (by omega)
   ·rw [if_neg e3] at h ⊢
    exact h
  ·rw [if_neg e2] at h
   rw [if_neg (by omega)];have:=of_decide_eq_false h;exact decide_eq_false (by omega)
 ·rw [if_neg e1] at h ⊢
  exact h
theorem KZ {p:List aN} {ns:List Nt} (h:o9 ns):o9 (ns.map (xZ p)):=by
 unfold o9 at h ⊢;rw [List.pairwise_map];exact h.imp fun q=>Mh q
theorem Ft {ws:List aN} {j a b:Nat} (hj:j<ws.length) (ha:Bare ws j a) (hb:Bare ws j b) (e:hnd ws a=hnd ws b):a=b:=by
 have one:∀{a b:Nat},Bare ws j a->Bare ws j b->hnd ws a=hnd ws b -> ¬a<b:=fun {a b} ha hb e lt=>by
  have bl:=bD hb.1;exact ha.2 ⟨b,by omega,hb.1,.inr (.one (lY lt (by omega) e))⟩
 rcases Nat.lt_trichotomy a b with q|q|q
 ·exact absurd q (one ha hb e)
 ·exact q
 ·exact absurd q (one hb ha e.symm)
theorem wF {ws:List aN} {j:Nat} (ok:∀x∈ws,0<=x.1/\x.1<8) (hj:j<ws.length):(aV ws j (bC ws j j)).length<=8:=by
 unfold aV;rw [List.length_map]
 have nd:(((bC ws j j).filter fun e=>decide (¬hnd ws e=hnd ws j)).map (hnd ws)).Nodup:=by
  rw [List.nodup_iff_pairwise_ne,List.pairwise_map];refine List.Pairwise.imp_of_mem (fun {a b} ha hb ne e=> ?_) ((iV ws j).filter _);exact ne (Ft hj (b_.mp (List.mem_filter.mp ha).1) (b_.mp (List.mem_filter.mp hb).1) e)
 have:=sub_len (m:=[0,1,2,3,4,5,6,7]) nd fun x hx=>by
  obtain ⟨e,he,rfl⟩:=List.mem_map.mp hx;have b:=b_.mp (List.mem_filter.mp he).1;have el:=bD b.1;have ee:ws[e]? = some (ws[e]'(by omega)):=by simp [show e<ws.length by omega]
  rw [bM ee];have q:=ok _ (List.mem_of_getElem? ee);simp only [List.mem_cons,List.not_mem_nil,or_false];omega
 rw [List.length_map] at this;exact this
theorem yx {ws:List aN} (ok:∀x∈ws,0<=x.1/\x.1<8):∀n,n<=ws.length->(cB ws n).length<=8*n
 | 0,_=>Nat.le_refl _
 | n+1,h=>by
   have ih:=yx ok n (by omega);have:=wF ok (show n<ws.length by omega);unfold cB at ih ⊢;rw [List.range_succ,List.flatMap_append,List.length_append];simp only [List.flatMap_cons,List.flatMap_nil,List.append_nil];omega
theorem qy {ws:List aN} {i j a b:Nat} (hi:i<ws.length) (hj:j<ws.length) (ha:a<ws.length) (hb:b<ws.length) (e:bQ ws i j=bQ ws a b):i=a/\j=b:=by
 have q1:=iW hi;have q2:=iW ha;have q3:=iW hj;have q4:=iW hb;have e1:hnd ws i=hnd ws a:=congrArg (·.1) e;have e2:cnt (ws.take i) (hnd ws i)=cnt (ws.take a) (hnd ws a):=congrArg (·.2.1) e;have e3:hnd ws j=hnd ws b:=congrArg (·.2.2.1) e;have e4:cnt (ws.take j) (hnd ws j)=cnt (ws.take b) (hnd ws b):=congrArg (·.2.2.2) e;rw [e1,←e1] at q1;refine ⟨fH (x:=(hnd ws a,cnt (ws.take a) (hnd ws a))) (by rw [←e2,←e1];exact q1) q2,fH (x:=(hnd ws b,cnt (ws.take b) (hnd ws b))) (by rw [←e4,←e3];exact q3) q4⟩
theorem rC {ws:List aN}:∀n,n<=ws.length->(cB ws n).Nodup
 | 0,_=>List.nodup_nil
 | n+1,h=>by
   have ih:=rC (ws:=ws) n (by omega);unfold cB at ih ⊢;rw [List.range_succ,List.flatMap_append];simp only [List.flatMap_cons,List.flatMap_nil,List.append_nil];refine List.nodup_append.mpr ⟨ih, ?_,fun x hx y hy e=> ?_⟩
   ·unfold aV
    rw [List.nodup_iff_pairwise_ne,List.pairwise_map];refine List.Pairwise.imp_of_mem (fun {a b} ha hb ne e=> ?_) ((iV ws n).filter _);have al:=bD (b_.mp (List.mem_filter.mp ha).1).1;have bl:=bD (b_.mp (List.mem_filter.mp hb).1).1;exact ne (qy (by omega) (by omega) (by omega) (by omega) e).1
   ·subst e
    obtain ⟨j,hj,hx⟩:=List.mem_flatMap.mp hx;have hj:=List.mem_range.mp hj;unfold aV at hx hy;obtain ⟨a,ha,rfl⟩:=List.mem_map.mp hx;obtain ⟨b,hb,e⟩:=List.mem_map.mp hy;have al:=bD (b_.mp (List.mem_filter.mp ha).1).1;have bl:=bD (b_.mp (List.mem_filter.mp hb).1).1;have:=(qy (by omega) (by omega) (by omega) (by omega) e).2;omega
theorem Qw (M:List Nt) (p:Nt->Bool):(List.range M.length).filterMap (fun i=>(M[i]?).bind fun o=>if p o=true then some (nD o) else none)=(M.filter p).map nD:=by
 induction M with
 | nil=>rfl
 | cons x l ih=>
   rw [List.length_cons,List.range_succ_eq_map,List.filterMap_cons,List.filterMap_map,List.filter_cons];have e:List.filterMap ((fun i=>((x::l)[i]?).bind fun o=>if p o=true then some (nD o) else none)∘Nat.succ) (List.range l.length)=(l.filter p).map nD:=by rw [←ih];rfl
   rw [e];cases h:p x with
   | true=>simp [h]
   | false=>simp [h]
theorem KY (M:List Nt) (p:Nt->Bool) (i:Nat) (d:PyData) (h:(M[i]?).bind (fun o=>if p o=true then some (nD o) else none)=some d):FN d=true:=by
 cases e:M[i]? with
 | none=>rw [e] at h;cases h
 | some z=>
   rw [e] at h;simp only [Option.bind_some] at h;split at h
   ·cases h;rfl
   ·cases h
theorem Jh {ws:List aN} {n:Nat} (h:n<ws.length) (a:Int):cnt (ws.take (n+1)) a=cnt (ws.take n) a+if hnd ws n=a then 1 else 0:=by
 have ex:ws[n]? = some ws[n]:=by simp [h]
 rw [List.take_add_one,ex];show cnt (ws.take n++[ws[n]]) a=_;rw [eE,bM ex]
 by_cases e:ws[n].1=a
 ·rw [if_pos e.symm,if_pos e]
 ·rw [if_neg (Ne.symm e),if_neg e,Int.add_zero]
def Vj (p:List aN):List V:=(List.range 8).filterMap fun i=>some (V.int (cnt p ((i:Nat):Int)))
theorem wL {p:List aN} {h:Int} (h0:0<=h) (h8:h<8):C_ (Vj p) h=some (V.int (cnt p h)):=by
 obtain ⟨n,rfl⟩:∃n:Nat,h=(n:Int):=⟨h.toNat,by omega⟩;refine cO ?_;unfold Vj;rw [List.filterMap_eq_map',List.getElem?_map,List.getElem?_range (by omega)];rfl
theorem Hi {ns:List Nt} {i:Nat} {x:Nt} (p:List aN) (e:ns[i]? = some x):((ns.take (i+1)).filter (iQ p)).map (xZ p)=((ns.take i).filter (iQ p)).map (xZ p)++(if iQ p x=true then [xZ p x] else []):=by
 rw [List.take_add_one,e,List.filter_append,List.map_append];congr 1;show ((([x]:List Nt)).filter (iQ p)).map (xZ p)=_;rw [List.filter_cons];cases iQ p x<;>rfl
def uq (K:PySem.W.Frag):Sp:=fun vs H Q _=>∃(a s:Addr) (ws:List aN) (c:Nat) (ns:List Nt),vs=[.ref a,.ref s,.int (c:Int)]/\cA H a ws/\ws.length<=300/\c<=ws.length/\cM H s ns/\ns.length<=90000/\(∀x∈ns,(0<=x.1/\x.1<8)/\0<=x.2.2.1/\x.2.2.1<8) /\
 ∀(r e l:Addr) (H':Hp),H' r=some (.lst [.ref e,.ref l])->cM H' e (ns.filter (inB (ws.take c)))->cM H' l ((ns.filter (iQ (ws.take c))).map (xZ (ws.take c)))->Same H H'->Q (.ref r) H'
theorem Hs {f:Addr} {fd:FuncData} (F:lW K "_law_parts" "_law_parts" fu f fd) (Bt:vD mg):dR P w K mg base lC 1 f fd ["web","told","cut"] (uq K):=by
 refine F.ok eU (fun vs H Q E h=> ?_) (fun cdv A outer s H vs Q E hr h=> ?_)
 ·obtain ⟨a,s,ws,c,ns,rfl,_⟩:=h
  rfl
 ·obtain ⟨a,sa,ws,c,ns,rfl,W,wl,cl,N,nl,hh,k⟩:=h
  refine ⟨_,(au (aW (i:=3) eU.nd rfl (Or.inr rfl) (wB rfl (xc:= "hand") (N:=["hand","web","cut"]) (own:=["hand"]) (caps:=[0,2]) (bh.of (by kernel_rfl)) (eV (by rfl) Bt.gD (aj aA ao)) (fun _ _ _ _=>(aO (i:=0) (show List.Nodup (["hand","web","cut"]:List Str) by decide +kernel) rfl (Or.inr rfl) (Or.inl qO))) (fun _ _ _ _=>iT) (fun _ _ _ _=>(aU (aZ (K:=K) rfl) (by rfl) Bt.jB gj (aj (jN rfl (N:=["there","hand"]) (own:=["there"]) (caps:=[0]) (aR.of (by kernel_rfl)) (cP (K:=K) rfl (d9 (mj (K:=K) rfl) (pv 1) gA (gq (pv 2)))) (fun _ _ _ _=>(aO (i:=0) (show List.Nodup (["there","hand"]:List Str) by decide +kernel) rfl (Or.inl rfl))) (fun _ _ _ _=>(kO (bU lH (aM (aQ (K:=K) rfl) (pv 0) aA (fun _ _=>rfl)) (pv 1) (bG _)))) (fun _ _ _ _=>aA)) ao)))))
   (au (mF (i:=4) rfl eU.nd rfl (Or.inl rfl) (N:=["note","many"]) (own:=["note"]) (caps:=[3]) (aR.of (by kernel_rfl)) (cP (K:=K) rfl (pv 1)) (fun _ _ _ _=>(aO (i:=0) (show List.Nodup (["note","many"]:List Str) by decide +kernel) rfl (Or.inl rfl))) (fun _ _ _ _=>(kO (bU Hj (aM (aQ (K:=K) rfl) (pv 0) aA (fun _ _=>rfl)) (aM (aK (K:=K) rfl) (pv 1) (aM (aQ (K:=K) rfl) (pv 0) aA (fun _ _=>rfl)) (fun _ _=>rfl)) (bG _)))) (fun _ _ _ _=>(pv 0)))
   (au (aW (i:=5) eU.nd rfl (Or.inl rfl) (eN ao))
   (au (dN PassesOwn.never rfl (cP (K:=K) rfl (pv 1)) (mH (K:=K) (n:=4) rfl rfl (cJ (aO (i:=6) eU.nd rfl (Or.inl rfl)) (cJ (aO (i:=7) eU.nd rfl (Or.inl rfl)) (cJ (aO (i:=8) eU.nd rfl (Or.inl rfl)) (cJ (aO (i:=9) eU.nd rfl (Or.inl rfl)) kW)))))
   (aF (fD (PW.pt (zA (bU BJ (pv 7) (aM (aK (K:=K) rfl) (pv 3) (pv 6) (fun _ _=>rfl)) (bG _)) (uF (bU BJ (pv 9) (aM (aK (K:=K) rfl) (pv 3) (pv 8) (fun _ _=>rfl)) (bG _))))) (aF (cY (cZ (K:=K) rfl (pv 5) (aj (lN (aj (pv 6) (aj (bF qx (pv 7) (aM (aK (K:=K) rfl) (pv 3) (pv 6) (fun _ _=>rfl))) (aj (pv 8) (aj (bF qx (pv 9) (aM (aK (K:=K) rfl) (pv 3) (pv 8) (fun _ _=>rfl))) ao))))) ao)))) bY)))
   (aF (bA (eN (aj (pv 4) (aj (pv 5) ao))))))))), ?_⟩
  refine ⟨_,rfl,by decide,by decide,fun D hD=> ?_⟩;refine lq (n:=8) (fun i=>some (.int (cnt (ws.take c) (i:Int)))) hD (by decide) (fun i H2 G F hi s2 kG kF=> ?_) (fun H2 s2 e2=> ?_)
  ·refine fY (B:=G H2) ?_
   obtain ⟨wv,hw,dw⟩:=id (W.same s2);have wvl:wv.length=ws.length:=by rw [dw.length,List.length_map]
   refine ⟨_,rfl,_,rfl,_,rfl,_,_,rfl,bf.of hw,fun p hp=> ?_⟩;rw [qP];have s3:=aD (o:=HO.lst (wv.take c)) hp;have tl:(wv.take c).length=c:=by rw [List.length_take];omega
   refine ⟨p,rfl,⟨_,bf.of ak⟩,fun D2 hD2=> ?_⟩;refine xR (K:=K) (fun j=>if hnd ws j=(i:Int) then some (V.int 1) else none) hD2 (bf.of ak) (by omega) (fun j v H4 G2 F2 hj s4 S_ Tc=> ?_) (fun H4 s4 e4=> ?_)
   ·have jl:j<c:=by have:=(List.getElem?_eq_some_iff.mp hj).1;omega
    rw [List.getElem?_take_of_lt jl] at hj;obtain ⟨z,ez⟩:∃z,ws[j]? = some z:=⟨ws[j]'(by omega),by simp [show j<ws.length by omega]⟩;obtain ⟨wv',t',hw',et',ht'⟩:=iR (W.same s2) ez;have:wv'=wv:=by rw [hw] at hw';injection hw' with q;injection q with q;exact q.symm
    subst this;rw [hj] at et';cases et';rw [bM ez] at S_ Tc;refine ⟨_,rfl,_,_,_,_,rfl,rfl,dG.of ((s3.trans s4) _ _ ht'),rfl,_,rfl,rfl,_,rfl, ?_⟩
    by_cases e:z.1=(i:Int)
    ·rw [if_pos e] at Tc
     rw [decide_eq_true (show V.int z.1=V.int (0+(i:Int)) by rw [e,Int.zero_add])];refine fY ?_;exact Tc _ _ (Same.refl _) rfl
    ·rw [if_neg e] at S_
     rw [decide_eq_false (show ¬V.int z.1=V.int (0+(i:Int)) from fun q=>e (by injection q with q;omega))];refine gG ?_;exact S_ _ (Same.refl _) rfl
   ·have cl:(((List.range (wv.take c).length).filterMap fun j=>if hnd ws j=(i:Int) then some (V.int 1) else none).length:Int)=cnt (ws.take c) (i:Int):=by
     rw [tl]
     have:∀n,n<=ws.length->(((List.range n).filterMap fun j=>if hnd ws j=(i:Int) then some (V.int 1) else none).length:Int)=cnt (ws.take n) (i:Int):=by
      intro n
      induction n with
      | zero=>intro _;rfl
      | succ n ih=>
        intro hn;rw [dF,List.length_append,Int.natCast_add,ih (by omega),Jh (by omega)]
        by_cases e:hnd ws n=(i:Int)
        ·rw [if_pos e,if_pos e]
         rfl
        ·rw [if_neg e,if_neg e]
         simp
     exact this c cl
    refine ⟨D2,_,rfl,.inl (bf.of e4), ?_⟩;rw [cl];exact kF _ _ (s3.trans s4) rfl
  have e2:H2 D=some (.lst (Vj (ws.take c))):=e2;obtain ⟨us,hus,ZK⟩:=id (N.same s2);have V8:us.length=ns.length:=by rw [ZK.length,List.length_map]
  refine ⟨_,rfl,sa,rfl,⟨_,bf.of hus⟩,fun D2 hD2=> ?_⟩;refine lu (K:=K) (xs:=us) (fun i=>(ns[i]?).bind fun o=>if inB (ws.take c) o=true then some (nD o) else none) (KY ns (inB (ws.take c))) hD2 (bf.of hus) (by omega) (fun i v H3 G F hi s3 kG kF=> ?_) (fun H3 ev s3 e3 d3=> ?_)
  ·obtain ⟨x,t,ex,rfl,ht⟩:=mJ ZK hi
   rw [ex] at kG kF;simp only [Option.bind_some] at kG kF;obtain ⟨_,h0,h8⟩:=hh x (List.mem_of_getElem? ex);refine ⟨_,rfl,_,_,_,_,rfl,rfl,dG.of (s3 _ _ ht),rfl,_,rfl,_,rfl,_,_,_,_,rfl,rfl,dG.of (s3 _ _ ht),rfl,_,_,_,_,rfl,rfl,bf.of (s3 _ _ e2),wL h0 h8,_,_,rfl,rfl,_,rfl, ?_⟩;show if decide (x.2.2.2<cnt (ws.take c) x.2.2.1)=true then _ else _;cases q:inB (ws.take c) x with
   | true=>
     rw [q] at kF;have q:decide (x.2.2.2<cnt (ws.take c) x.2.2.1)=true:=q;rw [q];refine fY ?_;exact ⟨_,rfl,kF _ _ _ (Same.refl _) rfl (qN (s3 _ _ ht))⟩
   | false=>
     rw [q] at kG;have q:decide (x.2.2.2<cnt (ws.take c) x.2.2.1)=false:=q;rw [q];refine gG ?_;exact kG _ (Same.refl _) rfl
  rw [V8,Qw] at d3;have E3:cM H3 D2 (ns.filter (inB (ws.take c))):=⟨ev,e3,d3⟩;have s03:=s2.trans s3;refine ⟨(by show 0<=sizeLine;decide),fun la hla=> ?_⟩;have s4:=aD (o:=HO.lst []) hla;have Zw:H la=none:=s03.free hla;have nl1:D2≠la:=aB e3 hla;have nl2:D≠la:=aB (s3 _ _ e2) hla;have Tn:=s4 _ _ (s3 _ _ hus);have nl3:sa≠la:=aB (s3 _ _ hus) hla;refine ⟨_,rfl,sa,rfl,⟨_,bf.of Tn⟩, ?_⟩
  refine jw (K:=K) (a:=sa) (xs:=us) (fun i σ H5=>∃(x1 x2 x3 x4:Option V),σ=[some (.ref a),some (.ref sa),some (.int (c:Int)),some (.ref D),some (.ref D2),some (.ref la),x1,x2,x3,x4]/\Kp la (upd H3 la (HO.lst [])) H5/\Same H H5/\cM H5 la (((ns.take i).filter (iQ (ws.take c))).map (xZ (ws.take c))))
   ⟨none,none,none,none,rfl,Kp.refl _ _,s03.trans s4,⟨[],ak,by simp [aC]⟩⟩ (fun i σ H5 _ ⟨_,_,_,_,_,kp,_⟩=>bf.of (kp _ _ Tn nl3)) ?_ ?_
  ·rintro i v σ H5 hi ⟨x1,x2,x3,x4,rfl,kp,sm,N5⟩
   obtain ⟨x,t,ex,rfl,ht⟩:=mJ ZK hi;obtain ⟨⟨g0,g8⟩,h0,h8⟩:=hh x (List.mem_of_getElem? ex);have Rh:=s4 _ _ (s3 _ _ ht);have ht5:=kp.tups ak _ _ Rh;have e5:H5 D=some (.lst (Vj (ws.take c))):=kp _ _ (s4 _ _ (s3 _ _ e2)) nl2;refine ⟨t,_,rfl,dG.of ht5,rfl,_,_,rfl,_,_,rfl,_,_,rfl,_,_,rfl,rfl, ?_⟩;rw [Hi (ws.take c) ex];refine ⟨_,rfl,_,rfl,_,rfl,_,_,_,_,rfl,rfl,bf.of e5,wL g0 g8,_,_,rfl,rfl,_,rfl, ?_⟩
   by_cases q1:x.2.1≥cnt (ws.take c) x.1
   rotate_left
   ·rw [decide_eq_false q1]
    refine gG ?_;rw [if_neg (show ¬iQ (ws.take c) x=true by unfold iQ;rw [decide_eq_false q1];simp),List.append_nil];exact ⟨_,_,_,_,rfl,kp,sm,N5⟩
   rw [decide_eq_true q1];refine fY ?_;refine ⟨_,rfl,_,rfl,_,rfl,_,_,_,_,rfl,rfl,bf.of e5,wL h0 h8,_,_,rfl,rfl,_,rfl, ?_⟩
   by_cases q2:x.2.2.2≥cnt (ws.take c) x.2.2.1
   rotate_left
   ·rw [decide_eq_false q2]
    refine gG ?_;rw [if_neg (show ¬iQ (ws.take c) x=true by unfold iQ;rw [decide_eq_false q2,Bool.and_false];simp),List.append_nil];exact ⟨_,_,_,_,rfl,kp,sm,N5⟩
   rw [decide_eq_true q2];refine fY ?_;rw [if_pos (show iQ (ws.take c) x=true by unfold iQ;rw [decide_eq_true q1,decide_eq_true q2];rfl)];obtain ⟨lv,hlv,dlv⟩:=id N5
   have lvl:lv.length<=ns.length:=by
    rw [dlv.length,List.length_map,List.length_map];exact Nat.le_trans (List.length_filter_le _ _) (by rw [List.length_take];omega)
   refine ⟨_,rfl,.inl ⟨rfl,_,bf.of hlv⟩, ?_⟩;refine ⟨_,rfl,_,rfl,_,rfl,_,rfl,_,_,_,_,rfl,rfl,bf.of e5,wL g0 g8,_,_,rfl,rfl,_,rfl,_,rfl,_,rfl,_,rfl,_,_,_,_,rfl,rfl,bf.of e5,wL h0 h8,_,_,rfl,rfl,(by show 4<=sizeLine;decide),fun q hq=> ?_⟩;have s6:=aD (o:=HO.tup (nV (xZ (ws.take c) x))) hq;have Tr:=s6 _ _ hlv;refine ⟨la,lv,_,rfl,rfl,Tr,by rw [sizeLine_eq];omega, ?_⟩;have k7:Kp la _ (upd (upd H5 q (HO.tup (nV (xZ (ws.take c) x)))) la (.lst (lv++[.ref q]))):=Kp.set;have t7:=k7.tups Tr;refine ⟨_,_,_,_,rfl,fun b u e n=>k7 _ _ (s6 _ _ (kp b u e n)) n,fun b u e=>k7 _ _ (s6 _ _ (sm b u e)) (aB e Zw),lv++[.ref q],ak, ?_⟩;rw [List.map_append];exact aC.append (aC.keep (fun a xs h=>t7 _ _ (s6 _ _ h)) _ (aX _ jQ _) dlv) (T8 (qN (x:=xZ (ws.take c) x) (t7 _ _ ak)))
  ·rintro σ H5 ⟨x1,x2,x3,x4,rfl,kp,sm,N5⟩
   rw [V8,List.take_length] at N5;refine ⟨_,rfl,_,rfl,(by show 2<=sizeLine;decide),fun r hr'=> ?_⟩;have s6:=aD (o:=HO.lst [V.ref D2,V.ref la]) hr';have E5:cM H5 D2 (ns.filter (inB (ws.take c))):=(E3.same s4).kp (kp.tups ak) kp nl1;exact k r D2 la _ ak (E5.same s6) (N5.same s6) (sm.trans s6)
theorem Hz {H:Hp}:∀{vs:List V} {ns:List Nt},aC H vs (ns.map nD) -> ∃as:List EK,vs=as.map (fun x=>V.ref x.2)/\as.map (·.1)=ns.map nK /\ ∀x∈as,H x.2=some (.tup (x.1.map V.int))
 | [],[],_=>⟨[],rfl,rfl,fun x hx=>(by cases hx)⟩
 | [],_::_,h=>by simp only [List.map_cons,aC] at h
 | _::_,[],h=>by simp only [List.map_nil,aC] at h
 | v::vs,n::ns,h=>by
   simp only [List.map_cons,aC] at h;obtain ⟨t,rfl,ht⟩:=jR h.1;obtain ⟨as,e1,e2,e3⟩:=Hz h.2;refine ⟨(nK n,t)::as,by rw [e1];rfl,by rw [List.map_cons,List.map_cons,e2],fun x hx=> ?_⟩;rcases List.mem_cons.mp hx with rfl|hx
   ·exact ht
   ·exact e3 x hx
theorem Cv {H:Hp}:∀{zs:List EK},(∀z∈zs,∃x,z.1=nK x/\H z.2=some (.tup (nV x)))->aC H (zs.map fun x=>V.ref x.2) ((zs.map fun z=>toN z.1).map nD)
 | [],_=>by simp [aC]
 | z::zs,h=>by
   obtain ⟨x,e,hx⟩:=h z (.head _);simp only [List.map_cons,aC];exact ⟨by rw [e,m9];exact qN hx,Cv fun y hy=>h y (.tail _ hy)⟩
theorem Eh {α β:Type} {f:α->β} (hf:∀{x y},f x=f y->x=y) {l:List α} (h:l.Nodup):(l.map f).Nodup:=by
 rw [List.nodup_iff_pairwise_ne,List.pairwise_map];exact List.Pairwise.imp (fun ne e=>ne (hf e)) h
theorem zj {as xs zs:List EK} {ns:List Nt} (ek:as.map (·.1)=ns.map nK) (nd:ns.Nodup) (fl:gR xs as) (zp:zs.Perm xs) (zs':zs.Pairwise (fun x y=>Tim.d_ y.1 x.1=false)) (hs:o9 ns):(zs.map fun z=>toN z.1)=ns /\ ∀z∈zs,z∈as /\ ∃x,z.1=nK x:=by
 have pa:zs.Perm as:=zp.trans (fl.2.2.1 (by rw [ek];exact Eh HN nd))
 have mem:∀z∈zs,z∈as /\ ∃x,z.1=nK x:=fun z hz=>by
  have hz:=pa.mem_iff.mp hz;have:z.1∈ns.map nK:=by rw [←ek];exact List.mem_map.mpr ⟨z,hz,rfl⟩
  obtain ⟨x,_,e⟩:=List.mem_map.mp this;exact ⟨hz,x,e.symm⟩
 refine ⟨jr ?_ ?_ hs,mem⟩
 ·have e:as.map (fun z=>toN z.1)=ns:=by
   have:=congrArg (List.map toN) ek;rw [List.map_map,List.map_map] at this;exact this.trans ((List.map_congr_left fun x _=>m9 x).trans (List.map_id' ns))
  have:=pa.map fun z=>toN z.1;rw [e] at this;exact this
 ·unfold o9
  rw [List.pairwise_map];refine List.Pairwise.imp_of_mem (fun {x y} hx hy h=> ?_) zs';obtain ⟨_,u,eu⟩:=mem x hx;obtain ⟨_,v,ev⟩:=mem y hy;rw [eu,ev] at h;rw [eu,ev,m9,m9];exact h
theorem zH {os:List Nat} {n:Nat} (nd:os.Nodup) (lt:∀x∈os,x<n) (len:os.length=n):os.Perm (List.range n):=by
 refine (List.perm_ext_iff_of_nodup nd List.nodup_range).mpr fun a=>⟨fun h=>List.mem_range.mpr (lt a h),fun h=> ?_⟩;refine Classical.byContradiction fun no=> ?_;have:=sub_len (m:=(List.range n).erase a) nd fun x hx=>(List.mem_erase_of_ne (fun (e:x=a)=>no (by rw [←e];exact hx))).mpr (List.mem_range.mpr (lt x hx));rw [List.length_erase_of_mem h,List.length_range] at this;have:=List.mem_range.mp h;omega
theorem R6 {ws:List aN} {os:List Nat} (nd:os.Nodup) (lt:∀x∈os,x<ws.length) (len:os.length=ws.length) (kp:Ar ws os):Ord ws os:=by
 refine Pn (zH nd lt len) fun i j a b ei ej st=> ?_;rcases Nat.lt_trichotomy i j with q|q|q
 ·exact q
 ·subst q
  rw [ei] at ej;cases ej;have:=(bD st).1;omega
 ·rw [kp j i b a q ej ei] at st
  cases st
theorem Qu (ws:List aN) (os:List Nat):(List.range (nI os).length).filterMap (fun i=>(os[i]?).map fun a=>tD ((ws[a]?).getD (0,"",0)))=(iD ws os).map tD:=by
 rw [iG];unfold iD
 induction os with
 | nil=>rfl
 | cons x l ih=>
   rw [List.length_cons,List.range_succ_eq_map,List.filterMap_cons,List.filterMap_map];have e:List.filterMap ((fun i=>((x::l)[i]?).map fun a=>tD ((ws[a]?).getD (0,"",0)))∘Nat.succ) (List.range l.length)=(l.map fun i=>(ws[i]?).getD ((0,"",0):aN)).map tD:=by rw [←ih];rfl
   rw [e];rfl
structure N6 (r w to:Addr) (ws:List aN) (vB:List Nt) (H:Hp):Prop where
 sp:aY H r
 web:cA H w ws
 told:cM H to vB
 ne:w≠r/\to≠r
section
variable {r w to:Addr} {ws:List aN} {vB:List Nt} {H H':Hp}
theorem cM.Wh {a:Addr} {ns:List Nt} (h:cM H a ns) (S:aY H r) (k:Kp r H H') (n:a≠r):cM H' a ns:=by
 obtain ⟨f1,f2,f3,e1,_⟩:=S;exact h.kp (k.tups e1) k n
theorem N6.same (h:N6 r w to ws vB H) (s:Same H H'):N6 r w to ws vB H':=⟨h.sp.keep s,h.web.same s,h.told.same s,h.ne⟩
theorem N6.J5 (h:N6 r w to ws vB H) (k:Kp r H H') (S:aY H' r):N6 r w to ws vB H':=⟨S,h.web.J5 h.sp k h.ne.1,h.told.Wh h.sp k h.ne.2,h.ne⟩
end
def Bd (K:PySem.W.Frag):Sp:=fun vs H Q _=>∃(a:Addr) (ns:List Int),vs=[.ref a]/\bf K H a (ns.map V.int)/\ns.length<=63 /\ ∀H',Q (.bl true) H'
theorem Py {f:Addr} {fd:FuncData} (F:lW K "law" "law" mz f fd) (Fz:FnAt P w K mg base 1 "_law_spring" ["script"] (pW K)) (dH:FnAt P w K mg base 1 "_law_draw" ["spring","many"] (j9 K)) (Q8:FnAt P w K mg base 2 "_law_web" ["spring","most"] (Gq K)) (pI:FnAt P w K mg base 4 "notes" ["web"] (ur K)) (Jz:FnAt P w K mg base 5 "enough" ["web","some"] (Oq K)) (pK:FnAt P w K mg base 2 "_law_rows" ["found","due"] (uo K)) (rR:FnAt P w K mg base 3 "_law_free_order" ["spring","web"] (ux K)) (JC:FnAt P w K mg base 1 "_law_parts" ["web","told","cut"] (uq K)) (Bt:vD mg):dR P w K mg base lC 6 f fd ["script"] (Bd K):=by
 refine F.ok jd (fun vs H Q E h=> ?_) (fun cdv A outer s H vs Q E hr h=> ?_)
 ·obtain ⟨a,ns,rfl,_⟩:=h
  rfl
 ·obtain ⟨a,ns,rfl,hS,hlen,k⟩:=h
  have Lk:=hr.units;have hu:=lM hr
  refine ⟨_,(au (aW (i:=1) jd.nd rfl (Or.inl rfl) (bw Fz (hr.mono (by decide)) (by rfl) (aj (pv 0) ao)))
   (au (aW (i:=2) jd.nd rfl (Or.inr rfl) (bw Q8 (hr.mono (by decide)) (by rfl) (aj (pv 1) (aj aA ao))))
   (au (aW (i:=3) jd.nd rfl (Or.inl rfl) (fW (gC (K:=K) rfl) (by rfl) Bt.rB mZ (aj (pv 2) ao)))
   (au (aW (i:=4) jd.nd rfl (Or.inl rfl) (bw pI (hr.mono (by decide)) (by rfl) (aj (pv 3) ao)))
   (au (fD (PW.pt (lF (gM (d7 (bw pK (hr.mono (by decide)) (by rfl) (aj (pv 4) (aj (aU (u6 rfl) (by rfl) Bt.yq tQ (aj (fW (Ab (K:=K) rfl rfl hr.Oa) (by rfl) Bt.Ut QS (aj (pv 4) ao)) ao)) ao))))) (jL (bU (Kz (K:=K) rfl Lk) (pv 3) (pv 2) (bG _))))) (aF (bA iU)) bY)
   (au (dN PassesOwn.never rfl (eV (by rfl) Bt.gD (aj (bF dO aA (aU (Fi rfl) (by rfl) Bt.Uu QT (aj (aU (aZ (K:=K) rfl) (by rfl) Bt.jB gj (aj (pv 0) ao)) (aj aA ao)))) ao)) (aO (i:=5) jd.nd rfl (Or.inl rfl))
   (au (mF (i:=6) rfl jd.nd rfl (Or.inl rfl) (N:=["place","web"]) (own:=["place"]) (caps:=[2]) (aR.of (by kernel_rfl)) (cP (K:=K) rfl (bw rR (hr.mono (by decide)) (by rfl) (aj (pv 1) (aj (pv 2) ao)))) (fun _ _ _ _=>(aO (i:=0) (show List.Nodup (["place","web"]:List Str) by decide +kernel) rfl (Or.inl rfl))) (fun _ _ _ _=>iT) (fun _ _ _ _=>(aM (aK (K:=K) rfl) (pv 1) (pv 0) (fun _ _=>rfl))))
   (au (fD (PW.pt (lF (gM (d7 (bw pK (hr.mono (by decide)) (by rfl) (aj (bw pI (hr.mono (by decide)) (by rfl) (aj (fW (gC (K:=K) rfl) (by rfl) Bt.rB mZ (aj (pv 6) ao)) ao)) (aj (pv 4) ao))))) (jL (bU Ky (bw Jz (hr.mono (by decide)) (by rfl) (aj (fW (gC (K:=K) rfl) (by rfl) Bt.rB mZ (aj (pv 6) ao)) (aj (fW (gC (K:=K) rfl) (by rfl) Bt.rB mZ (aj (pv 4) ao)) ao))) iU (bG _))))) (aF (bA iU)) bY)
   (au (aW (i:=7) jd.nd rfl (Or.inl rfl) (bw dH (hr.mono (by decide)) (by rfl) (aj (pv 1) (aj (bF dO (aU (aZ (K:=K) rfl) (by rfl) Bt.jB gj (aj (pv 2) ao)) aA) ao))))
   (au (qt (bw JC (hr.mono (by decide)) (by rfl) (aj (pv 2) (aj (pv 4) (aj (pv 7) ao)))) (Hf (K:=K) rfl rfl (cJ (aO (i:=8) jd.nd rfl (Or.inl rfl)) (cJ (aO (i:=9) jd.nd rfl (Or.inl rfl)) kW))))
   (aF (fD (PW.pt (lF (gM (d7 (bw pK (hr.mono (by decide)) (by rfl) (aj (bw pI (hr.mono (by decide)) (by rfl) (aj (d9 (mj (K:=K) rfl) (pv 2) gA (gq (pv 7))) ao)) (aj (pv 8) ao))))) (jL (gM (d7 (bw pK (hr.mono (by decide)) (by rfl) (aj (bw pI (hr.mono (by decide)) (by rfl) (aj (d9 (mj (K:=K) rfl) (pv 2) (gq (pv 7)) gA) ao)) (aj (pv 9) ao)))))))) (aF (bA iU)) bY)))))))
   (aF (bA iU)))))))), ?_⟩
  refine ⟨_,rfl,a,ns,rfl,hS,hlen,fun r H1 hr1 S1 MF=> ?_⟩;refine ⟨_,rfl,r,300,rfl,S1,by decide,by decide,fun wb ws H2 hw W ok len S2 k2=> ?_⟩;have BL:∀x∈ws,0<=x.1/\x.1<8:=fun x hx=>(ok x hx).1
  have nwr:wb≠r:=by
   obtain ⟨f1,f2,f3,e1,_⟩:=S1;exact (aB e1 hw).symm
  have SN:Same H H2:=fun b u e=>k2 _ _ (MF _ _ e) (aB e hr1);obtain ⟨wv,hwv,dwv⟩:=id W;refine ⟨_,rfl,wb,_,rfl,.inl (bf.of hwv),fun l hl=> ?_⟩;have s3:=aD (o:=HO.lst wv) hl;have L3:cA (upd H2 l (HO.lst wv)) l ws:=⟨wv,ak,aC.keep s3.tups _ (aX _ kh ws) dwv⟩;refine ⟨_,rfl,l,ws,rfl,L3,len,BL,fun to vB H4 hto T4 tp ts s4=> ?_⟩;have GD:=s3.trans s4
  have Yj:to≠r:=by
   obtain ⟨f1,f2,f3,e1,_⟩:=S2.keep s3;exact (aB e1 hto).symm
  have I4:N6 r wb to ws vB H4:=⟨S2.keep GD,W.same GD,T4,nwr,Yj⟩;have L4:=L3.same s4
  have tnl:vB.length<=2400:=by
   rw [tp.length_eq];have:=yx BL ws.length (Nat.le_refl _);omega
  have tnd:vB.Nodup:=tp.nodup_iff.mpr (rC ws.length (Nat.le_refl _))
  have ht:∀x∈vB,(0<=x.1/\x.1<8)/\0<=x.2.2.1/\x.2.2.1<8:=fun x hx=>by
   obtain ⟨i,j,ij,jl,rfl,_⟩:=nO (tp.mem_iff.mp hx);have e1:ws[i]? = some (ws[i]'(by omega)):=by simp [show i<ws.length by omega]
   have e2:ws[j]? = some ws[j]:=by simp [jl]
   show (0<=hnd ws i/\hnd ws i<8)/\0<=hnd ws j/\hnd ws j<8;rw [bM e1,bM e2];exact ⟨BL _ (List.mem_of_getElem? e1),BL _ (List.mem_of_getElem? e2)⟩
  obtain ⟨tv,htv,dtv⟩:=id T4;obtain ⟨as,ea,ek,eh⟩:=Hz dtv;have asl:as.length=vB.length:=by have:=congrArg List.length ek;simpa using this
  refine ⟨_,rfl,_,rfl,to,as,rfl,by rw [←ea];exact bf.of htv,eh,by omega,fun q xs hq fl=> ?_⟩;have s5:=aD (o:=Aq P w q xs) hq;refine ⟨q,xs,4,rfl,ak,by decide,fun x hx=> ?_,fun p zs hp zp zsr=> ?_⟩
  ·have hx':=fl.1 x hx
   have:x.1∈vB.map nK:=by rw [←ek];exact List.mem_map.mpr ⟨x,hx',rfl⟩
   obtain ⟨y,_,ey⟩:=List.mem_map.mp this;exact ⟨s5 _ _ (eh x hx'),by rw [←ey];rfl⟩
  have s6:=aD (o:=HO.lst (zs.map fun x=>V.ref x.2)) hp;have U9:=s5.trans s6;obtain ⟨z1,z2⟩:=zj ek tnd fl zp zsr ts
  have D6:cM (upd (upd H4 q (Aq P w q xs)) p (HO.lst (zs.map fun x=>V.ref x.2))) p vB:=by
   refine ⟨_,ak, ?_⟩;rw [←z1];refine Cv fun z hz=> ?_;obtain ⟨ha,x,ex⟩:=z2 z hz;have:=U9 _ _ (eh z ha);rw [ex] at this;exact ⟨x,ex,this⟩
  refine ⟨to,p,vB,vB,rfl,T4.same U9,D6,fun H7 s7=>⟨_,rfl,mL rfl ?_⟩⟩;have WK:=U9.trans s7;have I7:=I4.same WK;obtain ⟨l7,hl7,dl7⟩:=id (L4.same WK);obtain ⟨w7,hw7,dw7⟩:=id I7.web;refine ⟨_,rfl,_,rfl,_,_,mX hl7 dl7,mX hw7 dw7,p8 ok,p8 ok,_,rfl, ?_⟩;rw [if_pos rfl,xK tD Qz];refine mL rfl ?_;have hS7:bf K H7 a (ns.map V.int):=((SN.trans GD).trans WK).seq hS;clear D6 z1 z2 U9 s6 s5 hl7 dl7 hw7 dw7 T4 htv dtv ea ek eh asl L4 L3 hp hq zp zsr fl I4;refine ⟨_,rfl,a,_,rfl,.inl hS7,_,_,rfl,_,_,rfl,rfl,_,rfl, ?_, ?_, ?_⟩
  ·rw [List.length_map];split<;>omega
  ·rw [List.length_map];split<;>omega
  refine ju (lo:=0) (fun n σ H8=>∃(x1 x2 x3 x4 x5:Option V),σ=[some (.ref a),some (.ref r),some (.ref wb),some (.ref l),some (.ref to),x1,x2,x3,x4,x5]/\N6 r wb to ws vB H8)
   ⟨none,none,none,none,none,rfl,I7⟩ ?_ ?_
  ·clear I7
   rintro n σ H8 hn ⟨x1,x2,x3,x4,x5,rfl,I⟩;refine ⟨_,rfl,_,rfl,r,wb,ws,rfl,I.sp,I.web,len,I.ne.1,fun c os H9 hc9 LC ol nd lt w6 ncr S9 k9=> ?_⟩;have I9:=I.J5 k9 S9;have O:=R6 nd lt ol w6;have okr:∀x∈iD ws os,Dd x:=fun x hx=>ok x (O.Rn.mem_iff.mp hx);have R9:∀x∈iD ws os,0<=x.1/\x.1<8:=fun x hx=>(okr x hx).1;have Sy:(iD ws os).length<=300:=by rw [O.Dg];exact len
   have pr:=O.all;clear I k9;have LC':H9 c=some (.lst ((nI os).map V.int)):=LC;have ncl:((nI os).map V.int).length<=300:=by rw [List.length_map,iG];omega
   refine ⟨c,rfl,⟨_,bf.of LC'⟩,fun D hD=> ?_⟩;refine lu (K:=K) (xs:=(nI os).map V.int) (fun i=>(os[i]?).map fun a=>tD ((ws[a]?).getD (0,"",0))) (fun i d h=> ?_) hD (bf.of LC') (by omega) (fun i v V6 G F hi Vb kG kF=> ?_) (fun V6 tv Vb e10 V1=> ?_)
   ·cases e:os[i]? with
    | none=>rw [e] at h;cases h
    | some z=>rw [e] at h;cases h;rfl
   ·rw [List.getElem?_map] at hi
    cases eo:os[i]? with
    | none=>
      have:(nI os)[i]? = none:=by unfold nI;rw [List.getElem?_map,eo];rfl
      rw [this] at hi;cases hi
    | some z=>
      rw [zW eo] at hi;cases hi;have zl:=lt z (List.mem_of_getElem? eo);have ez:ws[z]? = some ws[z]:=by simp [zl]
      rw [eo] at kF;obtain ⟨wv2,t2,hw2,et2,m8⟩:=iR (I9.web.same Vb) ez;refine fY (B:=G V6) ?_;refine ⟨_,rfl,_,rfl,_,_,_,_,rfl,rfl,bf.of hw2,cO et2,kF _ _ _ (Same.refl _) rfl ?_⟩;dsimp only;rw [ez];exact CG m8
   rw [List.length_map,Qu] at V1;have R10:cA V6 D (iD ws os):=⟨tv,e10,V1⟩;have I10:=I9.same Vb;clear I9 Vb LC LC' hD hc9;refine ⟨_,rfl,D,_,rfl,.inl (bf.of e10),fun d1 hd1=> ?_⟩;have WQ:=aD (o:=HO.lst tv) hd1;have R11:cA (upd V6 d1 (HO.lst tv)) d1 (iD ws os):=⟨tv,ak,aC.keep WQ.tups _ (aX _ kh _) V1⟩;refine ⟨d1,iD ws os,rfl,R11,Sy,R9,fun n2 ms H12 hn2 M12 mp ms' s12=> ?_⟩;have em:ms=vB:=jr ((mp.trans pr).trans tp.symm) ms' ts;subst em;have WL:=WQ.trans s12;refine ⟨_,rfl,n2,to,ms,ms,rfl,M12,(I10.told.same WL),fun H13 GJ=>⟨_,rfl,mL rfl ?_⟩⟩;have Va:=WL.trans GJ;have I13:=I10.same Va;have e13:=Va _ _ e10;refine ⟨_,rfl,D,_,rfl,.inl (bf.of e13),fun d2 hd2=> ?_⟩;have WM:=aD (o:=HO.lst tv) hd2;obtain ⟨U5,Tp,TY⟩:=id (I13.told.same WM);refine ⟨_,rfl,to,_,rfl,.inl (bf.of Tp),fun d3 Nr=> ?_⟩;have Ka:=aD (o:=HO.lst U5) Nr;have OD:=WM.trans Ka;have R15:cA (upd (upd H13 d2 (HO.lst tv)) d3 (HO.lst U5)) d2 (iD ws os):=⟨tv,Ka _ _ ak,aC.keep (Va.trans OD).tups _ (aX _ kh _) V1⟩;have T15:cM (upd (upd H13 d2 (HO.lst tv)) d3 (HO.lst U5)) d3 ms:=⟨U5,ak,aC.keep Ka.tups _ (aX _ jQ _) TY⟩
   have mt:∀x∈ms,N7 (iD ws os) x:=fun x hx=>by
    obtain ⟨i,j,e,np⟩:=sX (pr.mem_iff.mpr (tp.mem_iff.mp hx));rw [e];exact np.mtg
   refine ⟨d2,d3,iD ws os,ms,rfl,R15,Sy,R9,T15,by omega,fun x hx=>(mt x hx).str,fun bb H16 hb s16=> ?_⟩;have eb:bb=true:=hb.mpr ((QC mt).mpr fun x hx=>tp.mem_iff.mpr (pr.mem_iff.mp hx));subst eb;refine ⟨_,_,rfl,rfl,_,rfl, ?_⟩;refine (show if false=true then _ else _ from gG ?_);have V5:=I13.same (OD.trans s16);clear I13 I10 R10 R11 R15 T15 Va WL WQ s12 GJ WM Ka OD s16 e13 Tp TY hd1 hd2 Nr M12 mp hb hn2;obtain ⟨wv2,hw2,dw2⟩:=id V5.web;have wl2:wv2.length=ws.length:=by rw [dw2.length,List.length_map]
   refine ⟨_,rfl,_,rfl,wb,_,rfl,.inl (bf.of hw2),_,_,rfl,rfl,r,_,rfl,V5.sp,by omega,by omega,fun cI H17 c0 c1 S17 Qj=> ?_⟩;have I17:=V5.J5 Qj S17;obtain ⟨ct,rfl⟩:∃c:Nat,cI=(c:Int):=⟨cI.toNat,by omega⟩;have cl:ct<=ws.length:=by omega
   clear V5 hw2 dw2 Qj S17;refine ⟨_,rfl,_,rfl,_,rfl,wb,to,ws,ct,ms,rfl,I17.web,len,cl,I17.told,by omega,ht,fun rr ea la H18 hrr E18 L18 s18=> ?_⟩;refine ⟨rr,_,_,rfl,bf.of hrr,_,_,rfl,_,_,rfl,rfl, ?_⟩;have I18:=I17.same s18;obtain ⟨p1,p2⟩:=Kw (p:=ws.take ct) (q:=ws.drop ct) (ns:=ms) (by rw [List.take_append_drop];exact tp);have es:o9 (ms.filter (inB (ws.take ct))):=List.Pairwise.filter _ ts;have ls:o9 ((ms.filter (iQ (ws.take ct))).map (xZ (ws.take ct))):=KZ (List.Pairwise.filter _ ts);obtain ⟨wv3,Zm,dw3⟩:=id I18.web;refine ⟨_,rfl,_,rfl,_,rfl,_,_,rfl,bf.of Zm,fun d4 Tv=> ?_⟩;rw [qP];have s19:=aD (o:=HO.lst (wv3.take ct)) Tv;have W19:cA (upd H18 d4 (HO.lst (wv3.take ct))) d4 (ws.take ct):=⟨_,ak,aC.keep s19.tups _ (aX _ kh _) (by rw [List.map_take];exact dw3.take ct)⟩;refine ⟨d4,ws.take ct,rfl,W19,by rw [List.length_take];omega,fun x hx=>BL x (List.mem_of_mem_take hx),fun n3 es' H20 hn3 N20 np ns' s20=> ?_⟩;have ee:es'=ms.filter (inB (ws.take ct)):=jr (np.trans p1.symm) ns' es;subst ee;have MN:=s19.trans s20;refine ⟨_,rfl,n3,ea,_,_,rfl,N20,E18.same MN,fun H21 s21=>⟨_,rfl,mL rfl ?_⟩⟩;have GF:=MN.trans s21;obtain ⟨wv4,hw4,dw4⟩:=id (I18.web.same GF);refine ⟨_,rfl,_,rfl,_,rfl,_,_,rfl,bf.of hw4,fun d5 hd5=> ?_⟩;rw [xQ];have s22:=aD (o:=HO.lst (wv4.drop ct)) hd5;have W22:cA (upd H21 d5 (HO.lst (wv4.drop ct))) d5 (ws.drop ct):=⟨_,ak,aC.keep s22.tups _ (aX _ kh _) (by rw [List.map_drop];exact dw4.drop ct)⟩;refine ⟨d5,ws.drop ct,rfl,W22,by rw [List.length_drop];omega,fun x hx=>BL x (List.mem_of_mem_drop hx),fun n4 ls' H23 Vw N23 np4 ns4 U_=> ?_⟩;have el:ls'=(ms.filter (iQ (ws.take ct))).map (xZ (ws.take ct)):=jr (np4.trans p2.symm) ns4 ls;subst el;have MK:=s22.trans U_;refine ⟨_,rfl,n4,la,_,_,rfl,N23,(L18.same GF).same MK,fun H24 RN=>⟨_,rfl,mL rfl ?_⟩⟩;exact ⟨_,_,_,_,_,rfl,I18.same ((GF.trans MK).trans RN)⟩
  ·rintro σ H8 ⟨x1,x2,x3,x4,x5,rfl,I⟩
   exact k H8
end
theorem len0 {us:List Value} (h:us.length=0):us=[]:=List.eq_nil_of_length_eq_zero h
theorem cg {us:List Value} {n:Nat} (h:us.length=n+1):∃a vs,us=a::vs/\vs.length=n:=by
 cases us with
 | nil=>cases h
 | cons a t=>exact ⟨a,t,rfl,Nat.succ.inj h⟩
theorem Ag (kV doc pm:Value) (an:Option Addr) (cdv ct:Value) (us:List Value) (hl:us.length=(["script"]:List Str).length):bindArgs (PySem.W.fnOf "_law_spring" "_law_spring" (aH dY) (aG dY) (aq dY) .none kV doc pm an cdv ct) ⟨us,[]⟩=pure ((["script"]:List Str).zip us):=by obtain ⟨_,_,rfl,h1⟩:=cg hl;cases len0 h1;rfl
theorem Js (kV doc pm:Value) (an:Option Addr) (cdv ct:Value) (us:List Value) (hl:us.length=(["spring","many"]:List Str).length):bindArgs (PySem.W.fnOf "_law_draw" "_law_draw" (aH iu) (aG iu) (aq iu) .none kV doc pm an cdv ct) ⟨us,[]⟩=pure ((["spring","many"]:List Str).zip us):=by obtain ⟨_,_,rfl,h1⟩:=cg hl;obtain ⟨_,_,rfl,h2⟩:=cg h1;cases len0 h2;rfl
theorem Mi (kV doc pm:Value) (an:Option Addr) (cdv ct:Value) (us:List Value) (hl:us.length=(["spring","most"]:List Str).length):bindArgs (PySem.W.fnOf "_law_web" "_law_web" (aH jJ) (aG jJ) (aq jJ) .none kV doc pm an cdv ct) ⟨us,[]⟩=pure ((["spring","most"]:List Str).zip us):=by obtain ⟨_,_,rfl,h1⟩:=cg hl;obtain ⟨_,_,rfl,h2⟩:=cg h1;cases len0 h2;rfl
theorem yg (kV doc pm:Value) (an:Option Addr) (cdv ct:Value) (us:List Value) (hl:us.length=(["value"]:List Str).length):bindArgs (PySem.W.fnOf "is_whole" "is_whole" (aH cV) (aG cV) (aq cV) .none kV doc pm an cdv ct) ⟨us,[]⟩=pure ((["value"]:List Str).zip us):=by obtain ⟨_,_,rfl,h1⟩:=cg hl;cases len0 h1;rfl
theorem Jo (kV doc pm:Value) (an:Option Addr) (cdv ct:Value) (us:List Value) (hl:us.length=(["web"]:List Str).length):bindArgs (PySem.W.fnOf "names" "names" (aH gZ) (aG gZ) (aq gZ) .none kV doc pm an cdv ct) ⟨us,[]⟩=pure ((["web"]:List Str).zip us):=by obtain ⟨_,_,rfl,h1⟩:=cg hl;cases len0 h1;rfl
theorem oZ (kV doc pm:Value) (an:Option Addr) (cdv ct:Value) (us:List Value) (hl:us.length=(["one","other"]:List Str).length):bindArgs (PySem.W.fnOf "touches_meet" "touches_meet" (aH bK) (aG bK) (aq bK) .none kV doc pm an cdv ct) ⟨us,[]⟩=pure ((["one","other"]:List Str).zip us):=by obtain ⟨_,_,rfl,h1⟩:=cg hl;obtain ⟨_,_,rfl,h2⟩:=cg h1;cases len0 h2;rfl
theorem Ae (kV doc pm:Value) (an:Option Addr) (cdv ct:Value) (us:List Value) (hl:us.length=(["web","place","later"]:List Str).length):bindArgs (PySem.W.fnOf "is_step" "is_step" (aH dW) (aG dW) (aq dW) .none kV doc pm an cdv ct) ⟨us,[]⟩=pure ((["web","place","later"]:List Str).zip us):=by obtain ⟨_,_,rfl,h1⟩:=cg hl;obtain ⟨_,_,rfl,h2⟩:=cg h1;obtain ⟨_,_,rfl,h3⟩:=cg h2;cases len0 h3;rfl
theorem yh (kV doc pm:Value) (an:Option Addr) (cdv ct:Value) (us:List Value) (hl:us.length=(["name","known"]:List Str).length):bindArgs (PySem.W.fnOf "is_known" "is_known" (aH cX) (aG cX) (aq cX) .none kV doc pm an cdv ct) ⟨us,[]⟩=pure ((["name","known"]:List Str).zip us):=by obtain ⟨_,_,rfl,h1⟩:=cg hl;obtain ⟨_,_,rfl,h2⟩:=cg h1;cases len0 h2;rfl
theorem Jp (kV doc pm:Value) (an:Option Addr) (cdv ct:Value) (us:List Value) (hl:us.length=(["known","more"]:List Str).length):bindArgs (PySem.W.fnOf "learn" "learn" (aH g_) (aG g_) (aq g_) .none kV doc pm an cdv ct) ⟨us,[]⟩=pure ((["known","more"]:List Str).zip us):=by obtain ⟨_,_,rfl,h1⟩:=cg hl;obtain ⟨_,_,rfl,h2⟩:=cg h1;cases len0 h2;rfl
theorem rQ (kV doc pm:Value) (an:Option Addr) (cdv ct:Value) (us:List Value) (hl:us.length=(["web","named","knowns","place"]:List Str).length):bindArgs (PySem.W.fnOf "bare_steps" "bare_steps" (aH bW) (aG bW) (aq bW) .none kV doc pm an cdv ct) ⟨us,[]⟩=pure ((["web","named","knowns","place"]:List Str).zip us):=by obtain ⟨_,_,rfl,h1⟩:=cg hl;obtain ⟨_,_,rfl,h2⟩:=cg h1;obtain ⟨_,_,rfl,h3⟩:=cg h2;obtain ⟨_,_,rfl,h4⟩:=cg h3;cases len0 h4;rfl
theorem yd (kV doc pm:Value) (an:Option Addr) (cdv ct:Value) (us:List Value) (hl:us.length=(["named","bare","name"]:List Str).length):bindArgs (PySem.W.fnOf "notes_to" "notes_to" (aH cU) (aG cU) (aq cU) .none kV doc pm an cdv ct) ⟨us,[]⟩=pure ((["named","bare","name"]:List Str).zip us):=by obtain ⟨_,_,rfl,h1⟩:=cg hl;obtain ⟨_,_,rfl,h2⟩:=cg h1;obtain ⟨_,_,rfl,h3⟩:=cg h2;cases len0 h3;rfl
theorem Jm (kV doc pm:Value) (an:Option Addr) (cdv ct:Value) (us:List Value) (hl:us.length=(["web"]:List Str).length):bindArgs (PySem.W.fnOf "notes" "notes" (aH gY) (aG gY) (aq gY) .none kV doc pm an cdv ct) ⟨us,[]⟩=pure ((["web"]:List Str).zip us):=by obtain ⟨_,_,rfl,h1⟩:=cg hl;cases len0 h1;rfl
theorem Af (kV doc pm:Value) (an:Option Addr) (cdv ct:Value) (us:List Value) (hl:us.length=(["value"]:List Str).length):bindArgs (PySem.W.fnOf "is_note" "is_note" (aH dX) (aG dX) (aq dX) .none kV doc pm an cdv ct) ⟨us,[]⟩=pure ((["value"]:List Str).zip us):=by obtain ⟨_,_,rfl,h1⟩:=cg hl;cases len0 h1;rfl
theorem vm (kV doc pm:Value) (an:Option Addr) (cdv ct:Value) (us:List Value) (hl:us.length=(["places","note"]:List Str).length):bindArgs (PySem.W.fnOf "is_strict" "is_strict" (aH cH) (aG cH) (aq cH) .none kV doc pm an cdv ct) ⟨us,[]⟩=pure ((["places","note"]:List Str).zip us):=by obtain ⟨_,_,rfl,h1⟩:=cg hl;obtain ⟨_,_,rfl,h2⟩:=cg h1;cases len0 h2;rfl
theorem o7 (kV doc pm:Value) (an:Option Addr) (cdv ct:Value) (us:List Value) (hl:us.length=(["places","some"]:List Str).length):bindArgs (PySem.W.fnOf "check_strict" "check_strict" (aH bL) (aG bL) (aq bL) .none kV doc pm an cdv ct) ⟨us,[]⟩=pure ((["places","some"]:List Str).zip us):=by obtain ⟨_,_,rfl,h1⟩:=cg hl;obtain ⟨_,_,rfl,h2⟩:=cg h1;cases len0 h2;rfl
theorem vg (kV doc pm:Value) (an:Option Addr) (cdv ct:Value) (us:List Value) (hl:us.length=(["web"]:List Str).length):bindArgs (PySem.W.fnOf "places_of" "places_of" (aH cF) (aG cF) (aq cF) .none kV doc pm an cdv ct) ⟨us,[]⟩=pure ((["web"]:List Str).zip us):=by obtain ⟨_,_,rfl,h1⟩:=cg hl;cases len0 h1;rfl
theorem yc (kV doc pm:Value) (an:Option Addr) (cdv ct:Value) (us:List Value) (hl:us.length=(["places","some"]:List Str).length):bindArgs (PySem.W.fnOf "steps_by" "steps_by" (aH cT) (aG cT) (aq cT) .none kV doc pm an cdv ct) ⟨us,[]⟩=pure ((["places","some"]:List Str).zip us):=by obtain ⟨_,_,rfl,h1⟩:=cg hl;obtain ⟨_,_,rfl,h2⟩:=cg h1;cases len0 h2;rfl
theorem vh (kV doc pm:Value) (an:Option Addr) (cdv ct:Value) (us:List Value) (hl:us.length=(["named","steps"]:List Str).length):bindArgs (PySem.W.fnOf "knowns_by" "knowns_by" (aH cG) (aG cG) (aq cG) .none kV doc pm an cdv ct) ⟨us,[]⟩=pure ((["named","steps"]:List Str).zip us):=by obtain ⟨_,_,rfl,h1⟩:=cg hl;obtain ⟨_,_,rfl,h2⟩:=cg h1;cases len0 h2;rfl
theorem Fl (kV doc pm:Value) (an:Option Addr) (cdv ct:Value) (us:List Value) (hl:us.length=(["web","some"]:List Str).length):bindArgs (PySem.W.fnOf "enough" "enough" (aH eY) (aG eY) (aq eY) .none kV doc pm an cdv ct) ⟨us,[]⟩=pure ((["web","some"]:List Str).zip us):=by obtain ⟨_,_,rfl,h1⟩:=cg hl;obtain ⟨_,_,rfl,h2⟩:=cg h1;cases len0 h2;rfl
theorem Fq (kV doc pm:Value) (an:Option Addr) (cdv ct:Value) (us:List Value) (hl:us.length=(["one","other"]:List Str).length):bindArgs (PySem.W.fnOf "_law_meets" "_law_meets" (aH fB) (aG fB) (aq fB) .none kV doc pm an cdv ct) ⟨us,[]⟩=pure ((["one","other"]:List Str).zip us):=by obtain ⟨_,_,rfl,h1⟩:=cg hl;obtain ⟨_,_,rfl,h2⟩:=cg h1;cases len0 h2;rfl
theorem Jq (kV doc pm:Value) (an:Option Addr) (cdv ct:Value) (us:List Value) (hl:us.length=(["one","other"]:List Str).length):bindArgs (PySem.W.fnOf "_law_step" "_law_step" (aH h_) (aG h_) (aq h_) .none kV doc pm an cdv ct) ⟨us,[]⟩=pure ((["one","other"]:List Str).zip us):=by obtain ⟨_,_,rfl,h1⟩:=cg hl;obtain ⟨_,_,rfl,h2⟩:=cg h1;cases len0 h2;rfl
theorem q_ (kV doc pm:Value) (an:Option Addr) (cdv ct:Value) (us:List Value) (hl:us.length=(["spring","web"]:List Str).length):bindArgs (PySem.W.fnOf "_law_free_order" "_law_free_order" (aH bN) (aG bN) (aq bN) .none kV doc pm an cdv ct) ⟨us,[]⟩=pure ((["spring","web"]:List Str).zip us):=by obtain ⟨_,_,rfl,h1⟩:=cg hl;obtain ⟨_,_,rfl,h2⟩:=cg h1;cases len0 h2;rfl
theorem Fo (kV doc pm:Value) (an:Option Addr) (cdv ct:Value) (us:List Value) (hl:us.length=(["found"]:List Str).length):bindArgs (PySem.W.fnOf "_law_whole" "_law_whole" (aH eZ) (aG eZ) (aq eZ) .none kV doc pm an cdv ct) ⟨us,[]⟩=pure ((["found"]:List Str).zip us):=by obtain ⟨_,_,rfl,h1⟩:=cg hl;cases len0 h1;rfl
theorem Jr (kV doc pm:Value) (an:Option Addr) (cdv ct:Value) (us:List Value) (hl:us.length=(["found","due"]:List Str).length):bindArgs (PySem.W.fnOf "_law_rows" "_law_rows" (aH ig) (aG ig) (aq ig) .none kV doc pm an cdv ct) ⟨us,[]⟩=pure ((["found","due"]:List Str).zip us):=by obtain ⟨_,_,rfl,h1⟩:=cg hl;obtain ⟨_,_,rfl,h2⟩:=cg h1;cases len0 h2;rfl
theorem Fp (kV doc pm:Value) (an:Option Addr) (cdv ct:Value) (us:List Value) (hl:us.length=(["web","told","cut"]:List Str).length):bindArgs (PySem.W.fnOf "_law_parts" "_law_parts" (aH fu) (aG fu) (aq fu) .none kV doc pm an cdv ct) ⟨us,[]⟩=pure ((["web","told","cut"]:List Str).zip us):=by obtain ⟨_,_,rfl,h1⟩:=cg hl;obtain ⟨_,_,rfl,h2⟩:=cg h1;obtain ⟨_,_,rfl,h3⟩:=cg h2;cases len0 h3;rfl
theorem all_mk {l:PySem.W.OpenLaw} {w:World} {K:PySem.W.Frag} {h:Heap} {mg:Str->Option Value} {fa f0 f1 f2 f3 f4 f5 f6 f7 f8 f9 V0 f11 VR VP VN VL VJ VH VG VF VD VB Vz Vy Vx ZJ:Addr} (X:K.In h) (G:h.Ns mainGlobals mg) (hfa:mg "law" = some (.ref fa))
 {od0 an0 od1 an1 od2 an2 od3 an3 od4 an4 od5 an5 od6 an6 od7 an7 od8 an8 od9 an9 XM aaO XJ aaN XH aaM XF aaL XD aaK XC aaJ Xz aaI Xy aaH Xx aaG Xw aaF Xv aaE Xu aaD Xr aaC Xq aaB Xp aaA Xo Uw:Option Addr} {sl0 sl1 sl2 sl3 sl4 sl5 sl6 sl7 sl8 sl9 Wz Wy Wx Ww Wv Wu Wt Ws Wr Wq Wo Wn Wm Wk Wj Wi:Array (Option Value)} {oc0 kV0 dc0 pm0 cd0 ct0 oc1 kV1 dc1 pm1 cd1 ct1 oc2 kV2 dc2 Vd cd2 ct2 oc3 kV3 dc3 pm3 cd3 ct3 oc4 kV4 dc4 pm4 cd4 ct4 oc5 kV5 dc5 pm5 cd5 ct5 oc6 kV6 dc6 pm6 cd6 ct6 oc7 kV7 dc7 pm7 cd7 ct7 oc8 kV8 dc8 pm8 cd8 ct8 oc9 kV9 dc9 pm9 cd9 ct9 Yh Zg Z6 Xl Us aam Yg Zf Z5 Xk Ur aal Ye Ze Z4 Xj Uq aak Yd Zd Z2 Xi Uo aaj Yc Zc Z1 Xh Um aai Yb Zb Z0 Xg Ul aah X_ Za ZX Xf Uk aag X8 Y_ ZW Xe Uj aaf X7 Y9 ZV Xd Ui aae X6 Y8 ZS Xc Uh aad X5 Y7 ZR Xb Ug aac X4 Y6 ZQ Xa Ue Z_ X3 Y5 ZP W_ Ud Z9 XS Y4 ZM W9 Uc Z8 XR Y0 ZL W6 Ub Z7 XQ SX T7 R3 QM T9:Value}
 (a0:PySem.W.nsIn K mainGlobals "_law_spring" = some (some (.ref f0))) (l0:K.lookup f0=some ⟨oc0,od0,.func (PySem.W.fnOf "_law_spring" "_law_spring" (aH dY) (aG dY) (aq dY) .none kV0 dc0 pm0 an0 cd0 ct0),sl0⟩) (c0:PySem.W.codeIn K cd0 "_law_spring" = true) (k0:PySem.W.keepIn K (.ref f0)=true)
 (a1:PySem.W.nsIn K mainGlobals "_law_draw" = some (some (.ref f1))) (l1:K.lookup f1=some ⟨oc1,od1,.func (PySem.W.fnOf "_law_draw" "_law_draw" (aH iu) (aG iu) (aq iu) .none kV1 dc1 pm1 an1 cd1 ct1),sl1⟩) (c1:PySem.W.codeIn K cd1 "_law_draw" = true) (k1:PySem.W.keepIn K (.ref f1)=true)
 (a2:PySem.W.nsIn K mainGlobals "_law_web" = some (some (.ref f2))) (l2:K.lookup f2=some ⟨oc2,od2,.func (PySem.W.fnOf "_law_web" "_law_web" (aH jJ) (aG jJ) (aq jJ) .none kV2 dc2 Vd an2 cd2 ct2),sl2⟩) (c2:PySem.W.codeIn K cd2 "_law_web" = true) (k2:PySem.W.keepIn K (.ref f2)=true)
 (a3:PySem.W.nsIn K mainGlobals "is_whole" = some (some (.ref f3))) (l3:K.lookup f3=some ⟨oc3,od3,.func (PySem.W.fnOf "is_whole" "is_whole" (aH cV) (aG cV) (aq cV) .none kV3 dc3 pm3 an3 cd3 ct3),sl3⟩) (c3:PySem.W.codeIn K cd3 "is_whole" = true) (k3:PySem.W.keepIn K (.ref f3)=true)
 (a4:PySem.W.nsIn K mainGlobals "names" = some (some (.ref f4))) (l4:K.lookup f4=some ⟨oc4,od4,.func (PySem.W.fnOf "names" "names" (aH gZ) (aG gZ) (aq gZ) .none kV4 dc4 pm4 an4 cd4 ct4),sl4⟩) (c4:PySem.W.codeIn K cd4 "names" = true) (k4:PySem.W.keepIn K (.ref f4)=true)
 (a5:PySem.W.nsIn K mainGlobals "touches_meet" = some (some (.ref f5))) (l5:K.lookup f5=some ⟨oc5,od5,.func (PySem.W.fnOf "touches_meet" "touches_meet" (aH bK) (aG bK) (aq bK) .none kV5 dc5 pm5 an5 cd5 ct5),sl5⟩) (c5:PySem.W.codeIn K cd5 "touches_meet" = true) (k5:PySem.W.keepIn K (.ref f5)=true)
 (a6:PySem.W.nsIn K mainGlobals "is_step" = some (some (.ref f6))) (l6:K.lookup f6=some ⟨oc6,od6,.func (PySem.W.fnOf "is_step" "is_step" (aH dW) (aG dW) (aq dW) .none kV6 dc6 pm6 an6 cd6 ct6),sl6⟩) (c6:PySem.W.codeIn K cd6 "is_step" = true) (k6:PySem.W.keepIn K (.ref f6)=true)
 (a7:PySem.W.nsIn K mainGlobals "is_known" = some (some (.ref f7))) (l7:K.lookup f7=some ⟨oc7,od7,.func (PySem.W.fnOf "is_known" "is_known" (aH cX) (aG cX) (aq cX) .none kV7 dc7 pm7 an7 cd7 ct7),sl7⟩) (c7:PySem.W.codeIn K cd7 "is_known" = true) (k7:PySem.W.keepIn K (.ref f7)=true)
 (a8:PySem.W.nsIn K mainGlobals "learn" = some (some (.ref f8))) (l8:K.lookup f8=some ⟨oc8,od8,.func (PySem.W.fnOf "learn" "learn" (aH g_) (aG g_) (aq g_) .none kV8 dc8 pm8 an8 cd8 ct8),sl8⟩) (c8:PySem.W.codeIn K cd8 "learn" = true) (k8:PySem.W.keepIn K (.ref f8)=true)
 (a9:PySem.W.nsIn K mainGlobals "bare_steps" = some (some (.ref f9))) (l9:K.lookup f9=some ⟨oc9,od9,.func (PySem.W.fnOf "bare_steps" "bare_steps" (aH bW) (aG bW) (aq bW) .none kV9 dc9 pm9 an9 cd9 ct9),sl9⟩) (c9:PySem.W.codeIn K cd9 "bare_steps" = true) (k9:PySem.W.keepIn K (.ref f9)=true)
 (a10:PySem.W.nsIn K mainGlobals "notes_to" = some (some (.ref V0))) (l10:K.lookup V0=some ⟨Yh,XM,.func (PySem.W.fnOf "notes_to" "notes_to" (aH cU) (aG cU) (aq cU) .none Zg Z6 Xl aaO Us aam),Wz⟩) (c10:PySem.W.codeIn K Us "notes_to" = true) (k10:PySem.W.keepIn K (.ref V0)=true)
 (a11:PySem.W.nsIn K mainGlobals "notes" = some (some (.ref f11))) (YS:K.lookup f11=some ⟨Yg,XJ,.func (PySem.W.fnOf "notes" "notes" (aH gY) (aG gY) (aq gY) .none Zf Z5 Xk aaN Ur aal),Wy⟩) (c11:PySem.W.codeIn K Ur "notes" = true) (k11:PySem.W.keepIn K (.ref f11)=true)
 (a12:PySem.W.nsIn K mainGlobals "is_note" = some (some (.ref VR))) (YQ:K.lookup VR=some ⟨Ye,XH,.func (PySem.W.fnOf "is_note" "is_note" (aH dX) (aG dX) (aq dX) .none Ze Z4 Xj aaM Uq aak),Wx⟩) (c12:PySem.W.codeIn K Uq "is_note" = true) (k12:PySem.W.keepIn K (.ref VR)=true)
 (a13:PySem.W.nsIn K mainGlobals "is_strict" = some (some (.ref VP))) (YM:K.lookup VP=some ⟨Yd,XF,.func (PySem.W.fnOf "is_strict" "is_strict" (aH cH) (aG cH) (aq cH) .none Zd Z2 Xi aaL Uo aaj),Ww⟩) (c13:PySem.W.codeIn K Uo "is_strict" = true) (k13:PySem.W.keepIn K (.ref VP)=true)
 (a14:PySem.W.nsIn K mainGlobals "check_strict" = some (some (.ref VN))) (YL:K.lookup VN=some ⟨Yc,XD,.func (PySem.W.fnOf "check_strict" "check_strict" (aH bL) (aG bL) (aq bL) .none Zc Z1 Xh aaK Um aai),Wv⟩) (c14:PySem.W.codeIn K Um "check_strict" = true) (k14:PySem.W.keepIn K (.ref VN)=true)
 (a15:PySem.W.nsIn K mainGlobals "places_of" = some (some (.ref VL))) (YK:K.lookup VL=some ⟨Yb,XC,.func (PySem.W.fnOf "places_of" "places_of" (aH cF) (aG cF) (aq cF) .none Zb Z0 Xg aaJ Ul aah),Wu⟩) (c15:PySem.W.codeIn K Ul "places_of" = true) (Vv:PySem.W.keepIn K (.ref VL)=true)
 (a16:PySem.W.nsIn K mainGlobals "steps_by" = some (some (.ref VJ))) (YJ:K.lookup VJ=some ⟨X_,Xz,.func (PySem.W.fnOf "steps_by" "steps_by" (aH cT) (aG cT) (aq cT) .none Za ZX Xf aaI Uk aag),Wt⟩) (c16:PySem.W.codeIn K Uk "steps_by" = true) (Vu:PySem.W.keepIn K (.ref VJ)=true)
 (a17:PySem.W.nsIn K mainGlobals "knowns_by" = some (some (.ref VH))) (YH:K.lookup VH=some ⟨X8,Xy,.func (PySem.W.fnOf "knowns_by" "knowns_by" (aH cG) (aG cG) (aq cG) .none Y_ ZW Xe aaH Uj aaf),Ws⟩) (c17:PySem.W.codeIn K Uj "knowns_by" = true) (Qj:PySem.W.keepIn K (.ref VH)=true)
 (a18:PySem.W.nsIn K mainGlobals "enough" = some (some (.ref VG))) (YG:K.lookup VG=some ⟨X7,Xx,.func (PySem.W.fnOf "enough" "enough" (aH eY) (aG eY) (aq eY) .none Y9 ZV Xd aaG Ui aae),Wr⟩) (c18:PySem.W.codeIn K Ui "enough" = true) (Vt:PySem.W.keepIn K (.ref VG)=true)
 (a19:PySem.W.nsIn K mainGlobals "_law_meets" = some (some (.ref VF))) (YF:K.lookup VF=some ⟨X6,Xw,.func (PySem.W.fnOf "_law_meets" "_law_meets" (aH fB) (aG fB) (aq fB) .none Y8 ZS Xc aaF Uh aad),Wq⟩) (c19:PySem.W.codeIn K Uh "_law_meets" = true) (Vs:PySem.W.keepIn K (.ref VF)=true)
 (a20:PySem.W.nsIn K mainGlobals "_law_step" = some (some (.ref VD))) (YD:K.lookup VD=some ⟨X5,Xv,.func (PySem.W.fnOf "_law_step" "_law_step" (aH h_) (aG h_) (aq h_) .none Y7 ZR Xb aaE Ug aac),Wo⟩) (c20:PySem.W.codeIn K Ug "_law_step" = true) (Vr:PySem.W.keepIn K (.ref VD)=true)
 (a21:PySem.W.nsIn K mainGlobals "_law_free_order" = some (some (.ref VB))) (YC:K.lookup VB=some ⟨X4,Xu,.func (PySem.W.fnOf "_law_free_order" "_law_free_order" (aH bN) (aG bN) (aq bN) .none Y6 ZQ Xa aaD Ue Z_),Wn⟩) (c21:PySem.W.codeIn K Ue "_law_free_order" = true) (Vq:PySem.W.keepIn K (.ref VB)=true)
 (a22:PySem.W.nsIn K mainGlobals "_law_whole" = some (some (.ref Vz))) (YB:K.lookup Vz=some ⟨X3,Xr,.func (PySem.W.fnOf "_law_whole" "_law_whole" (aH eZ) (aG eZ) (aq eZ) .none Y5 ZP W_ aaC Ud Z9),Wm⟩) (c22:PySem.W.codeIn K Ud "_law_whole" = true) (Vp:PySem.W.keepIn K (.ref Vz)=true)
 (a23:PySem.W.nsIn K mainGlobals "_law_rows" = some (some (.ref Vy))) (Yz:K.lookup Vy=some ⟨XS,Xq,.func (PySem.W.fnOf "_law_rows" "_law_rows" (aH ig) (aG ig) (aq ig) .none Y4 ZM W9 aaB Uc Z8),Wk⟩) (c23:PySem.W.codeIn K Uc "_law_rows" = true) (Vo:PySem.W.keepIn K (.ref Vy)=true)
 (a24:PySem.W.nsIn K mainGlobals "_law_parts" = some (some (.ref Vx))) (Yy:K.lookup Vx=some ⟨XR,Xp,.func (PySem.W.fnOf "_law_parts" "_law_parts" (aH fu) (aG fu) (aq fu) .none Y0 ZL W6 aaA Ub Z7),Wj⟩) (c24:PySem.W.codeIn K Ub "_law_parts" = true) (Vn:PySem.W.keepIn K (.ref Vx)=true)
 (a25:PySem.W.nsIn K mainGlobals "law" = some (some (.ref ZJ))) (Yx:K.lookup ZJ=some ⟨XQ,Xo,.func (PySem.W.fnOf "law" "law" (aH mz) (aG mz) (aq mz) .none SX T7 R3 Uw QM T9),Wi⟩) (c25:PySem.W.codeIn K QM "law" = true) (Zh:PySem.W.keepIn K (.ref ZJ)=true)
 (jE:PySem.W.nsIn K mainGlobals "ValueError" = some none) (Gg:PySem.W.nsIn K mainGlobals "abs" = some none) (Gf:PySem.W.nsIn K mainGlobals "all" = some none) (Ge:PySem.W.nsIn K mainGlobals "any" = some none) (yN:PySem.W.nsIn K mainGlobals "bool" = some none) (j5:PySem.W.nsIn K mainGlobals "enumerate" = some none) (Gd:PySem.W.nsIn K mainGlobals "int" = some none) (jD:PySem.W.nsIn K mainGlobals "isinstance" = some none) (Gb:PySem.W.nsIn K mainGlobals "len" = some none) (yM:PySem.W.nsIn K mainGlobals "list" = some none) (Ga:PySem.W.nsIn K mainGlobals "max" = some none) (FZ:PySem.W.nsIn K mainGlobals "min" = some none) (t_:PySem.W.nsIn K mainGlobals "range" = some none) (FW:PySem.W.nsIn K mainGlobals "set" = some none) (pL:PySem.W.nsIn K mainGlobals "sorted" = some none) (tZ:PySem.W.nsIn K mainGlobals "tuple" = some none):
 ∃fd:FuncData,(∀(s:Shared) (v:Value),BindsTo s fd ⟨[v],[]⟩ [("script",v)]) /\ ∀base:Heap,K.In base->base.Ns mainGlobals mg->dR l.prog w K mg base lC 6 fa fd ["script"] (Bd K):=by
 have e:=hfa.symm.trans (PySem.W.mg_of X G a25);cases e;have Bt:vD mg:=⟨PySem.W.mg_none_of X G jE,PySem.W.mg_none_of X G Gg,PySem.W.mg_none_of X G Gf,PySem.W.mg_none_of X G Ge,PySem.W.mg_none_of X G yN,PySem.W.mg_none_of X G j5,PySem.W.mg_none_of X G Gd,PySem.W.mg_none_of X G jD,PySem.W.mg_none_of X G Gb,PySem.W.mg_none_of X G yM,PySem.W.mg_none_of X G Ga,PySem.W.mg_none_of X G FZ,PySem.W.mg_none_of X G t_,PySem.W.mg_none_of X G FW,PySem.W.mg_none_of X G pL,PySem.W.mg_none_of X G tZ⟩;have F0:=bR (st:=dY) l0 c0 k0;have F1:=bR (st:=iu) l1 c1 k1;have F2:=bR (st:=jJ) l2 c2 k2;have F3:=bR (st:=cV) l3 c3 k3;have F4:=bR (st:=gZ) l4 c4 k4;have F5:=bR (st:=bK) l5 c5 k5;have F6:=bR (st:=dW) l6 c6 k6;have F7:=bR (st:=cX) l7 c7 k7;have F8:=bR (st:=g_) l8 c8 k8;have F9:=bR (st:=bW) l9 c9 k9;have F10:=bR (st:=cU) l10 c10 k10;have F11:=bR (st:=gY) YS c11 k11;have F12:=bR (st:=dX) YQ c12 k12;have F13:=bR (st:=cH) YM c13 k13;have F14:=bR (st:=bL) YL c14 k14;have F15:=bR (st:=cF) YK c15 Vv;have F16:=bR (st:=cT) YJ c16 Vu;have F17:=bR (st:=cG) YH c17 Qj;have F18:=bR (st:=eY) YG c18 Vt;have F19:=bR (st:=fB) YF c19 Vs;have F20:=bR (st:=h_) YD c20 Vr;have F21:=bR (st:=bN) YC c21 Vq;have F22:=bR (st:=eZ) YB c22 Vp;have F23:=bR (st:=ig) Yz c23 Vo;have F24:=bR (st:=fu) Yy c24 Vn;have F25:=bR (st:=mz) Yx c25 Zh;refine ⟨PySem.W.fnOf "law" "law" (aH mz) (aG mz) (aq mz) .none SX T7 R3 Uw QM T9,fun s v=> .of_eq rfl,fun base _ _=> ?_⟩;have A0:FnAt l.prog w K mg base 1 "_law_spring" ["script"] (pW K):=⟨f0,_,DX F0 Bt,PySem.W.mg_of X G a0,k0,F0.binds (ps:=["script"]) Ag⟩;have A1:FnAt l.prog w K mg base 1 "_law_draw" ["spring","many"] (j9 K):=⟨f1,_,KJ F1,PySem.W.mg_of X G a1,k1,F1.binds (ps:=["spring","many"]) Js⟩;have A2:FnAt l.prog w K mg base 2 "_law_web" ["spring","most"] (Gq K):=⟨f2,_,Px F2 A1 Bt,PySem.W.mg_of X G a2,k2,F2.binds (ps:=["spring","most"]) Mi⟩;have A3:FnAt l.prog w K mg base 1 "is_whole" ["value"] (Ol K):=⟨f3,_,wD F3 Bt,PySem.W.mg_of X G a3,k3,F3.binds (ps:=["value"]) yg⟩;have A4:FnAt l.prog w K mg base 1 "names" ["web"] (lZ K):=⟨f4,_,Hu F4,PySem.W.mg_of X G a4,k4,F4.binds (ps:=["web"]) Jo⟩;have A5:FnAt l.prog w K mg base 1 "touches_meet" ["one","other"] (yZ K):=⟨f5,_,oW F5,PySem.W.mg_of X G a5,k5,F5.binds (ps:=["one","other"]) oZ⟩;have A6:FnAt l.prog w K mg base 2 "is_step" ["web","place","later"] (yX K):=⟨f6,_,zP F6 A5,PySem.W.mg_of X G a6,k6,F6.binds (ps:=["web","place","later"]) Ae⟩;have A7:FnAt l.prog w K mg base 1 "is_known" ["name","known"] (pA K):=⟨f7,_,Hw F7,PySem.W.mg_of X G a7,k7,F7.binds (ps:=["name","known"]) yh⟩;have A8:FnAt l.prog w K mg base 1 "learn" ["known","more"] (pq K):=⟨f8,_,Hv F8 Bt,PySem.W.mg_of X G a8,k8,F8.binds (ps:=["known","more"]) Jp⟩;have A9:FnAt l.prog w K mg base 3 "bare_steps" ["web","named","knowns","place"] (za K):=⟨f9,_,KQ F9 A6 A7 A8 Bt,PySem.W.mg_of X G a9,k9,F9.binds (ps:=["web","named","knowns","place"]) rQ⟩;have A10:FnAt l.prog w K mg base 1 "notes_to" ["named","bare","name"] (nu K):=⟨V0,_,zO F10,PySem.W.mg_of X G a10,k10,F10.binds (ps:=["named","bare","name"]) yd⟩;have A11:FnAt l.prog w K mg base 4 "notes" ["web"] (ur K):=⟨f11,_,Ht F11 A4 A9 A10 Bt,PySem.W.mg_of X G a11,k11,F11.binds (ps:=["web"]) Jm⟩;have A12:FnAt l.prog w K mg base 2 "is_note" ["value"] (pY K):=⟨VR,_,zQ F12 A3 Bt,PySem.W.mg_of X G a12,k12,F12.binds (ps:=["value"]) Af⟩;have A13:FnAt l.prog w K mg base 3 "is_strict" ["places","note"] (pU K):=⟨VP,_,DW F13 A12,PySem.W.mg_of X G a13,k13,F13.binds (ps:=["places","note"]) vm⟩;have A14:FnAt l.prog w K mg base 4 "check_strict" ["places","some"] (Gr K):=⟨VN,_,Pz F14 A13 Bt,PySem.W.mg_of X G a14,k14,F14.binds (ps:=["places","some"]) o7⟩;have A15:FnAt l.prog w K mg base 2 "places_of" ["web"] (pX K):=⟨VL,_,DY F15 A4 Bt,PySem.W.mg_of X G a15,Vv,F15.binds (ps:=["web"]) vg⟩;have A16:FnAt l.prog w K mg base 1 "steps_by" ["places","some"] (Om K):=⟨VJ,_,R_ F16 Bt,PySem.W.mg_of X G a16,Vu,F16.binds (ps:=["places","some"]) yc⟩;have A17:FnAt l.prog w K mg base 2 "knowns_by" ["named","steps"] (Oo K):=⟨VH,_,Sd F17 A8 Bt,PySem.W.mg_of X G a17,Qj,F17.binds (ps:=["named","steps"]) vh⟩;have A18:FnAt l.prog w K mg base 5 "enough" ["web","some"] (Oq K):=⟨VG,_,Sg F18 A15 A14 A4 A16 A17 A5 A7 Bt,PySem.W.mg_of X G a18,Vt,F18.binds (ps:=["web","some"]) Fl⟩;have A19:FnAt l.prog w K mg base 1 "_law_meets" ["one","other"] (yZ K):=⟨VF,_,D_ F19,PySem.W.mg_of X G a19,Vs,F19.binds (ps:=["one","other"]) Fq⟩;have A20:FnAt l.prog w K mg base 2 "_law_step" ["one","other"] (uw K):=⟨VD,_,Hx F20 A19,PySem.W.mg_of X G a20,Vr,F20.binds (ps:=["one","other"]) Jq⟩;have A21:FnAt l.prog w K mg base 3 "_law_free_order" ["spring","web"] (ux K):=⟨VB,_,Ea F21 A1 A20 Bt,PySem.W.mg_of X G a21,Vq,F21.binds (ps:=["spring","web"]) q_⟩;have A22:FnAt l.prog w K mg base 1 "_law_whole" ["found"] (um K):=⟨Vz,_,Hq F22 Bt,PySem.W.mg_of X G a22,Vp,F22.binds (ps:=["found"]) Fo⟩;have A23:FnAt l.prog w K mg base 2 "_law_rows" ["found","due"] (uo K):=⟨Vy,_,Hr F23 A22 Bt,PySem.W.mg_of X G a23,Vo,F23.binds (ps:=["found","due"]) Jr⟩;have A24:FnAt l.prog w K mg base 1 "_law_parts" ["web","told","cut"] (uq K):=⟨Vx,_,Hs F24 Bt,PySem.W.mg_of X G a24,Vn,F24.binds (ps:=["web","told","cut"]) Fp⟩;exact Py F25 A0 A1 A2 A11 A18 A23 A21 A24 Bt
theorem walk {l:PySem.W.OpenLaw} {q:Program} {loose:List Str} {XP:(Str->Option Value)->Heap->Prop} {YP:World->Heap->Prop} {d:DefRec} {K:Params->PySem.W.Frag} (hn:l.most=some 63) (hdf:d.params.defaults=[])
 (hY:∀(w:World) (h:Heap),YP w h->(K w.params).In h)
 (F:∀(w:World) (mg:Str->Option Value) (fa:Addr) (h:Heap),(K w.params).In h->h.Ns mainGlobals mg->mg d.name=some (.ref fa) ->
   ∃fd:FuncData,(∀(s:Shared) (u:Value),BindsTo s fd ⟨[u],[]⟩ [("script",u)]) /\ ∀base:Heap,(K w.params).In base->base.Ns mainGlobals mg->dR l.prog w (K w.params) mg base lC 6 fa fd ["script"] (Bd (K w.params))):
 PySem.W.WalkO q loose XP YP l.row.toRowW d [] (fun f vs=>PySem.call f vs):=
 L2.JT (n:=63) (k:=6) (x:= "script") (CX:=fun _=>lC) (sp:=fun w=>Bd (K w.params)) hn (by decide) hdf ⟨rfl,by decide,by decide⟩ hY F (fun _ _ a ns hl _ hS=>⟨a,ns,rfl,hS,hl,fun _=>rfl⟩) fun _ _ _ _ _ z=>z
end Prf
namespace PySem.W.Fast
def tw7409686254709375705:=()
def tw16937744890339433312:=()
def tw4483076091449536250:=()
def tw11880186478633934264:=()
def tw8893561101430746603:=()
def tw10809165740081084864:=()
def tw6995237548722403358:=()
def tw14156676264728179496:=()
def tw12731081761876038365:=()
def tw9377790182860153304:=()
def tw8735582717138407965:=()
def tw15791701968705547721:=()
def tw592917210760939335:=()
def tw11192620297876256713:=()
def tw8080630184286632675:=()
def tw9182159400628399417:=()
def tw1560502794493025621:=()
def tw1980599703572659208:=()
def tw4037653368343448797:=()
def tw9860698197732945593:=()
def tw12900447516333665956:=()
def tw3824778616214163413:=()
def tw8416582073310129682:=()
def tw14348392709963491700:=()
def tw9683853789817375794:=()
def tw4517449682056323320:=()
def tw15718119562082125682:=()
def tw650428178171953219:=()
def tw15431416041063523843:=()
def tw2345675170368295378:=()
def tw2198863119395619873:=()
def tw4168012203488419912:=()
def tw17923899872515082949:=()
def tw3878714649430814177:=()
def tw1819738167727902072:=()
def tw4158781467444927883:=()
def tw11137390973117625182:=()
def tw12726513714909004076:=()
def tw5234273027751827147:=()
def tw1204580255685551216:=()
def tw1232825030800627255:=()
def tw18196523948818657555:=()
def tw8183346328281447192:=()
def tw921137960403616245:=()
def tw13809313652478875262:=()
def tw15049305980060643502:=()
def tw5051564742923541634:=()
def tw3834872471411622954:=()
def tw4337647078591656657:=()
def tw5573565707481348175:=()
def tw15232110141675780781:=()
def tw16349691145289312081:=()
def tw1373219331156430405:=()
def tw5400451885509190824:=()
def tw3122491184617375109:=()
def tw3664156317497247390:=()
def tw1385695003850398094:=()
def tw16967435315529134209:=()
def tw10793212333857111215:=()
def tw12753374249361999239:=()
def tw17358664579418463508:=()
def tw8130145185575527814:=()
def tw9425248759442581617:=()
def tw2491014953542834781:=()
def tw1082856613058544807:=()
def tw7498831808295592525:=()
def tw9798404127760664083:=()
def tw5079021943027026:=()
def tw13476668370594106008:=()
def tw14073226431636107188:=()
def tw11469038016442121110:=()
def tw9538624926253049000:=()
def tw2666940981938145124:=()
def tw14088609031809731273:=()
def tw2431653878103946091:=()
def tw9618972621557449308:=()
def tw4928431724805095294:=()
def tw12771354186332484529:=()
def tw17446555281346195325:=()
def tw16956942071741300601:=()
def tw3341660802403167446:=()
def tw1169387239028040487:=()
def tw10312303556345530884:=()
def tw15867800173880293033:=()
def tw8246472769088015373:=()
def tw10756646381130202035:=()
def tw1047624040981675615:=()
def tw12712353910183978627:=()
def tw88559333622263324:=()
def tw18381198418101607643:=()
def tw10771647861416195678:=()
def tw2859845692931155886:=()
def tw4346474816234171833:=()
def tw10168992872676922325:=()
def tw11358514688413579188:=()
def tw7252762136939185253:=()
def tw8741886747837660613:=()
def tw16115120257141214450:=()
def tw294552527498698976:=()
def tw10078611200098263937:=()
def tw1380523140273941941:=()
def tw4439703209644813672:=()
def tw11027072455178678937:=()
def tw3348639775449173978:=()
def tw16266869536746832128:=()
def tw14632383356600850:=()
def tw16796387607152390758:=()
def tw6661462422716196048:=()
def tw10668245628510820374:=()
def tw9406143141198111093:=()
def tw14919796785718764212:=()
def tw7466976898862701645:=()
def tw8928892305284118096:=()
def tw10033963580718931581:=()
def tw3542540114140779742:=()
def tw1648631348728552833:=()
def tw14587541094263703578:=()
def tw1554215957010277368:=()
def tw6527213591349761166:=()
def tw9609767350910706958:=()
def tw11255459222887599647:=()
def tw15240586459718493813:=()
def tw10152581373563613482:=()
def tw9716708556539008567:=()
def tw3827092023309736719:=()
def tw13638295888965700771:=()
def tw8931295664202075014:=()
def tw2706826444090159023:=()
def tw3755985345544218658:=()
def tw3032196481642371214:=()
def tw2621492356355324375:=()
def tw870086411668329168:=()
def tw9076404775132911134:=()
def tw7421766857048296811:=()
def tw10394467521816328876:=()
def tw12360410225736264810:=()
def tw142059612398652130:=()
def tw15659876542113585152:=()
def tw14456436009710166724:=()
def tw2278071277019474074:=()
def tw11203009399286791127:=()
def tw2832109308141146667:=()
def tw9647473774916950986:=()
def tw13856632747007686514:=()
def tw15768373057897167299:=()
def tw14283242271009479318:=()
def tw5256872142286913639:=()
def tw601572641726940652:=()
def tw895841724255801365:=()
def tw16630478105834123678:=()
def tw3342042500050128072:=()
def tw5954911010848848451:=()
def tw9530952946319677605:=()
def tw10057298063072173072:=()
def tw13837560735120033063:=()
def tw11711348776390244595:=()
def tw6736818078156319937:=()
def tw16017721982150132638:=()
def tw6457229670584411345:=()
def tw2970665249132890076:=()
def tw17319366862927211978:=()
def tw259452485471967650:=()
def tw17046580859579259491:=()
def tw11208614272379110827:=()
def tw9767688875634367862:=()
def tw12143701039439428016:=()
def tw13003949124865826034:=()
def tw15972219249778674150:=()
def tw5600675884425190848:=()
def tw13008086761277241838:=()
def tw18187187454541778231:=()
def tw16430774304303511972:=()
def tw16962080142583074737:=()
def tw12272337273882685421:=()
def tw11092264771432395157:=()
def tw5041180988644387909:=()
def tw4952598655227549362:=()
def tw7169602403833120663:=()
def tw4164058159185259681:=()
def tw702294756888665645:=()
def tw14105553118631647141:=()
def tw2295937881929138969:=()
def tw10138074497113388089:=()
def tw15811660122445086542:=()
def tw8502384563685875939:=()
end PySem.W.Fast
open PySem PySem.W PyProof.Rows
set_option maxRecDepth 100000 in
set_option maxHeartbeats 0 in
theorem PySem.Challenge.cw_fewnotes_k29_whole_notes_in_other_orders_holds : PySem.Challenge.rw_fewnotes_k29_whole_notes_in_other_orders.Holds := by
 w_on;o_law;k_head;(case hw=>w_witness2)
 k_fill
 refine Prf.walk (l:=PySem.Challenge.rw_fewnotes_k29_whole_notes_in_other_orders) rfl rfl (fun w h Y=>PySem.W.kIn_of Y) ?F
 case F=>
  intro w mg fa h KX G hmg
  replace hmg:mg (Str.ofString "law")=some (.ref fa):=hmg
  refine' Prf.all_mk KX G hmg ?a0 ?l0 ?c0 ?k0 ?a1 ?l1 ?c1 ?k1 ?a2 ?l2 ?c2 ?k2 ?a3 ?l3 ?c3 ?k3 ?a4 ?l4 ?c4 ?k4 ?a5 ?l5 ?c5 ?k5 ?a6 ?l6 ?c6 ?k6 ?a7 ?l7 ?c7 ?k7 ?a8 ?l8 ?c8 ?k8 ?a9 ?l9 ?c9 ?k9 ?a10 ?l10 ?c10 ?k10 ?a11 ?YS ?c11 ?k11 ?a12 ?YQ ?c12 ?k12 ?a13 ?YM ?c13 ?k13 ?a14 ?YL ?c14 ?k14 ?a15 ?YK ?c15 ?Vv ?a16 ?YJ ?c16 ?Vu ?a17 ?YH ?c17 ?Qj ?a18 ?YG ?c18 ?Vt ?a19 ?YF ?c19 ?Vs ?a20 ?YD ?c20 ?Vr ?a21 ?YC ?c21 ?Vq ?a22 ?YB ?c22 ?Vp ?a23 ?Yz ?c23 ?Vo ?a24 ?Yy ?c24 ?Vn ?a25 ?Yx ?c25 ?Zh ?jE ?Gg ?Gf ?Ge ?yN ?j5 ?Gd ?jD ?Gb ?yM ?Ga ?FZ ?t_ ?FW ?pL ?tZ
  (case a0=>k_is)
  (case l0=>k_is)
  (case c0=>k_is)
  (case k0=>k_is)
  (case a1=>k_is)
  (case l1=>k_is)
  (case c1=>k_is)
  (case k1=>k_is)
  (case a2=>k_is)
  (case l2=>k_is)
  (case c2=>k_is)
  (case k2=>k_is)
  (case a3=>k_is)
  (case l3=>k_is)
  (case c3=>k_is)
  (case k3=>k_is)
  (case a4=>k_is)
  (case l4=>k_is)
  (case c4=>k_is)
  (case k4=>k_is)
  (case a5=>k_is)
  (case l5=>k_is)
  (case c5=>k_is)
  (case k5=>k_is)
  (case a6=>k_is)
  (case l6=>k_is)
  (case c6=>k_is)
  (case k6=>k_is)
  (case a7=>k_is)
  (case l7=>k_is)
  (case c7=>k_is)
  (case k7=>k_is)
  (case a8=>k_is)
  (case l8=>k_is)
  (case c8=>k_is)
  (case k8=>k_is)
  (case a9=>k_is)
  (case l9=>k_is)
  (case c9=>k_is)
  (case k9=>k_is)
  (case a10=>k_is)
  (case l10=>k_is)
  (case c10=>k_is)
  (case k10=>k_is)
  (case a11=>k_is)
  (case YS=>k_is)
  (case c11=>k_is)
  (case k11=>k_is)
  (case a12=>k_is)
  (case YQ=>k_is)
  (case c12=>k_is)
  (case k12=>k_is)
  (case a13=>k_is)
  (case YM=>k_is)
  (case c13=>k_is)
  (case k13=>k_is)
  (case a14=>k_is)
  (case YL=>k_is)
  (case c14=>k_is)
  (case k14=>k_is)
  (case a15=>k_is)
  (case YK=>k_is)
  (case c15=>k_is)
  (case Vv=>k_is)
  (case a16=>k_is)
  (case YJ=>k_is)
  (case c16=>k_is)
  (case Vu=>k_is)
  (case a17=>k_is)
  (case YH=>k_is)
  (case c17=>k_is)
  (case Qj=>k_is)
  (case a18=>k_is)
  (case YG=>k_is)
  (case c18=>k_is)
  (case Vt=>k_is)
  (case a19=>k_is)
  (case YF=>k_is)
  (case c19=>k_is)
  (case Vs=>k_is)
  (case a20=>k_is)
  (case YD=>k_is)
  (case c20=>k_is)
  (case Vr=>k_is)
  (case a21=>k_is)
  (case YC=>k_is)
  (case c21=>k_is)
  (case Vq=>k_is)
  (case a22=>k_is)
  (case YB=>k_is)
  (case c22=>k_is)
  (case Vp=>k_is)
  (case a23=>k_is)
  (case Yz=>k_is)
  (case c23=>k_is)
  (case Vo=>k_is)
  (case a24=>k_is)
  (case Yy=>k_is)
  (case c24=>k_is)
  (case Vn=>k_is)
  (case a25=>k_is)
  (case Yx=>k_is)
  (case c25=>k_is)
  (case Zh=>k_is)
  (case jE=>k_is)
  (case Gg=>k_is)
  (case Gf=>k_is)
  (case Ge=>k_is)
  (case yN=>k_is)
  (case j5=>k_is)
  (case Gd=>k_is)
  (case jD=>k_is)
  (case Gb=>k_is)
  (case yM=>k_is)
  (case Ga=>k_is)
  (case FZ=>k_is)
  (case t_=>k_is)
  (case FW=>k_is)
  (case pL=>k_is)
  (case tZ=>k_is)
#print axioms PySem.Challenge.cw_fewnotes_k29_whole_notes_in_other_orders_holds
