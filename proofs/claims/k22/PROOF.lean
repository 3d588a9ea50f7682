import PyProof.Rows.All
import Wide.All
import OpenK.AllK
import Wide.FinOn
import Lean
import PyProof.EqAt
import PyProof.EqKinds
import PyProof.TupleCall
import PyProof.EqLayable
import PyProof.ExcArgsOwn
import PyProof.ExcAttrAll.Exception
import PyProof.RulesAs
import PyProof.ExcBaseAll.ValueError
import PyProof.NsDelKeeps
import KE.KRevSl
import OpenK.KOps
import OpenK.KWalk
import PyProof.TupleIter
import PyProof.ZipIter
import PySem.Challenge.RW_fewnotes_k22_whole_other_orders_tell_the
set_option Elab.async false
set_option linter.all false
set_option maxRecDepth 100000
namespace L2
open PySem PySem.Spec PyProof.Rows
abbrev Key:=Sum Int Str
def RG:Key->Value->Bool
 | .inl k,v=>Value.isInt k v
 | .inr x,v=>Value.isStrOf x v
def aeL (w:World):Key->Int
 | .inl k=>hashInt k
 | .inr x=>hashStr w x
theorem d9:∀{k:Key} {v:Value},RG k v=true->(∃i t,k=Sum.inl i/\v=Value.int i t)\/(∃x t,k=Sum.inr x/\v=Value.str x t)
 | .inl i,v,h=>by
   obtain ⟨t,e⟩:=Value.isInt_shape (k:=i) (v:=v) h;exact .inl ⟨i,t,rfl,e⟩
 | .inr x,v,h=>by
   obtain ⟨t,e⟩:=Value.isStrOf_shape (x:=x) (v:=v) h;exact .inr ⟨x,t,rfl,e⟩
theorem U0 (a b:Int):decide ((Sum.inl a:Key)=Sum.inl b)=(a==b):=by
 by_cases e:a=b
 ·subst e;simp
 ·have h:¬(Sum.inl a:Key)=Sum.inl b:=fun q=>e (Sum.inl.inj q)
  rw [decide_eq_false h];exact (beq_eq_false_iff_ne.mpr e).symm
theorem UJ (a b:Str):decide ((Sum.inr a:Key)=Sum.inr b)=decide (a=b):=by
 by_cases e:a=b
 ·subst e;simp
 ·have h:¬(Sum.inr a:Key)=Sum.inr b:=fun q=>e (Sum.inr.inj q)
  rw [decide_eq_false h,decide_eq_false e]
theorem UW (a:Int) (b:Str):decide ((Sum.inl a:Key)=Sum.inr b)=false:=decide_eq_false (fun q=>nomatch q)
theorem UL (a:Str) (b:Int):decide ((Sum.inr a:Key)=Sum.inl b)=false:=decide_eq_false (fun q=>nomatch q)
def HS (prog:Program) (w:World):PySem.KeyKind prog w Key where
 is:=RG
 hash:=aeL w
 inj:=fun v a b ha hb=>by
  rcases d9 ha with ⟨i,t,rfl,rfl⟩|⟨x,t,rfl,rfl⟩
  ·rcases d9 hb with ⟨j,u,rfl,e⟩|⟨y,u,rfl,e⟩
   ·injection e with e1 _;rw [e1]
   ·exact nomatch e
  ·rcases d9 hb with ⟨j,u,rfl,e⟩|⟨y,u,rfl,e⟩
   ·exact nomatch e
   ·injection e with e1 _;rw [e1]
 byValue:=fun k v h=>by
  rcases d9 h with ⟨i,t,rfl,rfl⟩|⟨x,t,rfl,rfl⟩<;>rfl
 pyHash:=fun hv h=>by
  rcases d9 hv with ⟨i,t,rfl,rfl⟩|⟨x,t,rfl,rfl⟩
  ·exact wpAny_pyHash_int h
  ·exact wpAny_pyHash_str h
 eqBool:=fun hu hv h=>by
  rcases d9 hu with ⟨i,t,rfl,rfl⟩|⟨x,t,rfl,rfl⟩
  ·rcases d9 hv with ⟨j,u,rfl,rfl⟩|⟨y,u,rfl,rfl⟩
   ·rw [U0] at h;exact wpAny_eqBool_int h
   ·rw [UW] at h;exact SeqAt.EqAt.int_str i t y u _ _ _ _ h
  ·rcases d9 hv with ⟨j,u,rfl,rfl⟩|⟨y,u,rfl,rfl⟩
   ·rw [UL] at h;exact SeqAt.EqAt.str_int x t j u _ _ _ _ h
   ·rw [UJ] at h;exact wpAny_eqBool_str h
 «strs» :=fun k x t v h=>by
  rcases d9 h with ⟨i,u,rfl,e⟩|⟨y,u,rfl,e⟩
  ·exact nomatch e
  ·injection e with e1 _
   subst e1;cases v<;>rfl
end L2
namespace L2
open PySem PySem.Spec PyProof.Rows
inductive V where
 | non|bl (b:Bool)|int (i:Int)|str (x:Str)|J5 (b:Array UInt8)|flt (b:UInt64)|ref (a:Addr)|ty (n:String)
 deriving DecidableEq
def RelV:V->Value->Prop
 | .non,u=>u=Value.none
 | .bl b,u=>u=Value.bool b
 | .int i,u=>∃t,u=Value.int i t
 | .str x,u=>∃t,u=Value.str x t
 | .J5 b,u=>∃t,u=Value.bytes b t
 | .flt b,u=>∃t,u=Value.float b t
 | .ref a,u=>u=Value.ref a
 | .ty n,u=>u=Value.type n
abbrev Vals:List V->List Value->Prop:=Paired RelV
theorem Vals.length {xs:List V} {us:List Value} (r:Vals xs us):xs.length=us.length:=Paired.length r
theorem Vals.get:∀{xs:List V} {us:List Value} {i:Nat} {x:V},Vals xs us->xs[i]? = some x -> ∃u,us[i]? = some u/\RelV x u
 | _,_,_,_,.nil,e=>by simp at e
 | _,_,0,_,.cons r _,e=>by simp at e;subst e;exact ⟨_,rfl,r⟩
 | _,_,i+1,x,.cons _ t,e=>by
   obtain ⟨u,h1,h2⟩:=Vals.get (i:=i) (x:=x) t (by simpa using e);exact ⟨u,by simpa using h1,h2⟩
theorem Vals.set {x:V} {u:Value} (r:RelV x u):∀{xs:List V} {us:List Value} (i:Nat),Vals xs us->Vals (xs.set i x) (us.set i u)
 | _,_,_,.nil=> .nil
 | _,_,0,.cons _ t=> .cons r t
 | _,_,i+1,.cons q t=> .cons q (Vals.set r i t)
theorem Vals.append {xs ys:List V} {us ws:List Value} (h:Vals xs us) (s:Vals ys ws):Vals (xs++ys) (us++ws):=by
 induction h with
 | nil=>exact s
 | cons r t ih=>exact .cons r ih
theorem Vals.take:∀{xs:List V} {us:List Value} (n:Nat),Vals xs us->Vals (xs.take n) (us.take n)
 | _,_,0,_=> .nil
 | _,_,_+1,.nil=> .nil
 | _,_,n+1,.cons r t=> .cons r (Vals.take n t)
theorem Vals.drop:∀{xs:List V} {us:List Value} (n:Nat),Vals xs us->Vals (xs.drop n) (us.drop n)
 | _,_,0,r=>r
 | _,_,_+1,.nil=> .nil
 | _,_,n+1,.cons _ t=>Vals.drop n t
def yq:Option V->Option Value->Prop
 | some v,some u=>RelV v u
 | none,none=>True
 | _,_=>False
def KV {κ:Type}:List (κ×V)->List (κ×Value)->Prop:=Paired fun (p:κ×V) (q:κ×Value)=>p.1=q.1/\RelV p.2 q.2
def kV:Key->V
 | .inl i=> .int i
 | .inr x=> .str x
inductive HO where
 | lst (xs:List V)
 | tup (xs:List V)
 | dK (kvs:List (Key×V))|dT (kvs:List (List Key×V))
 | set (S:Int->Bool) (n:Nat)
 | ins (C dx:Addr) (fs:List (Str×V))
 | own (x:Addr)
 | xd (fs:List (Str×V))
 | met (f x:Addr)
 | rng (lo hi:Int)
 | Ai (o:Obj) (u:HO)
 | Rn (ps:Array Value)
 | ext (φ:Heap->Prop)
abbrev Hp:=Addr->Option HO
def upd (H:Hp) (a:Addr) (o:HO):Hp:=fun b=>if b=a then some o else H b
theorem aq {H:Hp} {a:Addr} {o:HO}:upd H a o a=some o:=by unfold upd;rw [if_pos rfl]
theorem aF {H:Hp} {a b:Addr} {o:HO} (h:b≠a):upd H a o b=H b:=by unfold upd;rw [if_neg h]
theorem Pk {H:Hp} {a:Addr} {o u:HO}:upd (upd H a o) a u=upd H a u:=by
 funext b;unfold upd;split<;>rfl
theorem eO {H:Hp} {a b:Addr} {o u:HO} (h:H a=some o) (h':H b=some u) (d:o≠u):a≠b:=by
 intro e;subst e;rw [h] at h';exact d (Option.some.inj h')
theorem aD {H:Hp} {a b:Addr} {o:HO} (h:H a=some o) (h':H b=none):a≠b:=by
 intro e;subst e;rw [h] at h';cases h'
section
variable (P:Program) (w:World)
def fM (H:Hp) (h:Heap) (a:Addr):HO->Prop
 | .lst xs=>xs.length<=sizeLine /\ ∃(its:List Value) (n:Nat),Vals xs its/\h.get? a=some {cls:= .type "list",data:= .seq its.toArray n}
 | .tup xs=>xs.length<=sizeLine /\ ∃its:List Value,Vals xs its/\IsTup h a its.toArray
 | .dK kvs=>kvs.length<=sizeLine/\(a==sysModules)=false /\ ∃vs,KV kvs vs/\h.DictOf (HS P w) a vs
 | .dT kvs=>kvs.length<=sizeLine/\(a==sysModules)=false /\ ∃xs:List (List Key×Addr×Value),
    Paired (fun (p:List Key×V) (q:List Key×Addr×Value)=>p.1=q.1/\H q.2.1=some (.tup (p.1.map kV))/\RelV p.2 q.2.2) kvs xs /\
    ∃o es ep,h.get? a=some o/\o.ExactDict/\o.data = .dict es ep/\es.toList=xs.map (entryOfKey (tupleKind (HS P w)))/\(xs.map (·.1)).Nodup
 | .set S n=>h.SetOf (intKind P w) a S n
 | .ins C dx fs=>H dx=some (.own a)/\fs.length<=1000/\dx≠a/\h.get? a=some (PySem.W.instObj C dx) /\
    ∃mA,h.Ns1 dx mA/\(∀f,yq (fs.lookup f) (mA f))/\PySem.Within mA (fs.map (·.1))
 | .own _=>∃o,h.get? a=some o
 | .xd fs=>∃mA,h.Ns1 a mA /\ ∀f,yq (fs.lookup f) (mA f)
 | .rng lo hi=>∃t u v,h.get? a=some {cls:= .type "range",data:= .fields #[.int lo t,.int hi u,.int 1 v]}
 | .Ai o u=>h.get? a=some o/\fM H h a u
 | .Rn ps=>h.get? a=some {cls:= .none,data:= .fields ps}
 | .met f x=>h.get? a=some (PySem.W.methodObj (.ref f) (.ref x))
 | .ext φ=>φ h/\(∃o,h.get? a=some o) /\ ∀h1 h2:Heap,φ h1->(∀o,h1.get? a=some o->h2.get? a=some o)->φ h2
def q_ (H:Hp) (h:Heap):Prop:=∀a o,H a=some o->fM P w H h a o
end
section
variable {P:Program} {w:World} {H H':Hp} {h h':Heap} {a:Addr} {o:HO}
theorem fM.lt (x:fM P w H h a o):a<h.objs.size:=by
 cases o with
 | lst xs=>obtain ⟨_,_,_,_,e⟩:=x;exact Heap.lt_size e
 | tup xs=>obtain ⟨_,_,_,p⟩:=x;exact p.lt
 | dK kvs=>obtain ⟨_,_,_,_,o,_,_,e,_⟩:=x;exact Heap.lt_size e
 | dT kvs=>obtain ⟨_,_,_,_,o,_,_,e,_⟩:=x;exact Heap.lt_size e
 | set S n=>obtain ⟨o,_,_,_,e,_⟩:=x;exact Heap.lt_size e
 | ins C dx fs=>obtain ⟨_,_,_,e,_⟩:=x;exact Heap.lt_size e
 | own y=>obtain ⟨_,e⟩:=x;exact Heap.lt_size e
 | xd fs=>obtain ⟨_,⟨_,_,_,e,_⟩,_⟩:=x;exact Heap.lt_size e
 | rng lo hi=>obtain ⟨_,_,_,e⟩:=x;exact Heap.lt_size e
 | Ai ob u=>obtain ⟨e,_⟩:=x;exact Heap.lt_size e
 | Rn ps=>exact Heap.lt_size (show h.get? a=some _ from x)
 | met f y=>exact Heap.lt_size (show h.get? a=some _ from x)
 | ext φ=>obtain ⟨_,⟨_,e⟩,_⟩:=x;exact Heap.lt_size e
theorem Paired.aea {α β:Type} {F G:α->β->Prop}:∀{l₁:List α} {l₂:List β},Paired F l₁ l₂->(∀a b,F a b->G a b)->Paired G l₁ l₂
 :=by
 intro l₁ l₂ h f
 induction h with
 | nil=>exact .nil
 | cons r t ih=>exact .cons (f _ _ r) ih
theorem fM.stay (x:fM P w H h a o) (k:∀b u,(b=a\/H b=some (.own a))->h.get? b=some u->h'.get? b=some u)
 (ho:∀b,H b=some (.own a)->H' b=some (.own a)) (ht:∀b xs,H b=some (.tup xs)->H' b=some (.tup xs)):fM P w H' h' a o:=by
 induction o with
 | lst xs=>obtain ⟨z,its,n,r,e⟩:=x;exact ⟨z,its,n,r,k _ _ (.inl rfl) e⟩
 | tup xs=>obtain ⟨z,its,r,ob,e,c⟩:=x;exact ⟨z,its,r,ob,k _ _ (.inl rfl) e,c⟩
 | dK kvs=>obtain ⟨z,y,vs,r,ob,es,ep,e,c⟩:=x;exact ⟨z,y,vs,r,ob,es,ep,k _ _ (.inl rfl) e,c⟩
 | dT kvs=>
   obtain ⟨z,y,xs,r,ob,es,ep,e,c⟩:=x;exact ⟨z,y,xs,Paired.aea r fun p q z=>⟨z.1,ht _ _ z.2.1,z.2.2⟩,ob,es,ep,k _ _ (.inl rfl) e,c⟩
 | set S n=>obtain ⟨ob,es,ep,t,e,c⟩:=x;exact ⟨ob,es,ep,t,k _ _ (.inl rfl) e,c⟩
 | ins C dx fs=>
   obtain ⟨d,z,ne,e,mA,⟨od,es,ep,e2,c⟩,r⟩:=x;exact ⟨ho _ d,z,ne,k _ _ (.inl rfl) e,mA,⟨od,es,ep,k _ _ (.inr d) e2,c⟩,r⟩
 | own y=>obtain ⟨ob,e⟩:=x;exact ⟨ob,k _ _ (.inl rfl) e⟩
 | xd fs=>obtain ⟨mA,⟨od,es,ep,e,c⟩,r⟩:=x;exact ⟨mA,⟨od,es,ep,k _ _ (.inl rfl) e,c⟩,r⟩
 | rng lo hi=>obtain ⟨t,u,v,e⟩:=x;exact ⟨t,u,v,k _ _ (.inl rfl) e⟩
 | Ai ob u ih=>obtain ⟨e,q⟩:=x;exact ⟨k _ _ (.inl rfl) e,ih q⟩
 | Rn ps=>
   have e:h.get? a=some {cls:= .none,data:= .fields ps}:=x;show h'.get? a=some {cls:= .none,data:= .fields ps};exact k a _ (.inl rfl) e
 | met f y=>
   have e:h.get? a=some (PySem.W.methodObj (.ref f) (.ref y)):=x;show h'.get? a=some (PySem.W.methodObj (.ref f) (.ref y));exact k a _ (.inl rfl) e
 | ext φ=>obtain ⟨p,⟨o,e⟩,st⟩:=x;exact ⟨st _ _ p fun o q=>k _ _ (.inl rfl) q,⟨o,k _ _ (.inl rfl) e⟩,st⟩
theorem q_.lt (x:q_ P w H h) (e:H a=some o):a<h.objs.size:=(x a o e).lt
theorem q_.fresh (x:q_ P w H h) (e:h.objs.size<=a):H a=none:=by
 cases q:H a with
 | none=>rfl
 | some u=>exact absurd (Nat.lt_of_lt_of_le (x.lt q) e) (Nat.lt_irrefl _)
theorem q_.kept (x:q_ P w H h) (k:∀b u,h.get? b=some u->h'.get? b=some u):q_ P w H h':=fun a o e=>
 (x a o e).stay (fun b u _ q=>k b u q) (fun _ q=>q) fun _ _ q=>q
theorem q_.laid (x:q_ P w H h) (k:∀b u,h.get? b=some u->h'.get? b=some u) (hp:h.objs.size<=a) (new:fM P w (upd H a o) h' a o):q_ P w (upd H a o) h':=fun b u e=>by
 have hn:=x.fresh hp
 by_cases hb:b=a
 ·subst hb;rw [aq] at e;cases e;exact new
 ·rw [aF hb] at e
  exact (x b u e).stay (fun c v _ q=>k c v q) (fun c q=>by rw [aF (aD q hn)];exact q) fun c xs q=>by rw [aF (aD q hn)];exact q
end
def Rd (H:Hp) (a:Addr) (u:HO):Prop:=H a=some u \/ ∃o,H a=some (.Ai o u)
theorem Rd.ok {P:Program} {w:World} {H:Hp} {h:Heap} {a:Addr} {u:HO} (r:Rd H a u) (x:q_ P w H h):fM P w H h a u:=by
 rcases r with r|⟨o,r⟩
 ·exact x a u r
 ·obtain ⟨_,q⟩:=x a _ r
  exact q
def Mut:Option HO->Prop
 | some (.lst _)=>True
 | some (.dK _)=>True
 | some (.dT _)=>True
 | some (.set _ _)=>True
 | some (.ins _ _ _)=>True
 | some (.ext _)=>True
 | _=>False
section
variable {P:Program} {w:World} {H:Hp} {h h':Heap} {x e:Addr} {o':HO}
theorem q_.write (ok:q_ P w H h) (mu:Mut (H x)) (he:e=x\/H e=some (.own x)) (k:∀b u,b≠e->h.get? b=some u->h'.get? b=some u) (heo:∃u,h'.get? e=some u)
 (new:fM P w (upd H x o') h' x o'):q_ P w (upd H x o') h':=fun b u q=>by
 have Xy:∀c y,H c=some (.own y)->c≠x:=fun c y r z=>by subst z;rw [r] at mu;exact mu
 have adW:∀c xs,H c=some (.tup xs)->c≠x:=fun c xs r z=>by subst z;rw [r] at mu;exact mu
 by_cases hb:b=x
 ·subst hb;rw [aq] at q;cases q;exact new
 ·rw [aF hb] at q
  by_cases hbe:b=e
  ·have q':H b=some (.own x):=by
    rcases he with z|z
    ·exact absurd (hbe.trans z) hb
    ·rw [hbe];exact z
   rw [q] at q';cases q';obtain ⟨v,hv⟩:=heo;exact ⟨v,by rw [hbe];exact hv⟩
  ·refine (ok b u q).stay (fun c v hc r=>k c v ?_ r) (fun c r=>by rw [aF (Xy c b r)];exact r) fun c xs r=>by rw [aF (adW c xs r)];exact r
   rcases hc with rfl|hc
   ·exact hbe
   ·rintro rfl
    rcases he with z|z
    ·exact Xy c b hc z
    ·rw [hc] at z;cases z;exact hb rfl
end
structure Un (fs ex:List Addr) (H H':Hp) (h h':Heap):Prop where
 keep:∀b o,h.get? b=some o->H b=none->b∉fs->b∉ex->h'.get? b=some o
 slot:∀b o,h.get? b=some o->H b=none->b∈fs->b∉ex -> ∃sl,h'.get? b=some {o with slots:=sl}
 free:∀b o,h.get? b=some o->H b=none->b∉ex->H' b=none
 there:∀b o,h.get? b=some o->b∉ex -> ∃o',h'.get? b=some o'
 tups:∀b xs,H b=some (.tup xs)->H' b=some (.tup xs)
 uE:∀b o u,H b=some (.Ai o u)->H' b=some (.Ai o u)
 vK:∀b ps,H b=some (.Rn ps) -> ∃more,H' b=some (.Rn (ps++more))
section
variable {fs fs' ex ex':List Addr} {H H1 H2:Hp} {h h1 h2 h':Heap} {a x e:Addr} {o:HO}
theorem Un.any (u:Un fs ex H H1 h h1) {b:Addr} {ob:Obj} (q:h.get? b=some ob) (n:H b=none) (hx:b∉ex):∃sl,h1.get? b=some {ob with slots:=sl}:=by
 by_cases hb:b∈fs
 ·exact u.slot b ob q n hb hx
 ·exact ⟨ob.slots,u.keep b ob q n hb hx⟩
theorem Un.kept (k:∀b u,h.get? b=some u->h'.get? b=some u):Un fs ex H H h h':=
 ⟨fun b ob q _ _ _=>k b ob q,fun b ob q _ _ _=>⟨ob.slots,k b ob q⟩,fun _ _ _ n _=>n,fun b ob q _=>⟨ob,k b ob q⟩,fun _ _ q=>q,fun _ _ _ q=>q,fun _ ps q=>⟨#[],by rw [q];simp⟩⟩
theorem Un.refl:Un fs ex H H h h:=Un.kept fun _ _ q=>q
theorem Un.laid (k:∀b u,h.get? b=some u->h'.get? b=some u) (hp:h.objs.size<=a) (hn:H a=none):Un fs ex H (upd H a o) h h' where
 keep:=fun b u q _ _ _=>k b u q
 slot:=fun b u q _ _ _=>⟨u.slots,k b u q⟩
 free:=fun b u q n _=>by rw [aF (Nat.ne_of_lt (Nat.lt_of_lt_of_le (Heap.lt_size q) hp))];exact n
 there:=fun b u q _=>⟨u,k b u q⟩
 tups:=fun b xs q=>by rw [aF (aD q hn)];exact q
 uE:=fun b u xs q=>by rw [aF (aD q hn)];exact q
 vK:=fun b ps q=>⟨#[],by rw [aF (aD q hn),q];simp⟩
theorem Un.write (mu:Mut (H x)) (he:e=x\/H e=some (.own x)) (k:∀b u,b≠e->h.get? b=some u->h'.get? b=some u) (heo:∃u,h'.get? e=some u):Un fs ex H (upd H x o) h h':=by
 have hx:∀b,H b=none->b≠x:=fun b n z=>by subst z;rw [n] at mu;exact mu
 have hb:∀b,H b=none->b≠e:=fun b n z=>by
  subst z;rcases he with r|r
  ·exact hx b n r
  ·rw [n] at r;cases r
 have hm:∀b u,H b=some u -> ¬Mut (some u)->b≠x:=fun b u q nm z=>by subst z;rw [q] at mu;exact nm mu
 refine ⟨fun b u q n _ _=>k b u (hb b n) q,fun b u q n _ _=>⟨u.slots,k b u (hb b n) q⟩,fun b u q n _=>by rw [aF (hx b n)];exact n,fun b u q _=> ?_,
  fun b xs q=>by rw [aF (hm b _ q fun z=>z)];exact q,fun b u xs q=>by rw [aF (hm b _ q fun z=>z)];exact q,fun b ps q=>⟨#[],by rw [aF (hm b _ q fun z=>z),q];simp⟩⟩
 by_cases hbe:b=e
 ·subst hbe;exact heo
 ·exact ⟨u,k b u hbe q⟩
end
def Te (h:Heap) (H:Hp):List Addr:=(List.range h.objs.size).filter fun a=>(H a).isSome
def Af (h:Heap) (H:Hp):Heap:=PySem.W.hideAll h (Te h H)
theorem JM (h:Heap) (H:Hp):(Af h H).objs.size=h.objs.size:=PySem.W.hideAll_size _ _
theorem Nt {h:Heap} {H:Hp} {b:Addr} {o:Obj} (e:h.get? b=some o) (n:H b=none):(Af h H).get? b=some o:=
 PySem.W.hideAll_get _ e fun hm=>by
  have q:(H b).isSome=true:=(List.mem_filter.mp hm).2;rw [n] at q;simp at q
theorem Qy {h:Heap} {H:Hp} {b:Addr} {o:Obj} (e:(Af h H).get? b=some o):h.get? b=some o/\H b=none:=by
 have e':h.get? b=some o:=PySem.W.of_hideAll (Te h H) e;refine ⟨e', ?_⟩;cases q:H b with
 | none=>rfl
 | some x=>
   have hm:b∈Te h H:=List.mem_filter.mpr ⟨List.mem_range.mpr (Heap.lt_size e'),by simp [q]⟩;have z:(Af h H).get? b=none:=PySem.W.hideAll_none (Te h H) hm;rw [z] at e;cases e
def Rf (g h:Heap) (L:Addr):List (Addr×Obj):=(List.range h.objs.size).filterMap fun a=>if a=L\/(g.get? a).isSome=true then none else (h.get? a).map fun o=>(a,o)
def rest (g h:Heap) (L d:Addr):List (Addr×Obj):=(Rf g h L).filter fun p=>decide (p.1≠d)
end L2
namespace L2
open PySem PySem.Spec PyProof.Rows
structure Mod (K:PySem.W.Frag) (mg:Str->Option Value) (base:Heap):Prop where
 O_:K.In base
 glob:base.Ns mainGlobals mg
 blt:∃mb,base.Ns builtinsNs mb /\ ∀x:Str,x ≠ "__name__" -> mb x=bootBuiltins x
 nolimit:base.NoLimit
structure Cx where
 prog:Program
 w:World
 K:PySem.W.Frag
 mg:Str->Option Value
 base:Heap
 A:Around
 N:List Str
 s₀:Shared
 H₀:Hp
 env:Env
 outer:List Env
 stack:List Env
 ex:List Addr
 fn:Str->Bool
 calm:Bool
 pn:List (Addr×Obj)
 xe:Value->Shared->Prop
def frs (l:List Env):List Addr:=l.filterMap (·.frame)
abbrev Cx.fs (X:Cx):List Addr:=frs X.outer
def Vis (sc:Scope) (x:Str):Prop:=sc.names.lookup x=some .local\/sc.names.lookup x=some .cell\/sc.names.lookup x=some .free
def Loc (sc:Scope) (x:Str):Prop:=sc.names.lookup x=some .local\/sc.names.lookup x=some .cell
def Look (env:Env) (h:Heap) (m:Str->Option Value) (x:Str) (u:Value):Prop:=
 (env.kindOf x=some .local/\m x=some u)\/((env.kindOf x=some .cell\/env.kindOf x=some .free) /\ ∃c,env.cells.lookup x=some c/\h.IsCell c (some u))
structure Cx.Ok (X:Cx):Prop where
 mod:Mod X.K X.mg X.base
 kind:X.env.scope.kind = .function
 glob:X.env.globals=mainGlobals
 blt:X.env.builtins=builtinsNs
 above:X.s₀.heap.objs.size<=X.env.locals
 inj:∀x y c,X.env.cells.lookup x=some c->X.env.cells.lookup y=some c->x=y
 has:∀x,(X.env.kindOf x=some .cell\/X.env.kindOf x=some .free) -> ∃c,X.env.cells.lookup x=some c
 cab:∀x c,X.fn x=true->X.env.cells.lookup x=some c->X.s₀.heap.objs.size<=c
 hd:X.calm=true->X.A.handled=none
 frames:X.A.frames=some X.stack
 stk:X.stack=X.outer\/(X.stack=X.env::X.outer/\X.env.frame=some X.env.locals)
 exf:∀b∈X.ex,b≠X.env.locals /\ ∀x c,X.env.cells.lookup x=some c->c≠b
 bs:∀b o,X.base.get? b=some o->X.s₀.heap.get? b=some o/\X.H₀ b=none
 J7:X.base.objs.size<=X.s₀.heap.objs.size
 JB:∀b o,X.base.get? b=some o->b∉X.ex
 QV:∀b∈X.ex,b∉X.fs
 qP:X.s₀.heap.FunFrames X.base X.outer
 RW:∀b∈X.fs,X.H₀ b=none
structure Inv (X:Cx) (pins:List (Addr×Obj)) (σ:List (Option V)) (H:Hp) (s:Shared):Prop where
 ok:X.Ok
 os:s.os=X.s₀.os
 bare:AllBare s.gens
 base:Un X.fs X.ex X.H₀ H X.s₀.heap s.heap
 loc:∃m,s.heap.Ns X.env.locals m /\ ∀(i:Nat) (x:Str) (v:V),X.N[i]? = some x->σ[i]? = some (some v)->Vis X.env.scope x -> ∃u,RelV v u/\Look X.env s.heap m x u
 cell:∀x c,X.env.cells.lookup x=some c -> ∃v,s.heap.IsCell c v
 free:H X.env.locals=none
 nG:∀x c,X.env.cells.lookup x=some c->H c=none
 pin:∀p∈X.pn++pins,s.heap.get? p.1=some p.2/\H p.1=none/\p.1≠X.env.locals/\p.1∉X.fs /\ ∀v,p.2.data ≠ .cell v
 hok:q_ X.prog X.w H s.heap
 len:σ.length=X.N.length
section
variable {X:Cx} {pins:List (Addr×Obj)} {σ:List (Option V)} {H H':Hp} {s:Shared} {h':Heap}
theorem Cx.Ok.ad1 (ok:X.Ok) {b:Addr} {o:Obj} (e:X.base.get? b=some o):b∉X.fs:=fun hb=>by
 have:=(ok.qP.mem hb).1;rw [e] at this;cases this
theorem Inv.bs (I:Inv X pins σ H s):∀b o,X.base.get? b=some o->s.heap.get? b=some o/\H b=none:=fun b o e=>
 ⟨I.base.keep b o (I.ok.bs b o e).1 (I.ok.bs b o e).2 (I.ok.ad1 e) (I.ok.JB b o e),I.base.free b o (I.ok.bs b o e).1 (I.ok.bs b o e).2 (I.ok.JB b o e)⟩
theorem Inv.bk (I:Inv X pins σ H s):∀b o,X.base.get? b=some o->s.heap.get? b=some o:=fun b o e=>(I.bs b o e).1
theorem Inv.mod (I:Inv X pins σ H s):Mod X.K X.mg X.base:=I.ok.mod
theorem Inv.oA (I:Inv X pins σ H s):X.K.In s.heap:=I.ok.mod.O_.keeps I.bk
theorem Inv.fr (I:Inv X pins σ H s):∃m,Fr X.base X.env.locals s.heap m:=
 let ⟨m,hn,_⟩:=I.loc
 ⟨m,hn,I.bk,Nat.le_trans I.ok.J7 I.ok.above⟩
theorem Inv.lt (I:Inv X pins σ H s):X.env.locals<s.heap.objs.size:=let ⟨_,hn,_⟩:=I.loc;hn.lt
theorem Inv.sz (I:Inv X pins σ H s):X.s₀.heap.objs.size<=s.heap.objs.size:=Nat.le_trans I.ok.above (Nat.le_of_lt I.lt)
theorem Inv.ad0 (I:Inv X pins σ H s) {a:Addr} (h:s.heap.objs.size<=a):a∉X.fs:=fun hb=>by
 obtain ⟨_,o,ho,_⟩:=I.ok.qP.mem hb;exact absurd (Nat.lt_of_lt_of_le (Heap.lt_size ho) (Nat.le_trans I.sz h)) (Nat.lt_irrefl _)
theorem Inv.Vr (I:Inv X pins σ H s):∀x c,X.env.cells.lookup x=some c->c≠X.env.locals:=fun x c e z=>by
 obtain ⟨v,o,ho,hd⟩:=I.cell x c e;obtain ⟨m,⟨o',es,ep,ho',hd',_⟩,_⟩:=I.loc;rw [z,ho'] at ho;cases ho;rw [hd'] at hd;cases hd
theorem Inv.qP (I:Inv X pins σ H s):s.heap.FunFrames X.base X.outer:=by
 have all:∀(l:List Env),(∀b∈frs l,b∈X.fs)->X.s₀.heap.FunFrames X.base l->s.heap.FunFrames X.base l:=by
  intro l
  induction l with
  | nil=>intro _ _;trivial
  | cons env r ih=>
    intro hs hl;obtain ⟨hk,⟨L,o,hf,hn,ho,hd⟩,hr⟩:=hl;have hL:L∈X.fs:=hs L (by unfold frs;rw [List.filterMap_cons,hf];exact List.mem_cons_self);obtain ⟨sl,e⟩:=I.base.slot L o ho (I.ok.RW L hL) hL fun z=>I.ok.QV L z hL;exact ⟨hk,⟨L,_,hf,hn,e,hd⟩,ih (fun b hb=>hs b (by unfold frs;rw [List.filterMap_cons,hf];exact List.mem_cons_of_mem _ hb)) hr⟩
 exact all X.outer (fun _ hb=>hb) I.ok.qP
theorem Inv.stack (I:Inv X pins σ H s):s.heap.FunFrames X.base X.stack:=by
 rcases I.ok.stk with e|⟨e,hf⟩
 ·rw [e];exact I.qP
 ·rw [e]
  obtain ⟨m,hn,_⟩:=I.loc;refine .cons (by rw [I.ok.kind];decide) hf hn ?_ I.qP;exact Heap.get?_none_of_le (Nat.le_trans I.ok.J7 I.ok.above)
theorem Inv.pL (I:Inv X pins σ H s):∀b∈frs X.stack,b∈X.env.locals::X.fs:=fun b hb=>by
 rcases I.ok.stk with e|⟨e,hf⟩
 ·rw [e] at hb;exact List.mem_cons_of_mem _ hb
 ·rw [e] at hb
  unfold frs at hb;rw [List.filterMap_cons,hf] at hb;exact hb
theorem Inv.uQ (I:Inv X pins σ H s):∀b∈frs X.stack,H b=none:=fun b hb=>by
 rcases List.mem_cons.mp (I.pL b hb) with e|hb
 ·rw [e];exact I.free
 ·obtain ⟨_,o,ho,_⟩:=I.ok.qP.mem hb
  exact I.base.free b o ho (I.ok.RW b hb) fun z=>I.ok.QV b z hb
theorem Inv.step {g':Array GenState} {t':Nat} {d':Drawn} {ch:List Addr} (I:Inv X pins σ H s)
 (hch:∀b∈ch,(b∈X.ex\/X.s₀.heap.objs.size<=b)/\b≠X.env.locals/\(∀x c,X.env.cells.lookup x=some c->c≠b) /\ ∀p∈X.pn++pins,p.1≠b)
 (keep:∀b o,b≠X.env.locals->b∉X.fs->b∉ch->s.heap.get? b=some o->H b=none->h'.get? b=some o)
 (slot:∀b o,b≠X.env.locals->b∈X.fs->b∉ch->s.heap.get? b=some o->H b=none -> ∃sl,h'.get? b=some {o with slots:=sl}) (free:∀b o,b∉ch->s.heap.get? b=some o->H b=none->H' b=none)
 (there:∀b o,b∉ch->s.heap.get? b=some o -> ∃o',h'.get? b=some o')
 (tups:∀b xs,H b=some (.tup xs)->H' b=some (.tup xs)) (uE:∀b o u,H b=some (.Ai o u)->H' b=some (.Ai o u)) (vK:∀b ps,H b=some (.Rn ps) -> ∃more,H' b=some (.Rn (ps++more)))
 (ns:∀m,s.heap.Ns X.env.locals m->h'.Ns X.env.locals m) (hok:q_ X.prog X.w H' h') (hg:AllBare g'):
 Inv X pins σ H' {s with heap:=h',gens:=g',drawn:=d',toks:=t'}:=by
 have Z8:∀b o,X.s₀.heap.get? b=some o->b≠X.env.locals:=fun b o e=>Nat.ne_of_lt (Nat.lt_of_lt_of_le (Heap.lt_size e) I.ok.above)
 have Z9:∀b o,X.s₀.heap.get? b=some o->b∉X.ex->b∉ch:=fun b o e hx hb=>by
  rcases (hch b hb).1 with z|z
  ·exact hx z
  ·exact absurd (Nat.lt_of_lt_of_le (Heap.lt_size e) z) (Nat.lt_irrefl _)
 have cellK:∀x c,X.env.cells.lookup x=some c -> ∀v,s.heap.IsCell c v->h'.IsCell c v:=fun x c e v ⟨o,ho,hd⟩=>by
  have XF:c∉ch:=fun z=>(hch c z).2.2.1 x c e rfl
  by_cases hc:c∈X.fs
  ·obtain ⟨sl,q⟩:=slot c o (I.Vr x c e) hc XF ho (I.nG x c e)
   exact ⟨_,q,hd⟩
  ·exact ⟨o,keep c o (I.Vr x c e) hc XF ho (I.nG x c e),hd⟩
 refine ⟨I.ok,I.os,hg,⟨fun b o e n hb hx=> ?_,fun b o e n hb hx=> ?_,fun b o e n hx=> ?_,fun b o e hx=> ?_,fun b xs e=>tups b xs (I.base.tups b xs e),fun b o xs e=>uE b o xs (I.base.uE b o xs e),fun b ps e=> ?_⟩, ?_,fun x c e=> ?_, ?_,fun x c e=> ?_,fun p hp=> ?_,hok,I.len⟩
 ·exact keep b o (Z8 b o e) hb (Z9 b o e hx) (I.base.keep b o e n hb hx) (I.base.free b o e n hx)
 ·obtain ⟨sl,e1⟩:=I.base.slot b o e n hb hx
  obtain ⟨sl',e2⟩:=slot b _ (Z8 b o e) hb (Z9 b o e hx) e1 (I.base.free b o e n hx);exact ⟨sl',e2⟩
 ·obtain ⟨o',e1⟩:=I.base.there b o e hx
  exact free b o' (Z9 b o e hx) e1 (I.base.free b o e n hx)
 ·obtain ⟨o',e1⟩:=I.base.there b o e hx
  exact there b o' (Z9 b o e hx) e1
 ·obtain ⟨m1,e1⟩:=I.base.vK b ps e
  obtain ⟨m2,e2⟩:=vK b _ e1;exact ⟨m1++m2,by rw [e2,Array.append_assoc]⟩
 ·obtain ⟨m,hn,hl⟩:=I.loc
  refine ⟨m,ns m hn,fun i x v e1 e2 e3=> ?_⟩;obtain ⟨u,r,l⟩:=hl i x v e1 e2 e3;refine ⟨u,r, ?_⟩;rcases l with l|⟨k,c,e,z⟩
  ·exact .inl l
  ·exact .inr ⟨k,c,e,cellK x c e _ z⟩
 ·obtain ⟨v,z⟩:=I.cell x c e
  exact ⟨v,cellK x c e v z⟩
 ·obtain ⟨m,⟨o,_,_,ho,_⟩,_⟩:=I.loc
  exact free _ o (fun z=>(hch _ z).2.1 rfl) ho I.free
 ·obtain ⟨v,o,ho,hd⟩:=I.cell x c e
  exact free c o (fun z=>(hch c z).2.2.1 x c e rfl) ho (I.nG x c e)
 ·obtain ⟨e,n,ne,nf,d⟩:=I.pin p hp
  have XF:p.1∉ch:=fun z=>(hch p.1 z).2.2.2 p hp rfl;exact ⟨keep p.1 p.2 ne nf XF e n,free p.1 p.2 XF e n,ne,nf,d⟩
theorem Inv.un {t':Nat} (I:Inv X pins σ H s) (u:Un X.fs [] H H' s.heap h') (hok:q_ X.prog X.w H' h'):Inv X pins σ H' {s with heap:=h',toks:=t'}:=by
 obtain ⟨m,⟨o,es,ep,ho,r⟩,_⟩:=id I.loc;obtain ⟨sl,hL⟩:=u.any ho I.free (by simp)
 exact I.step (g':=s.gens) (d':=s.drawn) (ch:=[]) (fun _ z=>nomatch z) (fun b o _ hb _ e n=>u.keep b o e n hb (by simp)) (fun b o _ hb _ e n=>u.slot b o e n hb (by simp)) (fun b o _ e n=>u.free b o e n (by simp)) (fun b o _ e=>u.there b o e (by simp)) u.tups u.uE u.vK (fun m' hm=>by
  obtain ⟨o',es',ep',ho',r'⟩:=hm;rw [ho] at ho';cases ho';exact ⟨_,es',ep',hL,r'⟩) hok I.bare
theorem Inv.call {g':Array GenState} {t':Nat} {d':Drawn} {ch:List Addr} (I:Inv X pins σ H s) (u:Un (frs X.stack) ch H H' s.heap h') (hok:q_ X.prog X.w H' h') (hg:AllBare g')
 (hch:∀b∈ch,(b∈X.ex\/X.s₀.heap.objs.size<=b)/\b≠X.env.locals/\(∀x c,X.env.cells.lookup x=some c->c≠b) /\ ∀p∈X.pn++pins,p.1≠b):
 Inv X pins σ H' {s with heap:=h',gens:=g',drawn:=d',toks:=t'}:=by
 obtain ⟨m,⟨o,es,ep,ho,r⟩,_⟩:=id I.loc;obtain ⟨sl,hL⟩:=u.any ho I.free fun z=>(hch _ z).2.1 rfl
 exact I.step (ch:=ch) hch (fun b o hL hb hc e n=>u.keep b o e n (fun z=>(List.mem_cons.mp (I.pL b z)).elim hL hb) hc) (fun b o _ _ hc e n=>u.any e n hc) (fun b o hc e n=>u.free b o e n hc) (fun b o hc e=>u.there b o e hc) u.tups u.uE u.vK (fun m' hm=>by
  obtain ⟨o',es',ep',ho',r'⟩:=hm;rw [ho] at ho';cases ho';exact ⟨_,es',ep',hL,r'⟩) hok hg
theorem Inv.turned {t':Nat} {it:Addr} (I:Inv X pins σ H s) (k:∀b o,b≠it->s.heap.get? b=some o->h'.get? b=some o) (hn:H it=none) (hL:it≠X.env.locals)
 (h1:it∈X.ex\/X.s₀.heap.objs.size<=it) (h2:∀x c,X.env.cells.lookup x=some c->c≠it) (h3:∀p∈X.pn++pins,p.1≠it):Inv X pins σ H {s with heap:=h',toks:=t'}:=by
 have XC:∀b u,H b=some u->b≠it:=fun b u e z=>by rw [z,hn] at e;cases e
 refine I.step (g':=s.gens) (d':=s.drawn) (ch:=[it]) (fun b hb=> ?_) (fun b o _ _ hc e _=>k b o (fun z=>hc (by simp [z])) e) (fun b o _ _ hc e _=>⟨o.slots,k b o (fun z=>hc (by simp [z])) e⟩) (fun _ _ _ _ n=>n)
  (fun b o hc e=>⟨o,k b o (fun z=>hc (by simp [z])) e⟩) (fun _ _ e=>e) (fun _ _ _ e=>e) (fun b ps e=>⟨#[],by rw [e];simp⟩) (fun m hm=> ?_) (fun b u e=> ?_) I.bare
 ·have e:b=it:=by simpa using hb
  subst e;exact ⟨h1,hL,h2,h3⟩
 ·obtain ⟨o,es,ep,ho,r⟩:=hm
  exact ⟨o,es,ep,k _ o (Ne.symm hL) ho,r⟩
 ·refine (I.hok b u e).stay (fun c v hc q=>k c v ?_ q) (fun _ q=>q) fun _ _ q=>q
  rcases hc with z|z
  ·rw [z];exact XC b u e
  ·exact XC c _ z
theorem Inv.tok (I:Inv X pins σ H s) (t:Nat):Inv X pins σ H {s with toks:=t}:=I.un (h':=s.heap) (t':=t) Un.refl I.hok
theorem Inv.kept {t':Nat} (I:Inv X pins σ H s) (k:∀b u,s.heap.get? b=some u->h'.get? b=some u):Inv X pins σ H {s with heap:=h',toks:=t'}:=I.un (Un.kept k) (I.hok.kept k)
theorem Inv.laid {a:Addr} {o:HO} {t':Nat} (I:Inv X pins σ H s) (k:∀b u,s.heap.get? b=some u->h'.get? b=some u) (hp:s.heap.objs.size<=a) (new:fM X.prog X.w (upd H a o) h' a o):
 Inv X pins σ (upd H a o) {s with heap:=h',toks:=t'}:=I.un (Un.laid k hp (I.hok.fresh hp)) (I.hok.laid k hp new)
theorem Inv.write {x e:Addr} {o:HO} {t':Nat} (I:Inv X pins σ H s) (mu:Mut (H x)) (he:e=x\/H e=some (.own x)) (k:∀b u,b≠e->s.heap.get? b=some u->h'.get? b=some u) (heo:∃u,h'.get? e=some u)
 (new:fM X.prog X.w (upd H x o) h' x o):Inv X pins σ (upd H x o) {s with heap:=h',toks:=t'}:=I.un (Un.write mu he k heo) (I.hok.write mu he k heo new)
theorem Inv.Ht {yI:List (Addr×Obj)} (I:Inv X pins σ H s) (h:∀p∈yI,s.heap.get? p.1=some p.2/\H p.1=none/\p.1≠X.env.locals/\p.1∉X.fs /\ ∀v,p.2.data ≠ .cell v):Inv X yI σ H s:=
 ⟨I.ok,I.os,I.bare,I.base,I.loc,I.cell,I.free,I.nG,fun p hp=>(List.mem_append.mp hp).elim (fun z=>I.pin p (List.mem_append_left _ z)) (h p),I.hok,I.len⟩
theorem Cy {N:List Str} (hN:N.Nodup) {i j:Nat} {x:Str} (a:N[i]? = some x) (b:N[j]? = some x):i=j:=by
 obtain ⟨h1,e1⟩:=List.getElem?_eq_some_iff.mp a;obtain ⟨h2,e2⟩:=List.getElem?_eq_some_iff.mp b;exact (List.getElem_inj hN).mp (e1.trans e2.symm)
theorem yH {M:Model} {A:Around} {E:Value->Shared->Prop} {i:Nat} {x:Str} {v:V} {u:Value} {Q:Unit->Shared->Prop} (I:Inv X pins σ H s) (hN:X.N.Nodup) (hi:X.N[i]? = some x) (hx:Loc X.env.scope x) (r:RelV v u)
 (h:∀s',Inv X pins (σ.set i (some v)) H s'->(∃a,Heap.SameBut a s.heap s'.heap/\(a=X.env.locals\/X.env.cells.lookup x=some a))->Q () s') (hf:X.fn x=true\/X.env.scope.names.lookup x=some .local:=by first |exact .inl rfl|exact .inr rfl|assumption):wpAny M A (storeName X.env x u) Q E s:=by
 obtain ⟨m,hn,hl⟩:=id I.loc;have hcls:(X.env.scope.kind == .class||(X.env.scope.kind == .module&&X.env.locals != X.env.globals))=false:=by rw [I.ok.kind];rfl
 have ain:i<σ.length:=by rw [I.len];exact (List.getElem?_eq_some_iff.mp hi).1
 have Vr:=I.Vr
 have tracked:∀{a:Addr} {h':Heap},(∃o,s.heap.get? a=some o/\H a=none)->Heap.SameBut a s.heap h'->q_ X.prog X.w H h':=fun {a h'} ha hs b ob e=>by
  obtain ⟨_,_,hfree⟩:=ha;refine (I.hok b ob e).stay (fun c w' hc q=>(hs.2 c ?_).trans q) (fun _ q=>q) fun _ _ q=>q;rintro rfl;rcases hc with rfl|hc
  ·rw [hfree] at e;cases e
  ·rw [hfree] at hc;cases hc
 rcases hx with hk|hk
 ·refine wpAny_storeName_local hk hn (fun h' hn' hs=> ?_) hcls
  obtain ⟨oL,_,_,hoL,_⟩:=id hn;refine h _ ⟨I.ok,I.os,I.bare,⟨fun b o e n hb hx=> ?_,fun b o e n hb hx=> ?_,I.base.free,fun b o e hx=> ?_,I.base.tups,I.base.uE,I.base.vK⟩,⟨_,hn',fun j y v' e1 e2 e3=> ?_⟩,fun y c e=> ?_,I.free,I.nG,fun p hp=> ?_,tracked ⟨oL,hoL,I.free⟩ hs,by simpa using I.len⟩ ⟨_,hs,.inl rfl⟩
  ·exact (hs.2 b (Nat.ne_of_lt (Nat.lt_of_lt_of_le (Heap.lt_size e) I.ok.above))).trans (I.base.keep b o e n hb hx)
  ·obtain ⟨sl,e1⟩:=I.base.slot b o e n hb hx
   exact ⟨sl,(hs.2 b (Nat.ne_of_lt (Nat.lt_of_lt_of_le (Heap.lt_size e) I.ok.above))).trans e1⟩
  ·obtain ⟨o',e1⟩:=I.base.there b o e hx
   exact ⟨o',(hs.2 b (Nat.ne_of_lt (Nat.lt_of_lt_of_le (Heap.lt_size e) I.ok.above))).trans e1⟩
  ·by_cases hj:j=i
   ·subst hj
    rw [hi] at e1;cases e1;rw [List.getElem?_set_self ain] at e2;cases e2;exact ⟨u,r,.inl ⟨hk,by simp⟩⟩
   ·rw [List.getElem?_set_ne (Ne.symm hj)] at e2
    obtain ⟨u',r',q⟩:=hl j y v' e1 e2 e3;refine ⟨u',r', ?_⟩;rcases q with ⟨k,e⟩|⟨k,c,e,z⟩
    ·refine .inl ⟨k, ?_⟩
     have:y≠x:=fun e=>hj (Cy hN e1 (e▸hi));simp [this,e]
    ·exact .inr ⟨k,c,e,z.sameBut hs (Vr y c e)⟩
  ·obtain ⟨w',z⟩:=I.cell y c e
   exact ⟨w',z.sameBut hs (Vr y c e)⟩
  ·obtain ⟨e,n,ne,nf,d⟩:=I.pin p hp
   exact ⟨(hs.2 p.1 ne).trans e,n,ne,nf,d⟩
 ·have hfn:X.fn x=true:=by
   rcases hf with z|z
   ·exact z
   ·rw [z] at hk;cases hk
  obtain ⟨c,hc⟩:=I.ok.has x (.inl hk);obtain ⟨w',z⟩:=I.cell x c hc;refine wpAny_storeName_cell I.ok.kind hk hc z (fun h' hc' hs=> ?_);obtain ⟨oc,hoc,afh⟩:=id z;refine h {s with heap:=h'} ⟨I.ok,I.os,I.bare,⟨fun b o e n hb hx=> ?_,fun b o e n hb hx=> ?_,I.base.free,fun b o e hx=> ?_,I.base.tups,I.base.uE,I.base.vK⟩,⟨m,hn.sameBut hs (Ne.symm (Vr x c hc)),fun j y v' e1 e2 e3=> ?_⟩,fun y c' e=> ?_,I.free,I.nG,fun p hp=> ?_,tracked ⟨oc,hoc,I.nG x c hc⟩ hs,by simpa using I.len⟩ ⟨c,hs,.inr hc⟩
  ·exact (hs.2 b (Nat.ne_of_lt (Nat.lt_of_lt_of_le (Heap.lt_size e) (I.ok.cab x c hfn hc)))).trans (I.base.keep b o e n hb hx)
  ·obtain ⟨sl,e1⟩:=I.base.slot b o e n hb hx
   exact ⟨sl,(hs.2 b (Nat.ne_of_lt (Nat.lt_of_lt_of_le (Heap.lt_size e) (I.ok.cab x c hfn hc)))).trans e1⟩
  ·obtain ⟨o',e1⟩:=I.base.there b o e hx
   exact ⟨o',(hs.2 b (Nat.ne_of_lt (Nat.lt_of_lt_of_le (Heap.lt_size e) (I.ok.cab x c hfn hc)))).trans e1⟩
  ·by_cases hj:j=i
   ·subst hj
    rw [hi] at e1;cases e1;rw [List.getElem?_set_self ain] at e2;cases e2;exact ⟨u,r,.inr ⟨.inl hk,c,hc,hc'⟩⟩
   ·rw [List.getElem?_set_ne (Ne.symm hj)] at e2
    obtain ⟨u',r',q⟩:=hl j y v' e1 e2 e3;refine ⟨u',r', ?_⟩;rcases q with q|⟨k,c',e,z'⟩
    ·exact .inl q
    ·refine .inr ⟨k,c',e,z'.sameBut hs ?_⟩
     rintro rfl;exact hj (Cy hN e1 (I.ok.inj _ _ _ e hc▸hi))
  ·by_cases hcc:c'=c
   ·subst hcc;exact ⟨_,hc'⟩
   ·obtain ⟨w2,z2⟩:=I.cell y c' e
    exact ⟨w2,z2.sameBut hs hcc⟩
  ·obtain ⟨e,n,ne,nf,d⟩:=I.pin p hp
   refine ⟨(hs.2 p.1 ?_).trans e,n,ne,nf,d⟩;intro q;rw [q,hoc] at e;have q':oc=p.2:=Option.some.inj e;exact d w' (by rw [←q'];exact afh)
theorem vM {M:Model} {A:Around} {E:Value->Shared->Prop} {i:Nat} {x:Str} {v:V} {u:Value} {Q:Unit->Shared->Prop} (I:Inv X pins σ H s) (hN:X.N.Nodup) (hi:X.N[i]? = some x) (hx:Loc X.env.scope x) (r:RelV v u)
 (h:∀s',Inv X pins (σ.set i (some v)) H s'->Q () s') (hf:X.fn x=true\/X.env.scope.names.lookup x=some .local:=by first |exact .inl rfl|exact .inr rfl|assumption):wpAny M A (storeName X.env x u) Q E s:=
 yH I hN hi hx r (fun s' I' _=>h s' I') hf
theorem Inv.call' {s':Shared} {ch:List Addr} (I:Inv X pins σ H s) (ho:s'.os=s.os) (u:Un (frs X.stack) ch H H' s.heap s'.heap) (hok:q_ X.prog X.w H' s'.heap) (hg:AllBare s'.gens)
 (hch:∀b∈ch,(b∈X.ex\/X.s₀.heap.objs.size<=b)/\b≠X.env.locals/\(∀x c,X.env.cells.lookup x=some c->c≠b) /\ ∀p∈X.pn++pins,p.1≠b):Inv X pins σ H' s':=by
 obtain ⟨h',g',d',t',o'⟩:=s';have e:o'=s.os:=ho;subst e;exact I.call (g':=g') (t':=t') (d':=d') u hok hg hch
end
abbrev XK:=Value->Option Addr->Hp->Prop
abbrev St:=List (Option V)
abbrev VK:=V->Hp->Prop
abbrev TE:=St->Hp->VK->Prop
abbrev TT:=St->Hp->(Bool->Hp->Prop)->Prop
abbrev TA:=St->Hp->(List V->Hp->Prop)->Prop
structure Ends where
 nx:St->Hp->Prop
 rt:VK
 bk:St->Hp->Prop:=fun _ _=>False
 ct:St->Hp->Prop:=fun _ _=>False
abbrev TS:=Ends->St->Hp->Prop
def EP (X:Cx) (pins:List (Addr×Obj)) (σ:St) (Q:VK) (u:Value) (s':Shared):Prop:=∃v H',Inv X pins σ H' s'/\RelV v u/\Q v H'
def TP (X:Cx) (pins:List (Addr×Obj)) (σ:St) (Q:Bool->Hp->Prop) (b:Bool) (s':Shared):Prop:=∃H',Inv X pins σ H' s'/\Q b H'
def AP (X:Cx) (pins:List (Addr×Obj)) (σ:St) (Q:List V->Hp->Prop) (us:List Value) (s':Shared):Prop:=∃vs H',Inv X pins σ H' s'/\Vals vs us/\Q vs H'
def SP (X:Cx) (pins:List (Addr×Obj)) (D:Ends) (f:Flow) (s':Shared):Prop:=
 match f with
 | .next=>∃σ' H',Inv X pins σ' H' s'/\D.nx σ' H'
 | .brk=>∃σ' H',Inv X pins σ' H' s'/\D.bk σ' H'
 | .cont=>∃σ' H',Inv X pins σ' H' s'/\D.ct σ' H'
 | .ret u=>∃v σ' H',Inv X pins σ' H' s'/\RelV v u/\D.rt v H'
def PE (X:Cx) (e:Expr) (t:TE):Prop:=
 ∀(pins:List (Addr×Obj)) (s:Shared) (σ:St) (H:Hp) (Q:VK),Inv X pins σ H s->t σ H Q->wpAny (model X.prog X.w) X.A (eval e X.env) (EP X pins σ Q) X.xe s
def PT (X:Cx) (e:Expr) (t:TT):Prop:=
 ∀(pins:List (Addr×Obj)) (s:Shared) (σ:St) (H:Hp) (Q:Bool->Hp->Prop),Inv X pins σ H s->t σ H Q->wpAny (model X.prog X.w) X.A (isTrue e X.env (eval e X.env)) (TP X pins σ Q) X.xe s
def PW (X:Cx) (e:Expr) (t:TT):Prop:=
 ∀(whole:Sem Value) (pins:List (Addr×Obj)) (s:Shared) (σ:St) (H:Hp) (Q:Bool->Hp->Prop),Inv X pins σ H s->t σ H Q->wpAny (model X.prog X.w) X.A (isTrue e X.env whole) (TP X pins σ Q) X.xe s
theorem PW.pt {X:Cx} {e:Expr} {t:TT} (h:PW X e t):PT X e t:=h _
def PA (X:Cx) (es:List Expr) (t:TA):Prop:=
 ∀(pos:Pos) (pins:List (Addr×Obj)) (s:Shared) (σ:St) (H:Hp) (Q:List V->Hp->Prop),Inv X pins σ H s->t σ H Q->wpAny (model X.prog X.w) X.A (spliced (backTo pos (starEach es X.env))) (AP X pins σ Q) X.xe s
def PS (X:Cx) (st:Stmt) (t:TS):Prop:=
 ∀(pins:List (Addr×Obj)) (s:Shared) (σ:St) (H:Hp) (D:Ends),Inv X pins σ H s->t D σ H->wpAny (model X.prog X.w) X.A (exec st X.env) (SP X pins D) X.xe s
def Eb (X:Cx) (st:List Stmt) (t:TS):Prop:=
 ∀(pins:List (Addr×Obj)) (s:Shared) (σ:St) (H:Hp) (D:Ends),Inv X pins σ H s->t D σ H->wpAny (model X.prog X.w) X.A (execs st X.env) (SP X pins D) X.xe s
theorem dH {α:Type} {t:Sem α} {Q Q':α->Shared->Prop} {M:Model} {A:Around} {E:Value->Shared->Prop} {s:Shared} (h:wpAny M A t Q E s) (hQ:∀a s,Q a s->Q' a s):wpAny M A t Q' E s:=wpAny_mono h hQ fun _ _ x=>x
end L2
namespace L2
open PySem PySem.Spec PyProof.Rows
section
variable {X:Cx}
def Bp (i:Nat):TE:=fun σ H Q=>∃v,σ[i]? = some (some v)/\Q v H
def tC (v:V):TE:=fun _ H Q=>Q v H
theorem Uh {i:Nat} {x:Str} {pos:Pos} (hN:X.N[i]? = some x) (hv:Vis X.env.scope x) (hd:(x==("__debug__" :Str))=false:=by decide) (hcd:(x==("__classdict__" :Str))=false:=by decide):PE X (.Name x pos) (Bp i):=by
 intro pins s σ H Q I h;obtain ⟨v,e,h⟩:=h;obtain ⟨m,hn,hl⟩:=I.loc;obtain ⟨u,r,l⟩:=hl i x v hN e hv;have fin:EP X pins σ Q u s:=⟨v,H,I,r,h⟩;rcases l with ⟨hk,hm⟩|⟨hk,c,hc,hcell⟩
 ·exact wpAny_Name (wpAny_loadName_local I.ok.kind hk hn hm fin) hd
 ·rcases hk with hk|hk
  ·exact wpAny_Name (wpAny_loadName_cell I.ok.kind hk hc hcell fin) hd
  ·exact wpAny_Name (wpAny_loadName_free I.ok.kind hk hc hcell fin hcd) hd
theorem aC {i j pos}:PE X (.Constant (.int i) j pos) (tC (.int i)):=fun _ _ _ H _ I h=>wpAny_Constant_int ⟨.int i,H,I.tok _,⟨_,rfl⟩,h⟩
theorem j4 {b j pos}:PE X (.Constant (.bool b) j pos) (tC (.bl b)):=fun _ _ _ H _ I h=>Constant_bool ⟨.bl b,H,I,rfl,h⟩
theorem mV {j pos}:PE X (.Constant .none j pos) (tC .non):=fun _ _ _ H _ I h=>Constant_none ⟨.non,H,I,rfl,h⟩
theorem bA {x j pos}:PE X (.Constant (.str x) j pos) (tC (.str x)):=fun _ _ _ H _ I h=>Calls.Constant_str ⟨.str x,H,I.tok _,⟨_,rfl⟩,h⟩
def Gl (X:Cx) (x:Str):Prop:=X.env.kindOf x=some .globalImplicit
theorem qJ {E:Value->Shared->Prop} {pins:List (Addr×Obj)} {s:Shared} {σ:St} {H:Hp} {x:Str} {u:Value} {pos:Pos} {Q:Value->Shared->Prop} (I:Inv X pins σ H s) (hg:Gl X x) (hm:X.mg x=some u) (h:Q u s)
 (hd:(x==("__debug__" :Str))=false:=by decide):wpAny (model X.prog X.w) X.A (eval (.Name x pos) X.env) Q E s:=
 Calls.Name_function_global I.ok.kind hg (Calls.loadGlobal_global (by rw [I.ok.glob];exact I.mod.glob.keeps I.bk) hm h) hd
theorem mX {E:Value->Shared->Prop} {pins:List (Addr×Obj)} {s:Shared} {σ:St} {H:Hp} {x:Str} {u:Value} {pos:Pos} {Q:Value->Shared->Prop} (I:Inv X pins σ H s) (hg:Gl X x) (hm:X.mg x=none) (hv:bootBuiltins x=some u) (h:Q u s)
 (hn:x ≠ "__name__" :=by decide) (hd:(x==("__debug__" :Str))=false:=by decide):wpAny (model X.prog X.w) X.A (eval (.Name x pos) X.env) Q E s:=by
 obtain ⟨mb,h1,h2⟩:=I.mod.blt;exact Calls.Name_function_global I.ok.kind hg (Calls.loadGlobal_builtin (by rw [I.ok.glob];exact I.mod.glob.keeps I.bk) hm (by rw [I.ok.blt];exact h1.keeps I.bk) ((h2 x hn).trans hv) h) hd
theorem jZ {x:Str} {v:V} {u:Value} {pos:Pos} (hg:Gl X x) (hm:X.mg x=some u) (r:RelV v u) (hd:(x==("__debug__" :Str))=false:=by decide):PE X (.Name x pos) (tC v):=
 fun _ _ _ H _ I h=>qJ I hg hm ⟨v,H,I,r,h⟩ hd
theorem gC {x:Str} {v:V} {u:Value} {pos:Pos} (hg:Gl X x) (hm:X.mg x=none) (hv:bootBuiltins x=some u) (r:RelV v u) (hn:x ≠ "__name__" :=by decide) (hd:(x==("__debug__" :Str))=false:=by decide):PE X (.Name x pos) (tC v):=
 fun _ _ _ H _ I h=>mX I hg hm hv ⟨v,H,I,r,h⟩ hn hd
variable {a b:Expr} {ta tb:TE} {pos:Pos}
def tB (t:TE):TT:=fun σ H Q=>t σ H fun x H1=>∃c,x = .bl c/\Q c H1
theorem iI {e:Expr} {t:TE} (h:PE X e t) (he:∀whole,isTrue e X.env whole=(do let v ←whole;standAt e.pos;holding [v] (truthy v)):=by intro _;rfl):PT X e (tB t):=by
 intro pins s σ H Q I hw;refine isTrue_plain (dH (h pins s σ H _ I hw) fun v s1 ⟨x,H1,I1,r1,q1⟩=> ?_) (he _);obtain ⟨d,rfl,q⟩:=q1;cases r1;exact wpAny_truthy_bool ⟨H1,I1,q⟩
variable {tA ZM:TT} {rest:List Expr}
def abz (t u:TT):TT:=fun σ H Q=>t σ H fun c H1=>if c=true then u σ H1 Q else Q false H1
def tOr (t u:TT):TT:=fun σ H Q=>t σ H fun c H1=>if c=true then Q true H1 else u σ H1 Q
def abr (t:TT):TT:=fun σ H Q=>t σ H fun c H1=>Q (!c) H1
theorem Qa (ha:PT X a tA):PW X (.BoolOp .And [a] pos) tA:=by
 intro wh pins s σ H Q I h;refine isTrue_and (dH (ha pins s σ H Q I h) fun c s1 e=> ?_);cases c with
 | true=>exact isTrue_and_nil e
 | false=>exact e
theorem pQ (ha:PT X a tA):PW X (.BoolOp .Or [a] pos) tA:=by
 intro wh pins s σ H Q I h;refine isTrue_or (dH (ha pins s σ H Q I h) fun c s1 e=> ?_);cases c with
 | false=>exact isTrue_or_nil e
 | true=>exact e
theorem Ua (ha:PT X a tA) (hb:PW X (.BoolOp .And (b::rest) pos) ZM):PW X (.BoolOp .And (a::b::rest) pos) (abz tA ZM):=by
 intro wh pins s σ H Q I h;refine isTrue_and (dH (ha pins s σ H _ I h) fun c s1 ⟨H1,I1,q1⟩=> ?_);cases c with
 | true=>exact hb wh pins s1 σ H1 Q I1 q1
 | false=>exact ⟨H1,I1,q1⟩
theorem tW (ha:PT X a tA) (hb:PW X (.BoolOp .Or (b::rest) pos) ZM):PW X (.BoolOp .Or (a::b::rest) pos) (tOr tA ZM):=by
 intro wh pins s σ H Q I h;refine isTrue_or (dH (ha pins s σ H _ I h) fun c s1 ⟨H1,I1,q1⟩=> ?_);cases c with
 | true=>exact ⟨H1,I1,q1⟩
 | false=>exact hb wh pins s1 σ H1 Q I1 q1
theorem jP (ha:PT X a tA):PT X (.UnaryOp .Not a pos) (abr tA):=by
 intro pins s σ H Q I h;exact isTrue_not (ha pins s σ H (fun c H1=>Q (!c) H1) I h)
def W0 (ta tb:TE):TE:=fun σ H Q=>ta σ H fun x H1=>∃c,x = .bl c/\if c=true then tb σ H1 Q else Q (.bl false) H1
def WM (ta tb:TE):TE:=fun σ H Q=>ta σ H fun x H1=>∃c,x = .bl c/\if c=true then Q (.bl true) H1 else tb σ H1 Q
def WQ (ta:TE):TE:=fun σ H Q=>ta σ H fun x H1=>∃c,x = .bl c/\Q (.bl (!c)) H1
theorem mU {op} {t:TE} (h:PE X a t):PE X (.BoolOp op [a] pos) t:=fun pins s σ H Q I hw=>BoolOp_one (h pins s σ H Q I hw)
theorem v7 (ha:PE X a ta) (hb:PE X (.BoolOp .And (b::rest) pos) tb):PE X (.BoolOp .And (a::b::rest) pos) (W0 ta tb):=by
 intro pins s σ H Q I h;refine BoolOp_and (dH (ha pins s σ H _ I h) fun v s1 ⟨x,H1,I1,r1,q1⟩=> ?_);obtain ⟨c,rfl,q1⟩:=q1;cases r1;refine wpAny_truthy_bool ?_;cases c with
 | true=>exact hb pins s1 σ H1 Q I1 q1
 | false=>exact ⟨.bl false,H1,I1,rfl,q1⟩
theorem Hw (ha:PE X a ta) (hb:PE X (.BoolOp .Or (b::rest) pos) tb):PE X (.BoolOp .Or (a::b::rest) pos) (WM ta tb):=by
 intro pins s σ H Q I h;refine BoolOp_or (dH (ha pins s σ H _ I h) fun v s1 ⟨x,H1,I1,r1,q1⟩=> ?_);obtain ⟨c,rfl,q1⟩:=q1;cases r1;refine wpAny_truthy_bool ?_;cases c with
 | false=>exact hb pins s1 σ H1 Q I1 q1
 | true=>exact ⟨.bl true,H1,I1,rfl,q1⟩
theorem Ui (ha:PE X a ta):PE X (.UnaryOp .Not a pos) (WQ ta):=by
 intro pins s σ H Q I h;refine UnaryOp_ (dH (ha pins s σ H _ I h) fun v s1 ⟨x,H1,I1,r1,q1⟩=> ?_);obtain ⟨c,rfl,q1⟩:=q1;cases r1;exact not_of (wpAny_truthy_bool ⟨.bl (!c),H1,I1,rfl,q1⟩)
def tIf (t:TT) (ta tb:TE):TE:=fun σ H Q=>t σ H fun c H1=>if c=true then ta σ H1 Q else tb σ H1 Q
theorem jR {c:Expr} (hc:PT X c tA) (ha:PE X a ta) (hb:PE X b tb):PE X (.IfExp c a b pos) (tIf tA ta tb):=by
 intro pins s σ H Q I h;refine wpAny_IfExp (dH (hc pins s σ H _ I h) fun d s1 ⟨H1,I1,q1⟩=> ?_);cases d with
 | true=>exact ha pins s1 σ H1 Q I1 q1
 | false=>exact hb pins s1 σ H1 Q I1 q1
end
end L2
namespace L2
open PySem PySem.Spec PyProof.Rows
def bH (K:PySem.W.Frag) (H:Hp) (a:Addr) (xs:List V):Prop:=
 Rd H a (.lst xs) \/
  ∃(o:Obj) (its:Array Value) (n:Nat),K.lookup a=some o/\o.cls = .type "list" /\ o.dict=none/\o.data = .seq its n/\its.size<=sizeLine/\Vals xs its.toList
def dg (K:PySem.W.Frag) (H:Hp) (a:Addr) (xs:List V):Prop:=
 Rd H a (.tup xs) \/
  ∃(o:Obj) (its:Array Value) (n:Nat),K.lookup a=some o/\o.cls = .type "tuple" /\ o.data = .seq its n/\its.size<=sizeLine/\Vals xs its.toList
def ahu:Value->Option V
 | .none=>some .non
 | .bool b=>some (.bl b)
 | .int i _=>some (.int i)
 | .str x _=>some (.str x)
 | .bytes b _=>some (.J5 b)
 | .float b _=>some (.flt b)
 | .ref a=>some (.ref a)
 | .type n=>some (.ty n)
 | _=>none
theorem RelV.abs {x:V} {u:Value} (r:RelV x u):ahu u=some x:=by
 cases x with
 | non=>cases r;rfl
 | bl _=>cases r;rfl
 | int _=>obtain ⟨t,rfl⟩:=r;rfl
 | str _=>obtain ⟨t,rfl⟩:=r;rfl
 | J5 _=>obtain ⟨t,rfl⟩:=r;rfl
 | flt _=>obtain ⟨t,rfl⟩:=r;rfl
 | ref _=>cases r;rfl
 | ty _=>cases r;rfl
theorem RelV.inj {x y:V} {u:Value} (r:RelV x u) (q:RelV y u):x=y:=Option.some.inj (r.abs.symm.trans q.abs)
theorem Vals.inj {xs ys:List V} {us:List Value} (h:Vals xs us) (h':Vals ys us):xs=ys:=by
 induction h generalizing ys with
 | nil=>cases h';rfl
 | cons r t ih=>cases h' with
   | cons r' t'=>rw [r.inj r',ih t']
section
variable {X:Cx} {pins:List (Addr×Obj)} {σ:St} {H:Hp} {s:Shared} {a:Addr} {xs ys:List V}
theorem bH.of {K:PySem.W.Frag} (h:H a=some (.lst xs)):bH K H a xs:= .inl (.inl h)
theorem dg.of {K:PySem.W.Frag} (h:H a=some (.tup xs)):dg K H a xs:= .inl (.inl h)
theorem Inv.list (I:Inv X pins σ H s) (h:bH X.K H a xs):∃its:List Value,Vals xs its/\PlainL s.heap a its.toArray/\xs.length<=sizeLine:=by
 rcases h with h|⟨o,its,n,hk,hc,hd,hs,hz,r⟩
 ·obtain ⟨z,its,n,r,e⟩:=h.ok I.hok
  exact ⟨its,r,⟨_,n,e,rfl,rfl,rfl⟩,z⟩
 ·refine ⟨its.toList,r,⟨o,n,I.oA a o hk,hc,hd,by simpa using hs⟩, ?_⟩
  have e:=r.length;simp only [Array.length_toList] at e;omega
theorem Inv.tuple (I:Inv X pins σ H s) (h:dg X.K H a xs):∃its:List Value,Vals xs its/\IsTup s.heap a its.toArray/\xs.length<=sizeLine:=by
 rcases h with h|⟨o,its,n,hk,hc,hs,hz,r⟩
 ·obtain ⟨z,its,r,p⟩:=h.ok I.hok
  exact ⟨its,r,p,z⟩
 ·refine ⟨its.toList,r,⟨o,I.oA a o hk,hc,n,by simpa using hs⟩, ?_⟩
  have e:=r.length;simp only [Array.length_toList] at e;omega
theorem Inv.qI (I:Inv X pins σ H s) (h:bH X.K H a xs) (h':bH X.K H a ys):xs=ys:=by
 obtain ⟨its,r,⟨o,n,e,_,_,d⟩,_⟩:=I.list h;obtain ⟨its',r',⟨o',n',e',_,_,d'⟩,_⟩:=I.list h';rw [e] at e';cases e';rw [d] at d';injection d' with d1 _
 have:its=its':=by simpa using congrArg Array.toList d1
 subst this;exact r.inj r'
theorem Inv.yG (I:Inv X pins σ H s) (h:dg X.K H a xs) (h':dg X.K H a ys):xs=ys:=by
 obtain ⟨its,r,⟨o,e,_,n,d⟩,_⟩:=I.tuple h;obtain ⟨its',r',⟨o',e',_,n',d'⟩,_⟩:=I.tuple h';rw [e] at e';cases e';rw [d] at d';injection d' with d1 _
 have:its=its':=by simpa using congrArg Array.toList d1
 subst this;exact r.inj r'
end
abbrev Cx.wish (X:Cx) (E:Value->Shared->Prop):Cx:={X with xe:=E}
abbrev Cx.V5 (X:Cx):Cx:=X.wish fun _ _=>False
theorem Cx.Ok.wish {X:Cx} (ok:X.Ok) (E:Value->Shared->Prop):(X.wish E).Ok:=
 ⟨ok.mod,ok.kind,ok.glob,ok.blt,ok.above,ok.inj,ok.has,ok.cab,ok.hd,ok.frames,ok.stk,ok.exf,ok.bs,ok.J7,ok.JB,ok.QV,ok.qP,ok.RW⟩
theorem Cx.Ok.nQ {X:Cx} {E:Value->Shared->Prop} (ok:(X.wish E).Ok):X.Ok:=
 ⟨ok.mod,ok.kind,ok.glob,ok.blt,ok.above,ok.inj,ok.has,ok.cab,ok.hd,ok.frames,ok.stk,ok.exf,ok.bs,ok.J7,ok.JB,ok.QV,ok.qP,ok.RW⟩
section
variable {X:Cx} {pins:List (Addr×Obj)} {σ:St} {H:Hp} {s:Shared} {E:Value->Shared->Prop}
theorem Inv.wish (I:Inv X pins σ H s) (E:Value->Shared->Prop):Inv (X.wish E) pins σ H s:=⟨I.ok.wish E,I.os,I.bare,I.base,I.loc,I.cell,I.free,I.nG,I.pin,I.hok,I.len⟩
theorem Inv.nQ (I:Inv (X.wish E) pins σ H s):Inv X pins σ H s:=⟨I.ok.nQ,I.os,I.bare,I.base,I.loc,I.cell,I.free,I.nG,I.pin,I.hok,I.len⟩
theorem SP.nQ {D:Ends} {f:Flow} {s':Shared} (h:SP (X.wish E) pins D f s'):SP X pins D f s':=by
 cases f with
 | next=>obtain ⟨σ',H',I,q⟩:=h;exact ⟨σ',H',I.nQ,q⟩
 | brk=>obtain ⟨σ',H',I,q⟩:=h;exact ⟨σ',H',I.nQ,q⟩
 | cont=>obtain ⟨σ',H',I,q⟩:=h;exact ⟨σ',H',I.nQ,q⟩
 | ret u=>obtain ⟨v,σ',H',I,r,q⟩:=h;exact ⟨v,σ',H',I.nQ,r,q⟩
theorem Eb.V5 {st:List Stmt} {t:TS} (h:Eb X.V5 st t):Eb X st t:=fun pins s σ H D I hw=>
 wpAny_mono (h pins s σ H D (I.wish _) hw) (fun _ _ q=>q.nQ) fun _ _ z=>False.elim z
end
section
variable {X:Cx} {st:Stmt} {rest:List Stmt} {t u:TS} {e:Expr} {te:TE} {pos:Pos}
def K_:TS:=fun D σ H=>D.nx σ H
def Pn (t u:TS):TS:=fun D σ H=>t {D with nx:=u D} σ H
theorem bF:Eb X [] K_:=fun _ _ σ H _ I h=>wpAny_execs_nil ⟨σ,H,I,h⟩
theorem aB (h1:PS X st t) (h2:Eb X rest u):Eb X (st::rest) (Pn t u):=by
 intro pins s σ H D I h;refine wpAny_execs_cons (dH (h1 pins s σ H {D with nx:=u D} I h) fun f s1 q=> ?_);cases f with
 | next=>
   obtain ⟨σ',H',I',q⟩:=q;exact h2 pins s1 σ' H' D I' q
 | ret v=>exact q
 | brk=>exact q
 | cont=>exact q
theorem aG (h1:PS X st t):Eb X [st] t:=by
 intro pins s σ H D I h;refine wpAny_execs_cons (dH (h1 pins s σ H D I h) fun f s1 q=> ?_);cases f with
 | next=>exact wpAny_execs_nil q
 | ret v=>exact q
 | brk=>exact q
 | cont=>exact q
theorem Inv.quiet {pins:List (Addr×Obj)} {σ:St} {H:Hp} {s:Shared} (I:Inv X pins σ H s):interactive X.env=false:=by simp [interactive,I.ok.kind]
def WX (te:TE):TS:=fun D σ H=>te σ H fun _ H1=>D.nx σ H1
theorem eX (he:PE X e te) (hs:swapsWith e none pos.line X.env=pure false:=by rfl):PS X (.Expr e pos) (WX te):=by
 intro pins s σ H D I h;exact wpAny_Expr_any (dH (he pins s σ H _ I h) fun v s1 ⟨x,H1,I1,r1,q1⟩=>⟨σ,H1,I1,q1⟩) I.quiet hs
def Tp (te:TE):TS:=fun D σ H=>te σ H D.rt
theorem aZ (he:PE X e te):PS X (.Return (some e) pos) (Tp te):=by
 intro pins s σ H D I h;exact wpAny_Return_some (dH (he pins s σ H _ I h) fun v s1 ⟨x,H1,I1,r1,q1⟩=>⟨x,σ,H1,I1,r1,q1⟩)
def WK:TS:=fun D _ H=>D.rt .non H
theorem Qc:PS X (.Return none pos) WK:=fun _ _ σ H _ I h=>wpAny_Return_none ⟨.non,σ,H,I,rfl,h⟩
def WT (c:TT) (t u:TS):TS:=fun D σ H=>c σ H fun b H1=>if b=true then t D σ H1 else u D σ H1
theorem cG {c:Expr} {a b:List Stmt} {tc:TT} (hc:PT X c tc) (ha:Eb X a t) (hb:Eb X b u):PS X (.If c a b pos) (WT tc t u):=by
 intro pins s σ H D I h;refine wpAny_If (dH (hc pins s σ H _ I h) fun d s1 ⟨H1,I1,q1⟩=> ?_);cases d with
 | true=>exact ha pins s1 σ H1 D I1 q1
 | false=>exact hb pins s1 σ H1 D I1 q1
def Tr:TS:=fun _ _ _=>False
theorem Ls:PS X st Tr:=fun _ _ _ _ _ _ h=>h.elim
end
abbrev TG:=V->St->Hp->(St->Hp->Prop)->Prop
abbrev Sv:=List V->St->Hp->(St->Hp->Prop)->Prop
def PG (X:Cx) (target:Expr) (t:TG):Prop:=
 ∀(pins:List (Addr×Obj)) (s:Shared) (σ:St) (H:Hp) (v:V) (u:Value) (Q:St->Hp->Prop),Inv X pins σ H s->RelV v u->t v σ H Q ->
  wpAny (model X.prog X.w) X.A (assign target X.env u) (fun _ s'=>∃σ' H',Inv X pins σ' H' s'/\Q σ' H') X.xe s
def Zx (X:Cx) (ts:List Expr) (t:Sv):Prop:=
 ∀(pins:List (Addr×Obj)) (s:Shared) (σ:St) (H:Hp) (vs:List V) (us:List Value) (Q:St->Hp->Prop),Inv X pins σ H s->Vals vs us->t vs σ H Q ->
  wpAny (model X.prog X.w) X.A (assignInOrder ((assignEach ts X.env).map (·.2)) us) (fun _ s'=>∃σ' H',Inv X pins σ' H' s'/\Q σ' H') X.xe s
abbrev Vz:=V->V->V->Hp->(Hp->Prop)->Prop
def Zw (X:Cx) (t:Vz):Prop:=
 ∀(pins:List (Addr×Obj)) (s:Shared) (σ:St) (H:Hp) (o i v:V) (ov iv u:Value) (Q:Hp->Prop),Inv X pins σ H s->RelV o ov->RelV i iv->RelV v u->t o i v H Q ->
  wpAny (model X.prog X.w) X.A (setItem ov iv u) (fun _ s'=>∃H',Inv X pins σ H' s'/\Q H') X.xe s
abbrev TIp:=V->V->Hp->VK->Prop
def PIp (X:Cx) (op:Operator) (t:TIp):Prop:=
 ∀(pins:List (Addr×Obj)) (s:Shared) (σ:St) (H:Hp) (x y:V) (v u:Value) (Q:VK),Inv X pins σ H s->RelV x v->RelV y u->t x y H Q ->
  wpAny (model X.prog X.w) X.A (inplaceOp op v u) (EP X pins σ Q) X.xe s
section
variable {X:Cx} {pos:Pos}
def iV (i:Nat):TG:=fun v σ H Q=>Q (σ.set i (some v)) H
theorem bJ {i:Nat} {x:Str} (hN:X.N.Nodup) (hi:X.N[i]? = some x) (hx:Loc X.env.scope x) (hf:X.fn x=true\/X.env.scope.names.lookup x=some .local:=by first |exact .inl rfl|exact .inr rfl|assumption):PG X (.Name x pos) (iV i):=by
 intro pins s σ H v u Q I r h;exact wpAny_assign_Name (vM I hN hi hx r (fun s' I'=>⟨_,H,I',h⟩) hf)
def Ve:Sv:=fun vs σ H Q=>vs=[]/\Q σ H
def Dg (t:TG) (u:Sv):Sv:=fun vs σ H Q=>∃v r,vs=v::r/\t v σ H fun σ' H'=>u r σ' H' Q
theorem Hu:Zx X [] Ve:=by
 intro pins s σ H vs us Q I r h;obtain ⟨e,h⟩:=h;subst e;cases r;exact assignInOrder_nil ⟨σ,H,I,h⟩
theorem qH {e:Expr} {es:List Expr} {t:TG} {u:Sv} (h1:PG X e t) (h2:Zx X es u)
 (hs:(assignEach (e::es) X.env).map (·.2)=assign e X.env::(assignEach es X.env).map (·.2):=by rfl):Zx X (e::es) (Dg t u):=by
 intro pins s σ H vs us Q I r h;obtain ⟨v,vr,e1,h⟩:=h;subst e1;cases r with
 | cons r rr=>
   rw [hs];refine assignInOrder_cons (dH (h1 pins s σ H _ _ _ I r h) fun _ s1 ⟨σ1,H1,I1,q1⟩=> ?_);exact h2 pins s1 σ1 H1 _ _ Q I1 rr q1
def QM (K:PySem.W.Frag) (n:Nat) (t:Sv):TG:=fun v σ H Q=>∃a xs,v = .ref a/\dg K H a xs/\xs.length=n/\t xs σ H Q
theorem Ug {es:List Expr} {k:Nat} {t:Sv} {n:Nat} (hc:X.calm=true) (h:Zx X es t)
 (hn:(assignEach es X.env).length=n:=by rfl) (hst:(assignEach es X.env).findIdx? (·.1)=none:=by rfl):PG X (.Tuple es k pos) (QM X.K n t):=by
 intro pins s σ H v u Q I r hw;obtain ⟨a,xs,e1,hq,hl,hw⟩:=hw;subst e1;cases r;obtain ⟨its,rv,ht,hz⟩:=I.tuple hq;refine assign_Tuple_tuple (I.ok.hd hc) ht (by simp [hn,←hl,rv.length]) hst fun h' hx=> ?_;have I1:Inv X pins σ H {s with heap:=h'}:=I.kept (t':=s.toks) fun b o e=>hx b o (Nat.ne_of_lt (Heap.lt_size e)) e;exact h pins _ σ H xs _ Q I1 (by simpa using rv) hw
def afv (to ti:TE) (t:Vz):TG:=fun v σ H Q=>to σ H fun o H1=>ti σ H1 fun i H2=>t o i v H2 fun H3=>Q σ H3
theorem sG {o i:Expr} {to ti:TE} {t:Vz} (ho:PE X o to) (hi:PE X i ti) (hs:Zw X t)
 (ha:∀v,assign (.Subscript o i pos) X.env v=(do
   let ov ←holding [v] (eval o X.env)
   let iv ←holding [v,ov] (eval i X.env)
   standAt pos
   holding [v,ov,iv] (setItem ov iv v)
   release [v,ov,iv] []):=by intro _;rfl):PG X (.Subscript o i pos) (afv to ti t):=by
 intro pins s σ H v u Q I r h;rw [ha];refine wpAny_bind (wpAny_holding (dH (ho pins s σ H _ I h) fun ov s1 ⟨x,H1,I1,r1,q1⟩=> ?_));refine wpAny_bind (wpAny_holding (dH (hi pins s1 σ H1 _ I1 q1) fun iv s2 ⟨y,H2,I2,r2,q2⟩=> ?_));refine wpAny_bind (wpAny_standAt (wpAny_bind (wpAny_holding (dH (hs pins s2 σ H2 x y v ov iv u _ I2 r1 r2 r q2) fun _ s3 ⟨H3,I3,q3⟩=> ?_))));exact wpAny_release ⟨σ,H3,I3,q3⟩
def Tz (te:TE) (g:TG):TS:=fun D σ H=>te σ H fun x H1=>g x σ H1 D.nx
theorem rY {tg e:Expr} {te:TE} {g:TG} (he:PE X e te) (hg:PG X tg g) (hs:swapsWithSole [tg] e pos.line X.env=pure false:=by rfl) (hw:swappedStores [tg] e X.env=pure none:=by rfl)
 (h1:(assignEach [tg] X.env).map (·.2)=[assign tg X.env]:=by rfl):PS X (.Assign [tg] e pos) (Tz te g):=by
 intro pins s σ H D I h;refine wpAny_Assign_stores (dH (he pins s σ H _ I h) fun v s1 ⟨x,H1,I1,r1,q1⟩=> ?_) hs hw;rw [h1];exact dH (hg pins s1 σ H1 x v _ I1 r1 q1) fun _ s2 q=>q
theorem bB {i:Nat} {x:Str} {e:Expr} {te:TE} {pos':Pos} (hN:X.N.Nodup) (hi:X.N[i]? = some x) (hx:Loc X.env.scope x) (he:PE X e te) (hs:swapsWith e (some (.Name x pos')) pos.line X.env=pure false:=by rfl) (hf:X.fn x=true\/X.env.scope.names.lookup x=some .local:=by first |exact .inl rfl|exact .inr rfl|assumption):
 PS X (.Assign [.Name x pos'] e pos) (Tz te (iV i)):=by
 intro pins s σ H D I h;refine wpAny_Assign_Name (dH (he pins s σ H _ I h) fun v s1 ⟨y,H1,I1,r1,q1⟩=> ?_) hs;exact vM I1 hN hi hx r1 (fun s2 I2=>⟨_,H1,I2,q1⟩) hf
def aby (i:Nat) (te:TE) (ti:TIp):TS:=fun D σ H=>∃x,σ[i]? = some (some x)/\te σ H fun y H1=>ti x y H1 fun z H2=>D.nx (σ.set i (some z)) H2
theorem Uc {i:Nat} {x:Str} {e:Expr} {te:TE} {op:Operator} {ti:TIp} {pos':Pos} (hN:X.N.Nodup) (hi:X.N[i]? = some x) (hx:Loc X.env.scope x) (he:PE X e te) (ho:PIp X op ti) (hf:X.fn x=true\/X.env.scope.names.lookup x=some .local:=by first |exact .inl rfl|exact .inr rfl|assumption):
 PS X (.AugAssign (.Name x pos') op e pos) (aby i te ti):=by
 intro pins s σ H D I h;obtain ⟨v,e1,h⟩:=h;obtain ⟨m,hn,hl⟩:=I.loc;have vis:Vis X.env.scope x:=by rcases hx with k|k;exact .inl k;exact .inr (.inl k)
 obtain ⟨u,r,l⟩:=hl i x v hi e1 vis;refine wpAny_AugAssign_Name ?_
 have go:wpAny (model X.prog X.w) X.A (eval e X.env) (fun w s₂=>wpAny (model X.prog X.w) X.A (inplaceOp op u w) (fun r s₃=>wpAny (model X.prog X.w) X.A (storeName X.env x r) (fun _=>SP X pins D .next) X.xe s₃) X.xe s₂) X.xe s:=by
  refine dH (he pins s σ H _ I h) fun w s1 ⟨y,H1,I1,r1,q1⟩=> ?_;refine dH (ho pins s1 σ H1 v y u w _ I1 r r1 q1) fun z s2 ⟨zv,H2,I2,r2,q2⟩=> ?_;exact vM I2 hN hi hx r2 (fun s3 I3=>⟨_,H2,I3,q2⟩) hf
 rcases l with ⟨hk,hm⟩|⟨hk,c,hc,hcell⟩
 ·exact wpAny_loadName_local I.ok.kind hk hn hm go
 ·rcases hk with hk|hk
  ·exact wpAny_loadName_cell I.ok.kind hk hc hcell go
  ·rcases hx with k|k
   ·have:X.env.scope.names.lookup x=some .free:=hk
    rw [k] at this;cases this
   ·have:X.env.scope.names.lookup x=some .free:=hk
    rw [k] at this;cases this
def ipI (f:Int->Int->Int):TIp:=fun x y H Q=>∃i j,x = .int i/\y = .int j/\Q (.int (f i j)) H
theorem FN:PIp X .Add (ipI fun i j=>i+j):=by
 intro pins s σ H x y v u Q I r1 r2 h;obtain ⟨i,j,e1,e2,q⟩:=h;subst e1;subst e2;obtain ⟨t,rfl⟩:=r1;obtain ⟨t',rfl⟩:=r2;exact iadd_int ⟨.int _,H,I.tok _,⟨_,rfl⟩,q⟩
end
section
variable {X:Cx} {pos:Pos}
def Tn (c:TT) (tb:TS):TS:=fun D σ H=>∃W:Nat->St->Hp->Prop,(∃m,W m σ H) /\ ∀m σ H,W m σ H ->
 c σ H fun b H1=>if b=true then ∃N:St->Hp->Prop,(∀σ' H',N σ' H' -> ∃m',m'<m/\W m' σ' H')/\tb {D with nx:=N,ct:=N,bk:=D.nx} σ H1 else D.nx σ H1
theorem Lr {c:Expr} {body:List Stmt} {tc:TT} {tb:TS} (hp:PassesOwn (model X.prog X.w) X.A X.env X.xe) (hc:PT X c tc) (hb:Eb X body tb):PS X (.While c body [] pos) (Tn tc tb):=by
 intro pins s σ H D I h;obtain ⟨W,⟨m0,w0⟩,turn⟩:=h;refine wpAny_While (codeAny_whileLoop (fun n s'=>∃σ' H',Inv X pins σ' H' s'/\W n σ' H') ?_ m0 ⟨σ,H,I,w0⟩);rintro n s1 ⟨σ1,H1,I1,w1⟩;refine wpAny_passesOwn hp (dH (hc pins s1 σ1 H1 _ I1 (turn n σ1 H1 w1)) fun b s2 ⟨H2,I2,q2⟩=> ?_);cases b with
 | true=>
   obtain ⟨N,hN,q2⟩:=q2;rw [if_pos rfl];refine wpAny_passesOwn hp (dH (hb pins s2 σ1 H2 _ I2 q2) fun f s3 q3=> ?_);cases f with
   | next=>
     obtain ⟨σ3,H3,I3,n3⟩:=q3;obtain ⟨m',hm,w3⟩:=hN σ3 H3 n3;exact ⟨m',hm,σ3,H3,I3,w3⟩
   | cont=>
     obtain ⟨σ3,H3,I3,n3⟩:=q3;obtain ⟨m',hm,w3⟩:=hN σ3 H3 n3;exact ⟨m',hm,σ3,H3,I3,w3⟩
   | brk=>exact q3
   | ret v=>exact q3
 | false=>
   rw [if_neg Bool.false_ne_true];exact wpAny_execs_nil ⟨σ1,H2,I2,q2⟩
end
structure It where
 go:Nat->Hp->Prop
 V2:Nat->Hp->V->Hp->Prop
 stop:Nat->Hp->Prop
def kY (X:Cx) (pins:List (Addr×Obj)) (H:Hp) (b:Addr):Prop:=
 H b=none/\b≠X.env.locals/\b∉X.fs/\(b∈X.ex\/X.s₀.heap.objs.size<=b)/\(∀x c,X.env.cells.lookup x=some c->c≠b) /\ ∀p∈X.pn++pins,p.1≠b
theorem Inv.wD {X:Cx} {pins:List (Addr×Obj)} {σ:St} {H H':Hp} {s:Shared} {b:Addr} (I:Inv X pins σ H s) (hb:s.heap.objs.size<=b) (hn:H' b=none):kY X pins H' b:=by
 refine ⟨hn,Nat.ne_of_gt (Nat.lt_of_lt_of_le I.lt hb),I.ad0 hb,.inr (Nat.le_trans I.sz hb),fun x c e z=> ?_,fun p hp z=> ?_⟩
 ·obtain ⟨v,q⟩:=I.cell x c e
  exact absurd (Nat.lt_of_lt_of_le q.lt (by rw [z];exact hb)) (Nat.lt_irrefl _)
 ·exact absurd (Nat.lt_of_lt_of_le (Heap.lt_size (I.pin p hp).1) (by rw [z];exact hb)) (Nat.lt_irrefl _)
structure Turn (P:Program) (w:World) (K:PySem.W.Frag) (tg:Expr) (J:It) (fp:List Addr) (it:Addr) (tn:Nat->Heap->Prop):Prop where
 mem:it∈fp
 obj:∀i h,tn i h -> ∀b∈fp,∃o,h.get? b=some o /\ ∀v,o.data ≠ .cell v
 keep:∀i h h',tn i h->(∀b∈fp,∀o,h.get? b=some o->h'.get? b=some o)->tn i h'
 item:∀(X:Cx),X.prog=P->X.w=w->X.K=K->X.calm=true -> ∀(i:Nat) (pins:List (Addr×Obj)) (s:Shared) (σ:St) (H:Hp) (E:Value->Shared->Prop),Inv X pins σ H s->(∀b∈fp,kY X pins H b)->tn i s.heap->J.go i H ->
  wpAny (model P w) X.A (pyNext (.ref it)) (fun r s1=>∃u,r=some u /\
   wpAny (model P w) X.A (letOwnedTupleGo tg (.ref it) u) (fun _ s2=>∃x H',Inv X pins σ H' s2/\RelV x u/\J.V2 i H x H'/\tn (i+1) s2.heap /\ ∀b∈fp,H' b=none) E s1) E s
 done:∀(X:Cx),X.prog=P->X.w=w->X.K=K->X.calm=true -> ∀(i:Nat) (pins:List (Addr×Obj)) (s:Shared) (σ:St) (H:Hp) (E:Value->Shared->Prop),Inv X pins σ H s->(∀b∈fp,kY X pins H b)->tn i s.heap->J.stop i H ->
  wpAny (model P w) X.A (pyNext (.ref it)) (fun r s1=>r=none/\Inv X pins σ H s1) E s
 self:∀(A:Around) (i:Nat) (s:Shared) (Q:Value->Shared->Prop) (E:Value->Shared->Prop),tn i s.heap->Q (.ref it) s->wpAny (model P w) A (pyIter (.ref it)) Q E s
abbrev TI:=St->Hp->(It->Hp->Prop)->Prop
def PIE (X:Cx) (pins:List (Addr×Obj)) (σ:St) (tg:Expr) (R:It->Hp->Prop) (itv:Value) (s2:Shared):Prop:=
 ∃(it:Addr) (fp:List Addr) (tn:Nat->Heap->Prop) (J:It) (H':Hp),itv = .ref it/\Inv X pins σ H' s2/\Turn X.prog X.w X.K tg J fp it tn/\tn 0 s2.heap/\(∀b∈fp,kY X pins H' b)/\R J H'
def PI (X:Cx) (tg iter:Expr) (wi:TI):Prop:=
 ∀(pins:List (Addr×Obj)) (s:Shared) (σ:St) (H:Hp) (R:It->Hp->Prop),Inv X pins σ H s->wi σ H R ->
  wpAny (model X.prog X.w) X.A (eval iter X.env) (fun v s1=>wpAny (model X.prog X.w) X.A (pyIter v) (PIE X pins σ tg R) X.xe s1) X.xe s
theorem Ih {M:Model} {A:Around} {E:Value->Shared->Prop} {s:Shared} {tg:Expr} {it:Addr} {u:Value} {o:Obj} {n:String} {vs:Array Value} {Q:Unit->Shared->Prop} (ho:s.heap.get? it=some o) (hc:o.cls = .type n) (hd:o.data = .fields vs)
 (hn:["enumerate","zip","dict_itemiterator","dict_reverseitemiterator","odict_iterator","itertools.zip_longest","itertools.pairwise"].contains n=false) (hQ:Q () s):wpAny M A (letOwnedTupleGo tg (.ref it) u) Q E s:=by
 unfold letOwnedTupleGo
 cases tg<;>first
  | exact wpAny_pure hQ
  | (cases u<;>first
      | exact wpAny_pure hQ
      | (refine wpAny_bind (wpAny_load ho ?_)
         rw [hc,hd];show wpAny M A (if (["enumerate","zip","dict_itemiterator","dict_reverseitemiterator","odict_iterator","itertools.zip_longest","itertools.pairwise"].contains n&&vs[0]? == some (rawInt _))=true then _ else _) Q E s;rw [if_neg (by intro h;rw [hn,Bool.false_and] at h;cases h)];exact wpAny_pure hQ))
def Sx (K:PySem.W.Frag) (a:Addr):It:=
 ⟨fun i H=>∃xs x,bH K H a xs/\xs[i]? = some x,fun i H x H'=>H'=H /\ ∀xs,bH K H a xs->xs[i]? = some x,fun i H=>∃xs,bH K H a xs/\xs.length<=i⟩
def Rj (lo:Int) (n:Nat):It:=⟨fun i _=>i<n,fun i H x H'=>H'=H/\x = .int (lo+i),fun i _=>n<=i⟩
theorem Jd {P:Program} {w:World} {K:PySem.W.Frag} {tg:Expr} (a it:Addr):Turn P w K tg (Sx K a) [it] it (fun i h=>h.IsListIter it a i) where
 mem:=by simp
 obj:=fun i h st b hb=>by
  have e:b=it:=by simpa using hb
  subst e;obtain ⟨o,e,c,d⟩:=st;exact ⟨o,e,fun v z=>by rw [d] at z;cases z⟩
 keep:=fun i h h' st k=>st.at fun o e=>k it (by simp) o e
 item:=by
  intro X hP hw hK hc i pins s σ H E I hf st hg;subst hP hw hK;obtain ⟨xs,x,hq,hx⟩:=hg;obtain ⟨its,rv,p,hz⟩:=I.list hq;obtain ⟨u,hu,ru⟩:=rv.get hx;obtain ⟨f0,f1,f2,f3,f4,f5⟩:=hf it (by simp);refine wpAny_pyNext_list_item st p.isList (x:=u) (by simpa using hu) fun h' st' sb=> ?_;have I1:Inv X pins σ H {s with heap:=h'}:=I.turned (t':=s.toks) (fun b o hb e=>(sb.2 b hb).trans e) f0 f1 f3 f4 f5;obtain ⟨o,e,c,d⟩:=id st';exact ⟨u,rfl,Ih (s:={s with heap:=h'}) e c d (by decide) ⟨x,H,I1,ru,⟨rfl,fun ys hy=>by rw [I.qI hy hq];exact hx⟩,st',fun b hb=>(hf b hb).1⟩⟩
 done:=by
  intro X hP hw hK hc i pins s σ H E I hf st hg;subst hP hw hK;obtain ⟨xs,hq,hx⟩:=hg;obtain ⟨its,rv,p,hz⟩:=I.list hq;obtain ⟨f0,f1,f2,f3,f4,f5⟩:=hf it (by simp);have hl:=rv.length;exact wpAny_pyNext_list_end (I.ok.hd hc) st p.isList (by simp;omega) fun h' eb=>⟨rfl,I.turned (t':=s.toks) (fun b o hb e=>eb b o hb e) f0 f1 f3 f4 f5⟩
 self:=fun _ _ _ _ _ st h=>wpAny_pyIter_listiter st h
theorem Ej {P:Program} {w:World} {K:PySem.W.Frag} {tg:Expr} (it:Addr) (lo:Int) (n:Nat):Turn P w K tg (Rj lo n) [it] it (fun i h=>IsRangeIter h it (lo+(i:Nat)*1) ((n:Int) - (i:Nat)) 1) where
 mem:=by simp
 obj:=fun i h st b hb=>by
  have e:b=it:=by simpa using hb
  subst e
  exact ⟨_,st,fun v z=>by
   have z':Data.fields _=Data.cell v:=z;cases z'⟩
 keep:=fun i h h' st k=>k it (by simp) _ st
 item:=by
  intro X hP hw hK hc i pins s σ H E I hf st hg;subst hP hw hK;obtain ⟨f0,f1,f2,f3,f4,f5⟩:=hf it (by simp);have W:=Walks.range (prog:=X.prog) (w:=X.w) (I.ok.hd hc) it lo 1 n;refine W.item i s _ _ hg st fun v h' tk hv st' kk=> ?_;obtain ⟨t,rfl⟩:=hv;have I1:Inv X pins σ H {s with heap:=h',toks:=tk}:=I.turned (fun b o hb e=>kk b o (by simpa using hb) e) f0 f1 f3 f4 f5;refine ⟨_,rfl,Ih (s:={s with heap:=h',toks:=tk}) (n:= "range_iterator") st' rfl rfl (by decide) ⟨.int (lo+i),H,I1,⟨t, ?_⟩,⟨rfl,rfl⟩,st',fun b hb=>(hf b hb).1⟩⟩;rw [Int.mul_one]
 done:=by
  intro X hP hw hK hc i pins s σ H E I hf st hg;subst hP hw hK;obtain ⟨f0,f1,f2,f3,f4,f5⟩:=hf it (by simp);exact wpAny_pyNext_range_end (I.ok.hd hc) st (by have:n<=i:=hg;omega) fun h' eb=>⟨rfl,I.turned (t':=s.toks) (fun b o hb e=>eb b o hb e) f0 f1 f3 f4 f5⟩
 self:=fun _ _ _ _ _ st h=>wpAny_pyIter_rangeiter st h
end L2
namespace L2
open PySem PySem.Spec PyProof.Rows
section
variable {X:Cx} {tg:Expr}
def RL (K:PySem.W.Frag) (tl:TE):TI:=fun σ H R=>tl σ H fun x H1=>∃a,x = .ref a/\(∃xs,bH K H1 a xs)/\R (Sx K a) H1
theorem Qf {l:Expr} {tl:TE} (hl:PE X l tl):PI X tg l (RL X.K tl):=by
 intro pins s σ H R I h;refine dH (hl pins s σ H _ I h) fun v s1 ⟨x,H1,I1,r1,q1⟩=> ?_;obtain ⟨a,e,⟨xs,hq⟩,q⟩:=q1;subst e;cases r1;obtain ⟨its,rv,p,hz⟩:=I1.list hq;refine wpAny_pyIter_list p.isList ?_;refine ⟨s1.heap.objs.size,[s1.heap.objs.size],_,_,H1,rfl,I1.kept (t':=s1.toks) fun b o e=>Heap.get?_push_of_some _ e,Jd a _,⟨_,Heap.get?_push_size _ rfl,rfl,rfl⟩,fun b hb=> ?_,q⟩;have e:b=s1.heap.objs.size:=by simpa using hb
 subst e;exact I1.wD (Nat.le_refl _) (I1.hok.fresh (Nat.le_refl _))
theorem B_ {pins:List (Addr×Obj)} {σ:St} {H:Hp} {s:Shared} {R:It->Hp->Prop} {E:Value->Shared->Prop} {lo hi:Int} {t u v:Tok} {tk:Nat} (I:Inv X pins σ H s) (h1: -(2 ^ 62)<=lo) (h2:lo<2 ^ 62) (h3: -(2 ^ 62)<=hi) (h4:hi<2 ^ 62)
 (q:R (Rj lo (hi - lo).toNat) H):wpAny (model X.prog X.w) X.A (pyIter (.ref s.heap.objs.size)) (PIE X pins σ tg R) E {s with heap:=s.heap.push {cls:= .type "range",data:= .fields #[.int lo t,.int hi u,.int 1 v]},toks:=tk}:=by
 refine wpAny_pyIter_range (IsRange.new ..) (small_one h1 h2 h3 h4) ?_;have I1:Inv X pins σ H {s with heap:=s.heap.push {cls:= .type "range",data:= .fields #[.int lo t,.int hi u,.int 1 v]},toks:=tk}:=I.kept fun b o e=>Heap.get?_push_of_some _ e
 refine ⟨(s.heap.push {cls:= .type "range",data:= .fields #[.int lo t,.int hi u,.int 1 v]}).objs.size,[(s.heap.push {cls:= .type "range",data:= .fields #[.int lo t,.int hi u,.int 1 v]}).objs.size],_,_,H,rfl,
  I1.kept (t':=tk) fun b o e=>Heap.get?_push_of_some _ e,Ej _ lo (hi - lo).toNat, ?_,fun b hb=> ?_,q⟩
 ·have e1:lo+((0:Nat):Int)*1=lo:=by simp
  have e2:(((hi - lo).toNat:Nat):Int) - ((0:Nat):Int)=Builtin.Range.rangeSize lo hi 1:=by rw [rangeSize_one];split<;>omega
  show IsRangeIter _ _ (lo+((0:Nat):Int)*1) ((((hi - lo).toNat:Nat):Int) - ((0:Nat):Int)) 1;rw [e1,e2];exact Heap.get?_push_size _ rfl
 ·have e:b=(s.heap.push {cls:= .type "range",data:= .fields #[.int lo t,.int hi u,.int 1 v]}).objs.size:=by simpa using hb
  subst e;exact I1.wD (Nat.le_refl _) (I1.hok.fresh (Nat.le_refl _))
def X8 (ta:TA):TI:=fun σ H R=>ta σ H fun vs H1=>∃j:Int,vs=[.int j] /\ -(2 ^ 62)<=j/\j<2 ^ 62/\R (Rj 0 j.toNat) H1
def X7 (ta:TA):TI:=fun σ H R=>ta σ H fun vs H1=>∃i j:Int,vs=[.int i,.int j]/\(-(2 ^ 62)<=i/\i<2 ^ 62 /\ -(2 ^ 62)<=j/\j<2 ^ 62)/\R (Rj i (j - i).toNat) H1
theorem dO {a:Expr} {ta:TA} {p pos:Pos} (hg:Gl X "range") (hm:X.mg "range" = none) (ha:PA X [a] ta) (hs:starEach [a] X.env=[(false,eval a X.env)]:=by rfl):PI X tg (.Call (.Name "range" p) [a] [] pos) (X8 ta):=by
 intro pins s σ H R I h;refine Call_ (mX I hg hm boot_range (PyProof.Rows.callWith_type1 (dH (ha pos pins s σ H _ I h) fun us s1 ⟨vs,H1,I1,r1,q1⟩=> ?_) hs rfl));obtain ⟨j,e,q1,q2,q⟩:=q1;subst e;cases r1 with
 | cons r rr=>
   cases rr;obtain ⟨t,rfl⟩:=r;exact call_range_1 (B_ I1 (by omega) (by omega) q1 q2 (by simpa using q))
theorem Jo {a b:Expr} {ta:TA} {p pos:Pos} (hg:Gl X "range") (hm:X.mg "range" = none) (ha:PA X [a,b] ta) (hs:starEach [a,b] X.env=[(false,eval a X.env),(false,eval b X.env)]:=by rfl) (hs2:starEach [b] X.env=[(false,eval b X.env)]:=by rfl):
 PI X tg (.Call (.Name "range" p) [a,b] [] pos) (X7 ta):=by
 intro pins s σ H R I h;refine Call_ (mX I hg hm boot_range (PyProof.Rows.callWith_type1 (dH (ha pos pins s σ H _ I h) fun us s1 ⟨vs,H1,I1,r1,q1⟩=> ?_) (by rw [hs,hs2]) (by rw [hs2];rfl)));obtain ⟨i,j,e,⟨q1,q2,q3,q4⟩,q⟩:=q1;subst e;cases r1 with
 | cons r rr=>
   cases rr with
   | cons r' rr=>
     cases rr;obtain ⟨t,rfl⟩:=r;obtain ⟨t',rfl⟩:=r';exact call_range_2 (B_ I1 q1 q2 q3 q4 q)
def abw (wi:TI) (g:TG) (tb:TS):TS:=fun D σ H=>wi σ H fun J H1=>∃W:Nat->Nat->St->Hp->Prop,(∃m,W 0 m σ H1) /\ ∀i m σ H,W i m σ H ->
 (J.stop i H/\D.nx σ H)\/(J.go i H /\ ∃N:St->Hp->Prop,(∀σ' H',N σ' H' -> ∃m',m'<m/\W (i+1) m' σ' H') /\ ∀x H',J.V2 i H x H'->g x σ H' fun σ2 H2=>tb {D with nx:=N,ct:=N,bk:=D.nx} σ2 H2)
def rZ (fp:List Addr) (h:Heap):List (Addr×Obj):=fp.filterMap fun b=>(h.get? b).map fun o=>(b,o)
theorem je {fp:List Addr} {h:Heap} {b:Addr} {o:Obj} (hb:b∈fp) (e:h.get? b=some o):(b,o)∈rZ fp h:=List.mem_filterMap.mpr ⟨b,hb,by rw [e];rfl⟩
theorem Jx {fp:List Addr} {h:Heap} {p:Addr×Obj} (hp:p∈rZ fp h):p.1∈fp/\h.get? p.1=some p.2:=by
 obtain ⟨b,hb,e⟩:=List.mem_filterMap.mp hp;cases q:h.get? b with
 | none=>rw [q] at e;cases e
 | some o=>
   rw [q] at e;have e':(b,o)=p:=Option.some.inj e;subst e';exact ⟨hb,q⟩
theorem Inv.pinned {pins:List (Addr×Obj)} {σ:St} {H:Hp} {s:Shared} {fp:List Addr} (I:Inv X pins σ H s) (hf:∀b∈fp,kY X pins H b) (ho:∀b∈fp,∃o,s.heap.get? b=some o /\ ∀v,o.data ≠ .cell v):Inv X (pins++rZ fp s.heap) σ H s:=
 I.Ht fun p hp=>(List.mem_append.mp hp).elim (fun z=>I.pin p (List.mem_append_right _ z)) fun z=>by
  obtain ⟨hb,e⟩:=Jx z;obtain ⟨f0,f1,f2,_⟩:=hf p.1 hb;obtain ⟨o,e',d⟩:=ho p.1 hb;rw [e] at e';cases e';exact ⟨e,f0,f1,f2,d⟩
theorem Inv.nR {pins pl:List (Addr×Obj)} {σ:St} {H:Hp} {s:Shared} (I:Inv X (pins++pl) σ H s):Inv X pins σ H s:=I.Ht fun p hp=>I.pin p (List.mem_append_right _ (List.mem_append_left _ hp))
theorem jQ {iter:Expr} {body:List Stmt} {wi:TI} {g:TG} {tb:TS} {pos:Pos} (hp:PassesOwn (model X.prog X.w) X.A X.env X.xe) (hc:X.calm=true) (hi:PI X tg iter wi) (hg:PG X tg g) (hb:Eb X body tb)
 (hs:∀x,foldedSetIterable iter X.env x=pure x:=by intro _;rfl):PS X (.For tg iter body [] pos) (abw wi g tb):=by
 intro pins s σ H D I h;refine wpAny_For (dH (hi pins s σ H _ I h) fun v s1 h1=>dH h1 fun itv s2 h2=> ?_) hs;obtain ⟨it,fp,tn,J,H2,e,I2,T,st2,f2,W,⟨m0,w0⟩,turn⟩:=h2;subst e;have stat:∀{H':Hp},(∀b∈fp,H' b=none) -> ∀b∈fp,kY X pins H' b:=fun hn b hb=>⟨hn b hb,(f2 b hb).2⟩;refine codeAny_forLoop_any (fun n s'=>∃i σ' H',Inv X pins σ' H' s'/\tn i s'.heap/\(∀b∈fp,H' b=none)/\W i n σ' H') ?_ m0 ⟨0,σ,H2,I2,st2,fun b hb=>(f2 b hb).1,w0⟩;rintro n s3 ⟨i,σ3,H3,I3,st3,RX,w3⟩;rcases turn i n σ3 H3 w3 with ⟨stop,qn⟩|⟨go,N,hN,step⟩
 ·refine wpAny_passesOwn hp (dH (T.done X rfl rfl rfl hc i pins s3 σ3 H3 X.xe I3 (stat RX) st3 stop) fun r s4 ⟨hr,I4⟩=> ?_)
  subst hr;exact wpAny_execs_nil ⟨σ3,H3,I4,qn⟩
 ·refine wpAny_passesOwn hp (dH (T.item X rfl rfl rfl hc i pins s3 σ3 H3 X.xe I3 (stat RX) st3 go) fun r s4 ⟨u,hr,h4⟩=> ?_)
  subst hr;refine wpAny_passesOwn hp (dH h4 fun _ s5 ⟨x,H5,I5,r5,y5,xR,Yn⟩=> ?_);have ZC:=I5.pinned (stat Yn) (T.obj _ _ xR);refine wpAny_passesOwn hp (dH (hg _ s5 σ3 H5 x u _ ZC r5 (step x H5 y5)) fun _ s6 ⟨σ6,H6,I6,q6⟩=> ?_);refine wpAny_passesOwn hp (dH (hb _ s6 σ6 H6 _ I6 q6) fun f s7 q7=> ?_)
  have again:∀{σ7:St} {H7:Hp},Inv X (pins++rZ fp s5.heap) σ7 H7 s7->N σ7 H7 -> ∃m,m<n /\ ∃i σ' H',Inv X pins σ' H' s7/\tn i s7.heap/\(∀b∈fp,H' b=none)/\W i m σ' H':=fun {σ7 H7} I7 n7=>by
   obtain ⟨m',hm,w7⟩:=hN σ7 H7 n7;refine ⟨m',hm,i+1,σ7,H7,I7.nR,T.keep _ _ _ xR fun b hb o e=>(I7.pin (b,o) (List.mem_append_right _ (List.mem_append_right _ (je hb e)))).1,fun b hb=> ?_,w7⟩;obtain ⟨o,e,d⟩:=T.obj _ _ xR b hb;exact (I7.pin (b,o) (List.mem_append_right _ (List.mem_append_right _ (je hb e)))).2.1
  cases f with
  | next=>obtain ⟨σ7,H7,I7,n7⟩:=q7;exact again I7 n7
  | cont=>obtain ⟨σ7,H7,I7,n7⟩:=q7;exact again I7 n7
  | brk=>obtain ⟨σ7,H7,I7,q7⟩:=q7;exact ⟨σ7,H7,I7.nR,q7⟩
  | ret v=>obtain ⟨x7,σ7,H7,I7,r7,q7⟩:=q7;exact ⟨x7,σ7,H7,I7.nR,r7,q7⟩
end
theorem oG {K:PySem.W.Frag} {a:Addr} {xs:List V} {g:TG} {tb:TS} {D:Ends} {σ:St} {H:Hp} (Pv:Nat->St->Hp->Prop) (h0:Pv 0 σ H) (hl:∀i σ H,i<=xs.length->Pv i σ H->bH K H a xs)
 (hs:∀i x σ H,xs[i]? = some x->Pv i σ H->g x σ H fun σ2 H2=>tb {D with nx:=Pv (i+1),ct:=Pv (i+1),bk:=D.nx} σ2 H2) (hd:∀σ H,Pv xs.length σ H->D.nx σ H):
 ∃W:Nat->Nat->St->Hp->Prop,(∃m,W 0 m σ H) /\ ∀i m σ H,W i m σ H ->
  ((Sx K a).stop i H/\D.nx σ H)\/((Sx K a).go i H /\ ∃N:St->Hp->Prop,(∀σ' H',N σ' H' -> ∃m',m'<m/\W (i+1) m' σ' H') /\ ∀x H',(Sx K a).V2 i H x H'->g x σ H' fun σ2 H2=>tb {D with nx:=N,ct:=N,bk:=D.nx} σ2 H2):=by
 refine ⟨fun i m σ H=>m=xs.length - i/\i<=xs.length/\Pv i σ H,⟨xs.length,by simp,Nat.zero_le _,h0⟩, ?_⟩;rintro i m σ H ⟨rfl,hi,p⟩;have q:=hl i σ H hi p
 by_cases hlt:i<xs.length
 ·refine .inr ⟨⟨xs,xs[i],q,by simp [hlt]⟩,Pv (i+1),fun σ' H' p'=>⟨xs.length - (i+1),by omega,rfl,hlt,p'⟩,fun x H' y=> ?_⟩
  obtain ⟨e,y⟩:=y;subst e;exact hs i x σ _ (y xs q) p
 ·have e:i=xs.length:=by omega
  subst e;exact .inl ⟨⟨xs,q,Nat.le_refl _⟩,hd σ H p⟩
theorem lM {lo:Int} {n:Nat} {g:TG} {tb:TS} {D:Ends} {σ:St} {H:Hp} (Pv:Nat->St->Hp->Prop) (h0:Pv 0 σ H)
 (hs:∀i σ H,i<n->Pv i σ H->g (.int (lo+i)) σ H fun σ2 H2=>tb {D with nx:=Pv (i+1),ct:=Pv (i+1),bk:=D.nx} σ2 H2) (hd:∀σ H,Pv n σ H->D.nx σ H):
 ∃W:Nat->Nat->St->Hp->Prop,(∃m,W 0 m σ H) /\ ∀i m σ H,W i m σ H ->
  ((Rj lo n).stop i H/\D.nx σ H)\/((Rj lo n).go i H /\ ∃N:St->Hp->Prop,(∀σ' H',N σ' H' -> ∃m',m'<m/\W (i+1) m' σ' H') /\ ∀x H',(Rj lo n).V2 i H x H'->g x σ H' fun σ2 H2=>tb {D with nx:=N,ct:=N,bk:=D.nx} σ2 H2):=by
 refine ⟨fun i m σ H=>m=n - i/\i<=n/\Pv i σ H,⟨n,by simp,Nat.zero_le _,h0⟩, ?_⟩;rintro i m σ H ⟨rfl,hi,p⟩
 by_cases hlt:i<n
 ·refine .inr ⟨hlt,Pv (i+1),fun σ' H' p'=>⟨n - (i+1),by omega,rfl,hlt,p'⟩,fun x H' y=> ?_⟩
  obtain ⟨e,y⟩:=y;subst e y;exact hs i σ _ hlt p
 ·have e:i=n:=by omega
  subst e;exact .inl ⟨Nat.le_refl _,hd σ H p⟩
end L2
namespace L2
open PySem PySem.Spec PyProof.Rows
abbrev R2:=V->V->Hp->VK->Prop
def qe (X:Cx) (f:Value->Value->Sem Value) (r:R2):Prop:=
 ∀(pins:List (Addr×Obj)) (s:Shared) (σ:St) (H:Hp) (x y:V) (v u:Value) (Q:VK),Inv X pins σ H s->RelV x v->RelV y u->r x y H Q ->
  wpAny (model X.prog X.w) X.A (f v u) (EP X pins σ Q) X.xe s
def UnR (X:Cx) (f:Value->Sem Value) (r:V->Hp->VK->Prop):Prop:=
 ∀(pins:List (Addr×Obj)) (s:Shared) (σ:St) (H:Hp) (x:V) (v:Value) (Q:VK),Inv X pins σ H s->RelV x v->r x H Q ->
  wpAny (model X.prog X.w) X.A (f v) (EP X pins σ Q) X.xe s
def iw (X:Cx) (f:Value) (r:List V->Hp->VK->Prop):Prop:=
 ∀(pins:List (Addr×Obj)) (s:Shared) (σ:St) (H:Hp) (xs:List V) (us:List Value) (Q:VK),Inv X pins σ H s->Vals xs us->r xs H Q ->
  wpAny (model X.prog X.w) X.A (call f us) (EP X pins σ Q) X.xe s
def GR (r:R2) (ta tb:TE):TE:=fun σ H Q=>ta σ H fun x H1=>tb σ H1 fun y H2=>r x y H2 Q
def tUn (r:V->Hp->VK->Prop) (ta:TE):TE:=fun σ H Q=>ta σ H fun x H1=>r x H1 Q
def rI (C:Int->Int->Prop) (g:Int->Int->V):R2:=fun x y H Q=>∃i j,x = .int i/\y = .int j/\C i j/\Q (g i j) H
def Rt (g:Int->Int->V):R2:=fun x y H Q=>∃i j,x = .int i/\y = .int j/\Q (g i j) H
def rU (g:Int->V):V->Hp->VK->Prop:=fun x H Q=>∃i,x = .int i/\Q (g i) H
section
variable {X:Cx} {a b c:Expr} {ta tb tc:TE} {pos:Pos}
theorem Vw (ha:PE X a ta) (hb:PE X b tb) {pins:List (Addr×Obj)} {s:Shared} {σ:St} {H:Hp} {R:V->V->Hp->Prop} (I:Inv X pins σ H s)
 (h:ta σ H fun x H1=>tb σ H1 fun y H2=>R x y H2) {Q:Value->Shared->Prop} {f:Value->Value->Sem Value}
 (hf:∀v u s2 x y H2,Inv X pins σ H2 s2->RelV x v->RelV y u->R x y H2->wpAny (model X.prog X.w) X.A (f v u) Q X.xe s2):
 wpAny (model X.prog X.w) X.A (eval a X.env) (fun v s₁=>wpAny (model X.prog X.w) X.A (eval b X.env) (fun u s₂=>wpAny (model X.prog X.w) X.A (f v u) Q X.xe s₂) X.xe s₁) X.xe s:=by
 refine dH (ha pins s σ H _ I h) fun v s1 ⟨x,H1,I1,r1,q1⟩=> ?_;refine dH (hb pins s1 σ H1 _ I1 q1) fun u s2 ⟨y,H2,I2,r2,q2⟩=> ?_;exact hf v u s2 x y H2 I2 r1 r2 q2
theorem cP {op:Operator} {r:R2} (ho:qe X (binaryOp op) r) (ha:PE X a ta) (hb:PE X b tb):PE X (.BinOp a op b pos) (GR r ta tb):=by
 intro pins s σ H Q I h;exact wpAny_BinOp (Vw ha hb I h fun v u s2 x y H2 I2 rx ry q=>ho pins s2 σ H2 x y v u Q I2 rx ry q)
theorem LR {op:UnaryOp} {r:V->Hp->VK->Prop} (ho:UnR X (unaryOp op) r) (ha:PE X a ta):PE X (.UnaryOp op a pos) (tUn r ta):=by
 intro pins s σ H Q I h;exact UnaryOp_ (dH (ha pins s σ H _ I h) fun v s1 ⟨x,H1,I1,r1,q1⟩=>ho pins s1 σ H1 x v Q I1 r1 q1)
theorem Xu {f:Value->Value->Sem Value} {C:Int->Int->Prop} {g:Int->Int->Int}
 (rule:∀(i j:Int) (t u:Tok) (s:Shared) (Q:Value->Shared->Prop) (E:Value->Shared->Prop),C i j->Q (.int (g i j) s.toks) {s with toks:=s.toks+1}->wpAny (model X.prog X.w) X.A (f (.int i t) (.int j u)) Q E s):
 qe X f (rI C fun i j=> .int (g i j)):=by
 intro pins s σ H x y v u Q I rx ry h;obtain ⟨i,j,rfl,rfl,hc,q⟩:=h;obtain ⟨t,rfl⟩:=rx;obtain ⟨t',rfl⟩:=ry;exact rule i j t t' s _ _ hc ⟨.int (g i j),H,I.tok _,⟨_,rfl⟩,q⟩
theorem Xq {f:Value->Value->Sem Value} {g:Int->Int->Int}
 (rule:∀(i j:Int) (t u:Tok) (s:Shared) (Q:Value->Shared->Prop) (E:Value->Shared->Prop),Q (.int (g i j) s.toks) {s with toks:=s.toks+1}->wpAny (model X.prog X.w) X.A (f (.int i t) (.int j u)) Q E s):
 qe X f (Rt fun i j=> .int (g i j)):=by
 intro pins s σ H x y v u Q I rx ry h;obtain ⟨i,j,rfl,rfl,q⟩:=h;obtain ⟨t,rfl⟩:=rx;obtain ⟨t',rfl⟩:=ry;exact rule i j t t' s _ _ ⟨.int (g i j),H,I.tok _,⟨_,rfl⟩,q⟩
theorem Qm {f:Value->Value->Sem Value} {g:Int->Int->Bool}
 (rule:∀(i j:Int) (t u:Tok) (s:Shared) (Q:Value->Shared->Prop) (E:Value->Shared->Prop),Q (.bool (g i j)) s->wpAny (model X.prog X.w) X.A (f (.int i t) (.int j u)) Q E s):
 qe X f (Rt fun i j=> .bl (g i j)):=by
 intro pins s σ H x y v u Q I rx ry h;obtain ⟨i,j,rfl,rfl,q⟩:=h;obtain ⟨t,rfl⟩:=rx;obtain ⟨t',rfl⟩:=ry;exact rule i j t t' s _ _ ⟨.bl (g i j),H,I,rfl,q⟩
def ZD (i j:Int):Prop:=0<j/\j<1073741824
def VN (i j:Int):Prop:=0<=j/\j<=1000000/\i.natAbs<2 ^ 64
def VP (i j:Int):Prop:=(-(2 ^ 64)<i/\i<2 ^ 64)\/(-(2 ^ 64)<j/\j<2 ^ 64)
theorem VP.ok {i j:Int} (h:VP i j):IntMulOk i j:=by
 rcases h with ⟨h1,h2⟩|⟨h1,h2⟩
 ·exact .of_left (intBits_le_64 h1 h2)
 ·exact .of_right (intBits_le_64 h1 h2)
theorem iJ:qe X (binaryOp .Add) (Rt fun i j=> .int (i+j)):=Xq fun _ _ _ _ _ _ _ q=>add_int q
theorem Fi:qe X (binaryOp .Sub) (Rt fun i j=> .int (i - j)):=Xq fun _ _ _ _ _ _ _ q=>sub_int q
theorem zW:qe X (binaryOp .Mult) (rI VP fun i j=> .int (i*j)):=Xu fun _ _ _ _ _ _ _ hc q=>mul_int q hc.ok
theorem HB:qe X (binaryOp .FloorDiv) (rI ZD fun i j=> .int (i / j)):=Xu fun i j _ _ _ _ _ hc q=>by
 have h1:(0:Int)<j:=hc.1;have h2:j<1073741824:=hc.2;exact floordiv_int (by omega) (by rw [Int.fdiv_eq_ediv_of_nonneg i (by omega)];exact q) (.inl (PyProof.noPylong_small (by omega)))
theorem kO:qe X (binaryOp .Mod) (rI (fun _ j=>0<j) fun i j=> .int (i % j)):=Xu fun i j _ _ _ _ _ hc q=>by
 have h1:(0:Int)<j:=hc;exact mod_int' (by omega) (by rw [Int.fmod_eq_emod_of_nonneg i (by omega)];exact q)
theorem Fj:qe X (binaryOp .Pow) (rI VN fun i j=> .int (i ^ j.toNat)):=Xu fun _ _ _ _ _ _ _ hc q=>pow_int_small hc.1 hc.2.1 hc.2.2 q
theorem unI {f:Value->Sem Value} {g:Int->Int}
 (rule:∀(i:Int) (t:Tok) (s:Shared) (Q:Value->Shared->Prop) (E:Value->Shared->Prop),Q (.int (g i) s.toks) {s with toks:=s.toks+1}->wpAny (model X.prog X.w) X.A (f (.int i t)) Q E s):
 UnR X f (rU fun i=> .int (g i)):=by
 intro pins s σ H x v Q I rx h;obtain ⟨i,rfl,q⟩:=h;obtain ⟨t,rfl⟩:=rx;exact rule i t s _ _ ⟨.int (g i),H,I.tok _,⟨_,rfl⟩,q⟩
theorem Ei:UnR X (unaryOp .USub) (rU fun i=> .int (-i)):=unI fun _ _ _ _ _ q=>neg_int q
end
def Xa:V->V->Bool
 | .non,.non=>true | .non,.int _=>true | .int _,.non=>true | .non,.bl _=>true | .bl _,.non=>true | .non,.str _=>true | .str _,.non=>true
 | .int _,.int _=>true | .bl _,.bl _=>true | .str _,.str _=>true | .J5 _,.J5 _=>true
 | .int _,.str _=>true | .str _,.int _=>true | .bl _,.str _=>true | .str _,.bl _=>true
 | _,_=>false
def rEq:R2:=fun x y H Q=>Xa x y=true/\Q (.bl (decide (x=y))) H
def ZW:R2:=fun x y H Q=>Xa x y=true/\Q (.bl (!decide (x=y))) H
theorem Im {i j:Int}:decide (V.int i=V.int j)=(i==j):=by
 rw [Bool.eq_iff_iff];simp
theorem NT {i j:Bool}:decide (V.bl i=V.bl j)=(i==j):=by
 rw [Bool.eq_iff_iff];simp
theorem Il {i j:Str}:decide (V.str i=V.str j)=(i==j):=by
 rw [Bool.eq_iff_iff];simp
theorem Io {i j:Array UInt8}:decide (V.J5 i=V.J5 j)=(i.toList==j.toList):=by
 rw [Bool.eq_iff_iff];cases i;cases j;simp
section
variable {X:Cx} {a b c:Expr} {ta tb tc:TE} {pos:Pos}
theorem cu {pins:List (Addr×Obj)} {σ:St} {H:Hp} {s:Shared} {Q:VK} {k k':Bool} (I:Inv X pins σ H s) (q:Q (.bl k) H) (e:k=k'):EP X pins σ Q (.bool k') s:=by
 subst e;exact ⟨.bl k,H,I,rfl,q⟩
theorem cU:qe X (compareOp .Eq) rEq:=by
 intro pins s σ H x y v u Q I rx ry h;obtain ⟨hs,q⟩:=h;cases x with
 | non=>
   cases rx;cases y with
   | non=>cases ry;exact PySem.EqNone.eq_none_none (cu I q (by simp))
   | bl j=>cases ry;exact PySem.EqNone.eq_none_bool (cu I q (by simp))
   | int j=>obtain ⟨t',rfl⟩:=ry;exact PySem.EqNone.eq_none_int (cu I q (by simp))
   | str j=>obtain ⟨t',rfl⟩:=ry;exact PySem.EqNone.eq_none_str (cu I q (by simp))
   | _=>exact absurd (show false=true from hs) Bool.false_ne_true
 | bl i=>
   cases rx;cases y with
   | non=>cases ry;exact PySem.EqNone.eq_bool_none (cu I q (by simp))
   | bl j=>cases ry;exact eq_bool (cu I q NT)
   | str j=>obtain ⟨t',rfl⟩:=ry;exact PySem.EqMixed.eq_bool_str (cu I q (by simp))
   | _=>exact absurd (show false=true from hs) Bool.false_ne_true
 | int i=>
   obtain ⟨t,rfl⟩:=rx;cases y with
   | non=>cases ry;exact PySem.EqNone.eq_int_none (cu I q (by simp))
   | int j=>obtain ⟨t',rfl⟩:=ry;exact eq_int (cu I q Im)
   | str j=>obtain ⟨t',rfl⟩:=ry;exact PySem.EqMixed.eq_int_str (cu I q (by simp))
   | _=>exact absurd (show false=true from hs) Bool.false_ne_true
 | str i=>
   obtain ⟨t,rfl⟩:=rx;cases y with
   | non=>cases ry;exact PySem.EqNone.eq_str_none (cu I q (by simp))
   | bl j=>cases ry;exact PySem.EqMixed.eq_str_bool (cu I q (by simp))
   | int j=>obtain ⟨t',rfl⟩:=ry;exact PySem.EqMixed.eq_str_int (cu I q (by simp))
   | str j=>obtain ⟨t',rfl⟩:=ry;exact eq_str (cu I q Il)
   | _=>exact absurd (show false=true from hs) Bool.false_ne_true
 | J5 i=>
   obtain ⟨t,rfl⟩:=rx;cases y with
   | J5 j=>obtain ⟨t',rfl⟩:=ry;exact PySem.W.eq_bytes (cu I q Io)
   | _=>exact absurd (show false=true from hs) Bool.false_ne_true
 | _=>cases y<;>exact absurd (show false=true from hs) Bool.false_ne_true
theorem oh:qe X (compareOp .NotEq) ZW:=by
 intro pins s σ H x y v u Q I rx ry h;obtain ⟨hs,q⟩:=h;cases x with
 | non=>
   cases rx;cases y with
   | non=>cases ry;exact PySem.EqNone.ne_none_none (cu I q (by simp))
   | bl j=>cases ry;exact PySem.EqNone.ne_none_bool (cu I q (by simp))
   | int j=>obtain ⟨t',rfl⟩:=ry;exact PySem.EqNone.ne_none_int (cu I q (by simp))
   | str j=>obtain ⟨t',rfl⟩:=ry;exact PySem.EqNone.ne_none_str (cu I q (by simp))
   | _=>exact absurd (show false=true from hs) Bool.false_ne_true
 | bl i=>
   cases rx;cases y with
   | non=>cases ry;exact PySem.EqNone.ne_bool_none (cu I q (by simp))
   | bl j=>cases ry;exact ne_bool (cu I q (congrArg not NT))
   | str j=>obtain ⟨t',rfl⟩:=ry;exact PySem.EqMixed.ne_bool_str (cu I q (by simp))
   | _=>exact absurd (show false=true from hs) Bool.false_ne_true
 | int i=>
   obtain ⟨t,rfl⟩:=rx;cases y with
   | non=>cases ry;exact PySem.EqNone.ne_int_none (cu I q (by simp))
   | int j=>obtain ⟨t',rfl⟩:=ry;exact ne_int (cu I q (congrArg not Im))
   | str j=>obtain ⟨t',rfl⟩:=ry;exact PySem.EqMixed.ne_int_str (cu I q (by simp))
   | _=>exact absurd (show false=true from hs) Bool.false_ne_true
 | str i=>
   obtain ⟨t,rfl⟩:=rx;cases y with
   | non=>cases ry;exact PySem.EqNone.ne_str_none (cu I q (by simp))
   | bl j=>cases ry;exact PySem.EqMixed.ne_str_bool (cu I q (by simp))
   | int j=>obtain ⟨t',rfl⟩:=ry;exact PySem.EqMixed.ne_str_int (cu I q (by simp))
   | str j=>obtain ⟨t',rfl⟩:=ry;exact ne_str (cu I q (congrArg not Il))
   | _=>exact absurd (show false=true from hs) Bool.false_ne_true
 | J5 i=>
   obtain ⟨t,rfl⟩:=rx;cases y with
   | J5 j=>obtain ⟨t',rfl⟩:=ry;exact PySem.W.ne_bytes (cu I q (congrArg not Io))
   | _=>exact absurd (show false=true from hs) Bool.false_ne_true
 | _=>cases y<;>exact absurd (show false=true from hs) Bool.false_ne_true
theorem Cp:qe X (compareOp .Lt) (Rt fun i j=> .bl (decide (i<j))):=Qm fun _ _ _ _ _ _ _ q=>lt_int q
theorem Xo:qe X (compareOp .LtE) (Rt fun i j=> .bl (decide (i<=j))):=Qm fun _ _ _ _ _ _ _ q=>le_int q
theorem Xp:qe X (compareOp .Gt) (Rt fun i j=> .bl (decide (j<i))):=Qm fun _ _ _ _ _ _ _ q=>gt_int q
theorem Rv:qe X (compareOp .GtE) (Rt fun i j=> .bl (decide (j<=i))):=Qm fun _ _ _ _ _ _ _ q=>ge_int q
theorem Mi:qe X (compareOp .Is) (fun x y H Q=>y = .non/\Q (.bl (decide (x = .non))) H):=by
 intro pins s σ H x y v u Q I rx ry h;obtain ⟨rfl,q⟩:=h;cases ry;refine is_none_gen (cu I q ?_)
 cases x<;>first
  | (cases rx;rfl)
  | (obtain ⟨t,rfl⟩:=rx;rfl)
theorem Hy:qe X (compareOp .IsNot) (fun x y H Q=>y = .non/\Q (.bl (!decide (x = .non))) H):=by
 intro pins s σ H x y v u Q I rx ry h;obtain ⟨rfl,q⟩:=h;cases ry;refine isnot_none_gen (cu I q ?_)
 cases x<;>first
  | (cases rx;rfl)
  | (obtain ⟨t,rfl⟩:=rx;rfl)
def isObj:HO->Bool
 | .lst _=>true
 | .ins _ _ _=>true
 | _=>false
theorem aR (b:Expr) {op:CmpOp} (h:op ≠ .In:=by decide) (h2:op ≠ .NotIn:=by decide):behindInMarks op b=false:=by
 have e1:(op==CmpOp.In)=false:=by cases op<;>first |rfl|exact absurd rfl h
 have e2:(op==CmpOp.NotIn)=false:=by cases op<;>first |rfl|exact absurd rfl h2
 cases b<;>simp [behindInMarks,e1,e2]
theorem d7 {op:CmpOp} {r:R2} (ho:qe X (compareOp op) r) (ha:PE X a ta) (hb:PE X b tb) (hm:behindInMarks op b=false):PE X (.Compare a [op] [b] pos) (GR r ta tb):=by
 intro pins s σ H Q I h;exact wpAny_Compare1 (Vw ha hb I h fun v u s2 x y H2 I2 rx ry q=>ho pins s2 σ H2 x y v u Q I2 rx ry q) hm
def K9 (t:TE):TT:=fun σ H Q=>t σ H fun x H'=>∃k,x = .bl k/\Q k H'
theorem aY {op:CmpOp} {r:R2} (ho:qe X (compareOp op) r) (ha:PE X a ta) (hb:PE X b tb) (hm:behindInMarks op b=false):PT X (.Compare a [op] [b] pos) (K9 (GR r ta tb)):=by
 intro pins s σ H Q I h
 refine wpAny_isTrue_Compare1 (dH (ha pins s σ H _ I h) fun v s1 ⟨x,H1,I1,r1,q1⟩=>dH (hb pins s1 σ H1 _ I1 q1) fun u s2 ⟨y,H2,I2,r2,q2⟩=>
  dH (ho pins s2 σ H2 x y v u _ I2 r1 r2 q2) fun c s3 ⟨z,H3,I3,r3,k,e,q3⟩=> ?_) hm
 subst e;cases r3;exact wpAny_truthy_bool ⟨H3,I3,q3⟩
def Tv (r r':R2) (ta tb tc:TE):TE:=fun σ H Q=>ta σ H fun x H1=>tb σ H1 fun y H2=>r x y H2 fun z H3=>∃k,z = .bl k /\
 (if k=true then tc σ H3 fun w' H4=>r' y w' H4 Q else Q (.bl false) H3)
theorem Mf {op op':CmpOp} {r r':R2} (ho:qe X (compareOp op) r) (ho':qe X (compareOp op') r') (ha:PE X a ta) (hb:PE X b tb) (hc:PE X c tc)
 (hm:lastMarks [op,op'] [b,c]=false:=by with_unfolding_all rfl):PE X (.Compare a [op,op'] [b,c] pos) (Tv r r' ta tb tc):=by
 intro pins s σ H Q I h
 refine Compare_chain (dH (ha pins s σ H _ I h) fun v s1 ⟨x,H1,I1,r1,q1⟩=>chain_link (dH (hb pins s1 σ H1 _ I1 q1) fun u s2 ⟨y,H2,I2,r2,q2⟩=>
  dH (ho pins s2 σ H2 x y v u _ I2 r1 r2 q2) fun d s3 ⟨z,H3,I3,r3,k,e,q3⟩=> ?_)) hm
 subst e;cases r3;refine wpAny_truthy_bool ?_;cases k with
 | false=>exact ite_ff ⟨.bl false,H3,I3,rfl,q3⟩
 | true=>exact ite_tt (chain_last (dH (hc pins s3 σ H3 _ I3 q3) fun w' s4 ⟨z',H4,I4,r4,q4⟩=>ho' pins s4 σ H4 y z' u w' Q I4 r2 r4 q4))
theorem wz:(sizeLine:Nat)<2 ^ 63:=by rw [sizeLine_eq];decide
theorem vals1 {x:V} {us:List Value} (r:Vals [x] us):∃u,us=[u]/\RelV x u:=by
 cases r with
 | cons r1 r2=>cases r2;exact ⟨_,rfl,r1⟩
theorem vals2 {x y:V} {us:List Value} (r:Vals [x,y] us):∃u w',us=[u,w']/\RelV x u/\RelV y w':=by
 cases r with
 | cons r1 r2=>
   cases r2 with
   | cons r3 r4=>cases r4;exact ⟨_,_,rfl,r1,r3⟩
theorem Ds:iw X (.builtin "abs") (fun xs H Q=>∃i,xs=[.int i]/\Q (.int (if i<0 then -i else i)) H):=by
 intro pins s σ H xs us Q I r h;obtain ⟨i,rfl,q⟩:=h;obtain ⟨u,rfl,t,rfl⟩:=vals1 r;exact call_abs_int fun u tk=>⟨.int (if i<0 then -i else i),H,I.tok _,⟨_,rfl⟩,q⟩
theorem J1 (hc:X.calm=true):iw X (.builtin "min") (fun xs H Q=>∃i j,xs=[.int i,.int j]/\Q (.int (if j<i then j else i)) H):=by
 intro pins s σ H xs us Q I r h;obtain ⟨i,j,rfl,q⟩:=h;obtain ⟨u,w',rfl,⟨t,rfl⟩,⟨t',rfl⟩⟩:=vals2 r;refine min_two_ints (I.ok.hd hc) fun h' tk k=>⟨_,H,I.kept k, ?_,q⟩
 by_cases hj:j<i
 ·rw [if_pos hj,if_pos hj];exact ⟨_,rfl⟩
 ·rw [if_neg hj,if_neg hj];exact ⟨_,rfl⟩
theorem oZ:iw X (.type "int") (fun xs H Q=>(∃i,xs=[.int i]/\Q (.int i) H) \/ ∃k,xs=[.bl k]/\Q (.int (if k then 1 else 0)) H):=by
 intro pins s σ H xs us Q I r h;rcases h with ⟨i,rfl,q⟩|⟨k,rfl,q⟩
 ·obtain ⟨u,rfl,t,rfl⟩:=vals1 r
  exact call_int_int ⟨.int i,H,I,⟨_,rfl⟩,q⟩
 ·obtain ⟨u,rfl,r1⟩:=vals1 r
  cases r1;exact call_int_bool ⟨.int (if k then 1 else 0),H,I.tok _,⟨_,rfl⟩,q⟩
end
end L2
namespace L2
open PySem PySem.Spec PyProof.Rows
structure Gy (h:Heap) (x dx C:Addr) (mA:Str->Option Value):Prop where
 obj:h.get? x=some (PySem.W.instObj C dx)
 ns:h.Ns1 dx mA
 ne:dx≠x
theorem JG {h:Heap} {dx:Addr} {mA:Str->Option Value} (n:h.Ns1 dx mA):∃od,h.get? dx=some od /\ ∀name,PySem.W.lookIn name od=some (mA name):=by
 obtain ⟨o,es,ep,ho,hd,hk,_,hm⟩:=n;refine ⟨o,ho,fun name=> ?_⟩;have e:=hm name;unfold nsFind findBy at e;rw [←Array.find?_toList] at e;unfold PySem.W.lookIn;rw [hd];dsimp only;split
 ·rename_i y q
  rw [q] at e;exact congrArg some e
 ·rename_i q
  rw [q] at e
  have a:es.toList.any (·.refKey)=false:=by
   rw [List.any_eq_false];intro y hy;obtain ⟨z,t,hkey⟩:=hk y (Array.mem_toList_iff.mp hy);simp [DictEntry.refKey,hkey]
  have a':¬es.toList.any (·.refKey)=true:=by rw [a];exact Bool.false_ne_true
  rw [if_neg a'];exact congrArg some e
theorem Gy.look {h:Heap} {x dx C:Addr} {mA:Str->Option Value} (I:Gy h x dx C mA):∃od,PySem.W.InstAt h x (PySem.W.instObj C dx) C (some od) /\ ∀name,PySem.W.lookIn name od=some (mA name):=
 let ⟨od,ho,hl⟩:=JG I.ns
 ⟨od,⟨I.obj,rfl,rfl,ho⟩,hl⟩
section
variable {prog:Program} {w:World} {A:Around} {E:Value->Shared->Prop} {s:Shared} {K:PySem.W.Frag} {x dx C f:Addr} {mA:Str->Option Value} {name:Str} {v:Value}
theorem get_map {expr:Bool} {Q:Value->Shared->Prop} (X:K.In s.heap) (I:Gy s.heap x dx C mA) (hg:PySem.W.plainGet K C name=true) (hh:PySem.W.hasDictIn K C=true)
 (ha:PySem.W.findIn K (.ref C) name=some none) (hv:mA name=some v) (hv':PySem.W.handedIn v=true) (h:Q v {s with toks:=s.toks+1}):
 wpAny (model prog w) A (getAttr (.ref x) name expr) Q E s:=by
 obtain ⟨od,J,hl⟩:=I.look;exact PySem.W.get_value X J (PySem.W.plainGet_of hg).1 (PySem.W.findObj_own hh ha rfl (by rw [hl,hv])) hv' h
theorem Ny {pl:Sem Bool} {Q:Value×List Value->Shared->Prop} (X:K.In s.heap) (I:Gy s.heap x dx C mA) (hg:PySem.W.plainGet K C name=true)
 (hf:PySem.W.findIn K (.ref C) name=some (some (.ref f))) (ht:PySem.W.isFn K (.ref f)=true) (hv:mA name=none) (h:Q (.ref f,[.ref x]) s):
 wpAny (model prog w) A (getMethod (.ref x) name pl) Q E s:=by
 obtain ⟨od,J,hl⟩:=I.look;exact PySem.W.method_fn X J (PySem.W.plainGet_of hg).1 (PySem.W.plainGet_of hg).2 hf (beq_iff_eq.mp ht) (by show (PySem.W.lookIn name od).map (·.isSome)=some false;rw [hl,hv];rfl) h
theorem Pz {ns:List Str} {Q:Unit->Shared->Prop} (X:K.In s.heap) (I:Gy s.heap x dx C mA)
 (hs:PySem.W.findIn K (.ref C) "__setattr__" = some (some (.builtin "object.__setattr__"))) (hp:PySem.W.plainOver K C=true) (ht:PySem.W.takerIn K C name=some none) (hh:PySem.W.hasDictIn K C=true)
 (hw:PySem.Within mA ns) (hsz:ns.length<=sizeLine)
 (h:∀h',Gy h' x dx C (fun y=>if y=name then some v else mA y)->Heap.SameBut dx s.heap h'->Q () {s with heap:=h',toks:=s.toks+2}):
 wpAny (model prog w) A (setAttr (.ref x) name v) Q E s:=by
 obtain ⟨od,J,hl⟩:=I.look;refine PySem.W.set_plain X J hs (PySem.W.osa_open (s:={s with toks:=s.toks+1}) (r:=none) X J hp ht fun b=> ?_);obtain ⟨cd,hc,hd'⟩:=PySem.W.any_some hh;have hx:s.heap.get? x=some ⟨.ref C,some dx,.plain, #[]⟩:=I.obj;refine wpAny_bind (wpAny_pure (wpAny_bind (wpAny_bind (wpAny_loadPart hx (wpAny_bind (PySem.W.Looks.here (s:={s with toks:=s.toks+1}) (PySem.W.looks_clsIn X hc) ?_))))));rw [hd'];refine wpAny_pure (a:=some dx) (wpAny_bind (wpAny_pure (wpAny_bind ?_)));refine wpAny_nsSet1 (s:={s with toks:=s.toks+1}) I.ns fun h' hn2 hs2=> ?_;obtain ⟨oD,esD,epD,hoD,hdD,hcD⟩:=hn2.count (PySem.Within.cons name v hw);refine wpAny_bind (wpAny_lookBehind hoD (by rw [hdD];exact pastItsLine_dict (Nat.le_trans hcD (by rw [List.length_cons];omega))) ?_);exact wpAny_pure (h _ ⟨(hs2.2 _ (Ne.symm I.ne)).trans I.obj,hn2,I.ne⟩ hs2)
theorem Nh {R:Result->Shared->Prop} {vs:List Value} {kw:List (Str×Value)} (X:K.In s.heap) (hm:PySem.W.makesIn K C=true)
 (hi:PySem.W.findIn K (.ref C) "__init__" = some (some (.ref f))) (hf:PySem.W.typeIn K (.ref f)=some (.type "function"))
 (h:codeAny (model prog w) (A.under (.builtin "type.__call__" ⟨.ref C::vs,kw⟩)) (.call (.ref f) ⟨.ref (s.heap.objs.size+1)::vs,kw⟩) (PySem.W.InitBack (s.heap.objs.size+1) R)
   {s with heap:=(s.heap.push PySem.W.emptyDict).push (PySem.W.instObj C s.heap.objs.size)}):
 codeAny (model prog w) A (.call (.ref C) ⟨vs,kw⟩) R s:=by
 obtain ⟨hh,g,d,t,os⟩:=s;exact PySem.W.make_core (PySem.W.makes_of X hm) (PySem.W.looks_findIn X hi) (fun self=>PySem.W.bind_fn X self hf) (.inl rfl) h
end
def fK (f:Str) (v:V):List (Str×V)->List (Str×V)
 | []=>[(f,v)]
 | (g,x)::r=>if g=f then (g,v)::r else (g,x)::fK f v r
theorem tX (f g:Str) (v:V):∀fs:List (Str×V),(fK f v fs).lookup g=if g=f then some v else fs.lookup g
 | []=>by
   show List.lookup g [(f,v)]=_
   by_cases h:g=f
   ·have hb:(g==f)=true:=beq_iff_eq.mpr h
    simp only [List.lookup,hb,if_pos h]
   ·have hb:(g==f)=false:=beq_eq_false_iff_ne.mpr h
    simp only [List.lookup,hb,if_neg h]
 | (k,x)::r=>by
   have ih:=tX f g v r;rw [show fK f v ((k,x)::r)=(if k=f then (k,v)::r else (k,x)::fK f v r) from rfl]
   by_cases hk:k=f
   ·rw [if_pos hk]
    by_cases h:g=k
    ·have hb:(g==k)=true:=beq_iff_eq.mpr h
     simp only [List.lookup,hb,if_pos (h.trans hk)]
    ·have hb:(g==k)=false:=beq_eq_false_iff_ne.mpr h
     simp only [List.lookup,hb,if_neg (fun e:g=f=>h (e.trans hk.symm))]
   ·rw [if_neg hk]
    by_cases h:g=k
    ·have hb:(g==k)=true:=beq_iff_eq.mpr h
     simp only [List.lookup,hb,if_neg (fun e:g=f=>hk (h.symm.trans e))]
    ·have hb:(g==k)=false:=beq_eq_false_iff_ne.mpr h
     simp only [List.lookup,hb];exact ih
theorem sS (f:Str) (v:V):∀fs:List (Str×V),f∈(fK f v fs).map (·.1) /\ ∀g,g∈fs.map (·.1)->g∈(fK f v fs).map (·.1)
 | []=>⟨by simp [fK],fun g h=>by simp at h⟩
 | (k,x)::r=>by
   obtain ⟨i1,i2⟩:=sS f v r;rw [show fK f v ((k,x)::r)=(if k=f then (k,v)::r else (k,x)::fK f v r) from rfl]
   by_cases hk:k=f
   ·rw [if_pos hk]
    subst hk;exact ⟨by simp,fun g h=>by simpa using h⟩
   ·rw [if_neg hk]
    refine ⟨?_,fun g h=> ?_⟩
    ·rw [List.map_cons]
     exact List.mem_cons_of_mem _ i1
    ·rw [List.map_cons] at h ⊢
     rcases List.mem_cons.mp h with e|e
     ·exact List.mem_cons.mpr (.inl e)
     ·exact List.mem_cons_of_mem _ (i2 g e)
theorem tY (f:Str) (v:V):∀fs:List (Str×V),(fK f v fs).length<=fs.length+1
 | []=>by simp [fK]
 | (k,x)::r=>by
   have ih:=tY f v r;rw [show fK f v ((k,x)::r)=(if k=f then (k,v)::r else (k,x)::fK f v r) from rfl]
   by_cases hk:k=f
   ·rw [if_pos hk,List.length_cons,List.length_cons];omega
   ·rw [if_neg hk,List.length_cons,List.length_cons];omega
theorem yq.some_of {v:V} {o:Option Value} (r:yq (some v) o):∃u,o=some u/\RelV v u:=by
 cases o with
 | none=>exact (show False from r).elim
 | some u=>exact ⟨u,rfl,r⟩
theorem yq.none_of {o:Option Value} (r:yq none o):o=none:=by
 cases o with
 | none=>rfl
 | some u=>exact (show False from r).elim
theorem JN {v:V} {u:Value} (r:RelV v u):PySem.W.handedIn u=true:=by
 cases v with
 | non=>cases (show u=Value.none from r);rfl
 | bl b=>cases (show u=Value.bool b from r);rfl
 | int i=>obtain ⟨t,e⟩:=(show ∃t,u=Value.int i t from r);cases e;rfl
 | str x=>obtain ⟨t,e⟩:=(show ∃t,u=Value.str x t from r);cases e;rfl
 | J5 b=>obtain ⟨t,e⟩:=(show ∃t,u=Value.bytes b t from r);cases e;rfl
 | flt b=>obtain ⟨t,e⟩:=(show ∃t,u=Value.float b t from r);cases e;rfl
 | ref a=>cases (show u=Value.ref a from r);rfl
 | ty n=>cases (show u=Value.type n from r);rfl
section
variable {P:Program} {w:World} {H H':Hp} {h h':Heap} {a C dx:Addr} {fs fs':List (Str×V)}
theorem mZ (hok:q_ P w H h) (e:H a=some (.ins C dx fs)):∃mA,Gy h a dx C mA/\(∀f,yq (fs.lookup f) (mA f))/\PySem.Within mA (fs.map (·.1))/\fs.length<=1000/\H dx=some (.own a):=by
 obtain ⟨d,z,ne,ob,mA,n,r,q⟩:=(show fM P w H h a (.ins C dx fs) from hok a _ e);exact ⟨mA,⟨ob,n,ne⟩,r,q,z,d⟩
end
structure Cls (K:PySem.W.Frag) (C:Addr):Prop where
 pg:PySem.W.plainGet K C Str.empty=true
 hd:PySem.W.hasDictIn K C=true
 po:PySem.W.plainOver K C=true
 sa:PySem.W.findIn K (.ref C) "__setattr__" = some (some (.builtin "object.__setattr__"))
theorem Cls.get {K:PySem.W.Frag} {C:Addr} (c:Cls K C) (f:Str):PySem.W.plainGet K C f=true:=c.pg
def gM (K:PySem.W.Frag) (C:Addr) (f:Str):Prop:=PySem.W.findIn K (.ref C) f=some none
theorem gM.taker {K:PySem.W.Frag} {C:Addr} {f:Str} (n:gM K C f):PySem.W.takerIn K C f=some none:=by
 unfold PySem.W.takerIn;rw [show PySem.W.findIn K (.ref C) f=some none from n];rfl
structure Meth (K:PySem.W.Frag) (C:Addr) (m:Str) (f:Addr):Prop where
 at_:PySem.W.findIn K (.ref C) m=some (some (.ref f))
 fn:PySem.W.isFn K (.ref f)=true
 kp:PySem.W.keepIn K (.ref f)=true
section
variable {X:Cx} {pins:List (Addr×Obj)} {σ:St} {H:Hp} {s:Shared} {a C dx:Addr} {fs:List (Str×V)} {f:Str} {v:V} {A:Around} {E:Value->Shared->Prop}
theorem wB {b:Bool} {Q:Value->Shared->Prop} (I:Inv X pins σ H s) (e:H a=some (.ins C dx fs)) (c:Cls X.K C) (n:gM X.K C f) (l:fs.lookup f=some v)
 (h:∀u s',Inv X pins σ H s'->RelV v u->Q u s'):wpAny (model X.prog X.w) A (getAttr (.ref a) f b) Q E s:=by
 obtain ⟨mA,O,r,_,_,_⟩:=mZ I.hok e;obtain ⟨u,hu,ru⟩:=yq.some_of (v:=v) (o:=mA f) (by rw [←l];exact r f);exact get_map I.oA O (c.get f) c.hd n hu (JN ru) (h u _ (I.tok _) ru)
theorem pZ {m:Str} {g:Addr} {pl:Sem Bool} {Q:Value×List Value->Shared->Prop} (I:Inv X pins σ H s) (e:H a=some (.ins C dx fs)) (c:Cls X.K C) (k:Meth X.K C m g) (l:fs.lookup m=none)
 (h:Q (.ref g,[.ref a]) s):wpAny (model X.prog X.w) A (getMethod (.ref a) m pl) Q E s:=by
 obtain ⟨mA,O,r,_,_,_⟩:=mZ I.hok e;have hn:mA m=none:=yq.none_of (by rw [←l];exact r m);exact Ny I.oA O (c.get m) k.at_ k.fn hn h
theorem vO {y:V} {u:Value} {Q:Unit->Shared->Prop} (I:Inv X pins σ H s) (e:H a=some (.ins C dx fs)) (c:Cls X.K C) (n:gM X.K C f) (hl:fs.length<1000) (ry:RelV y u)
 (h:∀s',Inv X pins σ (upd H a (.ins C dx (fK f y fs))) s'->Q () s'):wpAny (model X.prog X.w) A (setAttr (.ref a) f u) Q E s:=by
 obtain ⟨mA,O,r,wi,_,ho⟩:=mZ I.hok e;have hz:(fs.map (·.1)).length<=sizeLine:=by rw [List.length_map,sizeLine_eq];omega
 refine Pz I.oA O c.sa c.po n.taker c.hd wi hz fun h' O' sb=>h _ ?_;have hd:∃o,h'.get? dx=some o:=let ⟨o,_,_,e',_⟩:=O'.ns;⟨o,e'⟩
 refine I.write (x:=a) (e:=dx) (by rw [e];exact True.intro) (.inr ho) (fun b q hb z=>(sb.2 b hb).trans z) hd ?_;refine ⟨by rw [aF O.ne];exact ho, ?_,O.ne,O'.obj,_,O'.ns,fun g=> ?_,fun g hg=> ?_⟩
 ·have:=tY f y fs;omega
 ·show yq ((fK f y fs).lookup g) (if g=f then some u else mA g)
  rw [tX]
  by_cases q:g=f
  ·rw [if_pos q,if_pos q];exact ry
  ·rw [if_neg q,if_neg q];exact r g
 ·by_cases q:g=f
  ·rw [q];exact (sS f y fs).1
  ·refine (sS f y fs).2 g (wi g fun z=>hg ?_)
   show (if g=f then some u else mA g)=none;rw [if_neg q];exact z
theorem Inv.made (I:Inv X pins σ H s):Inv X pins σ (upd (upd H s.heap.objs.size (.own (s.heap.objs.size+1))) (s.heap.objs.size+1) (.ins C s.heap.objs.size []))
 {s with heap:=(s.heap.push PySem.W.emptyDict).push (PySem.W.instObj C s.heap.objs.size)}:=by
 have e1:(s.heap.push PySem.W.emptyDict).get? s.heap.objs.size=some PySem.W.emptyDict:=Heap.get?_push_size s.heap rfl
 have e2:((s.heap.push PySem.W.emptyDict).push (PySem.W.instObj C s.heap.objs.size)).get? (s.heap.objs.size+1)=some (PySem.W.instObj C s.heap.objs.size):=by
  have:=Heap.get?_push_size (s.heap.push PySem.W.emptyDict) (o:=PySem.W.instObj C s.heap.objs.size) rfl;rwa [Heap.size_push] at this
 have e3:(s.heap.push PySem.W.emptyDict).Ns s.heap.objs.size (fun _=>none):=⟨PySem.W.emptyDict, #[],_,e1,rfl,(fun e he=>absurd he (by simp)),fun _=>rfl⟩;have I1:=I.laid (a:=s.heap.objs.size) (o:= .own (s.heap.objs.size+1)) (h':=s.heap.push PySem.W.emptyDict) (t':=s.toks) (fun b u q=>Heap.get?_push_of_some _ q) (Nat.le_refl _) ⟨_,e1⟩;refine I1.laid (a:=s.heap.objs.size+1) (o:= .ins C s.heap.objs.size []) (t':=s.toks) (fun b u q=>Heap.get?_push_of_some _ q) (Nat.le_of_eq (Heap.size_push _ _)) ?_;have ne:s.heap.objs.size≠s.heap.objs.size+1:=Nat.ne_of_lt (Nat.lt_succ_self _);refine ⟨by rw [aF ne,aq],Nat.zero_le _,ne,e2,fun _=>none,(Heap.Ns1.of_empty e3).at fun o q=>Heap.get?_push_of_some _ q,fun _=>True.intro,fun y hy=>absurd rfl hy⟩
theorem Rc {prog:Program} {w:World} {env:Env} {e:Expr} {f:Str} {pos:Pos} {s:Shared} {Q:Value->Shared->Prop} (hb:attributeBase e f env (eval e env)=eval e env)
 (h:wpAny (model prog w) A (eval e env) (fun o s₁=>wpAny (model prog w) A (getAttr o f true) Q E s₁) E s):wpAny (model prog w) A (eval (.Attribute e f pos) env) Q E s:=
 Attribute_any_ h (by rw [arm_eval_Attribute,hb])
end
def WW (K:PySem.W.Frag) (ta:TE) (f:Str):TE:=fun σ H Q=>ta σ H fun x H1=>∃a C dx fs v,x = .ref a/\H1 a=some (.ins C dx fs)/\Cls K C/\gM K C f/\fs.lookup f=some v/\Q v H1
def Xb (K:PySem.W.Frag) (ta tv:TE) (f:Str):TS:=fun D σ H=>tv σ H fun y H1=>ta σ H1 fun x H2=>∃a C dx fs,x = .ref a/\H2 a=some (.ins C dx fs)/\Cls K C/\gM K C f/\fs.length<1000 /\
 D.nx σ (upd H2 a (.ins C dx (fK f y fs)))
def Zz (X:Cx) (op:Operator) (rd:V->V->Hp->VK->Prop):Prop:=
 ∀(pins:List (Addr×Obj)) (s:Shared) (σ:St) (H:Hp) (x y:V) (u v:Value) (Q:VK),Inv X pins σ H s->RelV x u->RelV y v->rd x y H Q->wpAny (model X.prog X.w) X.A (inplaceOp op u v) (EP X pins σ Q) X.xe s
def G6 (K:PySem.W.Frag) (ta tv:TE) (rd:V->V->Hp->VK->Prop) (f:Str):TS:=fun D σ H=>ta σ H fun x H1=>∃a C dx fs v,x = .ref a/\H1 a=some (.ins C dx fs)/\Cls K C/\gM K C f/\fs.lookup f=some v /\
 tv σ H1 fun y H2=>rd v y H2 fun z H3=>∃Vo fs',H3 a=some (.ins C Vo fs')/\fs'.length<1000/\D.nx σ (upd H3 a (.ins C Vo (fK f z fs')))
section
variable {X:Cx} {o e value:Expr} {f:Str} {pos pos' tpos:Pos} {ta tv:TE}
theorem Uk (he:PE X e ta) (hb:attributeBase e f X.env (eval e X.env)=eval e X.env):PE X (.Attribute e f pos) (WW X.K ta f):=by
 intro pins s σ H Q I h;refine Rc hb (dH (he pins s σ H _ I h) fun u s1 ⟨x,H1,I1,rx,a,C,dx,fs,v,ex,ea,c,n,l,q⟩=> ?_);subst ex;obtain rfl:u=Value.ref a:=rx;exact wB I1 ea c n l fun u' s2 I2 ru=>⟨v,H1,I2,ru,q⟩
theorem Ub (ha:PE X o ta) (hv:PE X value tv) (hs:swapsWith value (some (.Attribute o f pos')) pos.line X.env=pure false):PS X (.Assign [.Attribute o f pos'] value pos) (Xb X.K ta tv f):=by
 intro pins s σ H D I h;refine plainObj_wpAny_Assign_Attribute (dH (hv pins s σ H _ I h) fun u s1 ⟨y,H1,I1,ry,q⟩=>dH (ha pins s1 σ H1 _ I1 q) fun ov s2 ⟨x,H2,I2,rx,a,C,dx,fs,ex,ea,c,n,l,q2⟩=> ?_) hs;subst ex;obtain rfl:ov=Value.ref a:=rx;exact vO I2 ea c n l ry fun s3 I3=>⟨σ,_,I3,q2⟩
theorem Jl {op:Operator} {rd:V->V->Hp->VK->Prop} (ha:PE X o ta) (hv:PE X value tv) (hop:Zz X op rd):PS X (.AugAssign (.Attribute o f tpos) op value pos) (G6 X.K ta tv rd f):=by
 intro pins s σ H D I h;refine wpAny_AugAssign_AttributeAny (dH (ha pins s σ H _ I h) fun ov s1 ⟨x,H1,I1,rx,a,C,dx,fs,v,ex,ea,c,n,l,q⟩=> ?_);subst ex;obtain rfl:ov=Value.ref a:=rx;refine wB I1 ea c n l fun u s2 I2 ru=>dH (hv pins s2 σ H1 _ I2 q) fun w3 s3 ⟨y,H2,I3,ry,q3⟩=>dH (hop pins s3 σ H2 v y u w3 _ I3 ru ry q3) fun w4 s4 ⟨z,H3,I4,rz,Vo,fs',ea',l',q4⟩=> ?_;exact vO I4 ea' c n l' rz fun s5 I5=>⟨σ,_,I5,q4⟩
end
section
variable {X:Cx} {pins:List (Addr×Obj)} {σ:St} {H:Hp} {s:Shared} {A:Around} {E:Value->Shared->Prop} {Q:Value->Shared->Prop} {c:Value} {b:Bool}
inductive qd (K:PySem.W.Frag) (H:Hp):V->Value->Prop where
 | non:qd K H .non (.type "NoneType")
 | bl (x:Bool):qd K H (.bl x) (.type "bool")
 | int (i:Int):qd K H (.int i) (.type "int")
 | str (x:Str):qd K H (.str x) (.type "str")
 | flt (x:UInt64):qd K H (.flt x) (.type "float")
 | lst {a:Addr} {xs:List V} (e:H a=some (.lst xs)):qd K H (.ref a) (.type "list")
 | Ai {a:Addr} {o:Obj} {xs:List V} (e:H a=some (.Ai o (.lst xs))):qd K H (.ref a) (.type "list")
 | tup {a:Addr} {xs:List V} (e:H a=some (.tup xs)):qd K H (.ref a) (.type "tuple")
 | dK {a:Addr} {kvs:List (Key×V)} (e:H a=some (.dK kvs)):qd K H (.ref a) (.type "dict")
 | dT {a:Addr} {kvs:List (List Key×V)} (e:H a=some (.dT kvs)):qd K H (.ref a) (.type "dict")
 | ins {a C dx:Addr} {fs:List (Str×V)} (e:H a=some (.ins C dx fs)) (cl:Cls K C) (ha:PySem.W.findIn K (.ref C) "__class__" = some (some (.builtin "object.__class__")))
    (hn:PySem.W.specialIn K (.builtin "object.__class__") "__get__" = some (some (.builtin "getset_descriptor.__get__"))) (htk:PySem.W.takesIn K (.builtin "object.__class__")=some true)
    (hm:PySem.W.mroIn K C (.type "object")=some true):qd K H (.ref a) (.ref C)
theorem JH {x:V} {u t:Value} (I:Inv X pins σ H s) (rx:RelV x u) (ty:qd X.K H x t) (e:PySem.W.kitOne X.K t c=some b) (h:∀tk,Q (.bool b) {s with toks:=tk}):
 wpAny (model X.prog X.w) A (call (.builtin "isinstance") [u,c]) Q E s:=by
 cases ty with
 | non=>cases (show u=Value.none from rx);exact PySem.W.kia_one PySem.W.kitx_none I.oA True.intro e (fun z=>nomatch z) h
 | bl y=>cases (show u=Value.bool y from rx);exact PySem.W.kia_one PySem.W.kitx_bool I.oA True.intro e (fun z=>nomatch z) h
 | int i=>obtain ⟨t,q⟩:=(show ∃t,u=Value.int i t from rx);cases q;exact PySem.W.kia_one PySem.W.kitx_int I.oA True.intro e (fun z=>nomatch z) h
 | str y=>obtain ⟨t,q⟩:=(show ∃t,u=Value.str y t from rx);cases q;exact PySem.W.kia_one PySem.W.kitx_str I.oA True.intro e (fun z=>nomatch z) h
 | flt y=>obtain ⟨t,q⟩:=(show ∃t,u=Value.float y t from rx);cases q;exact PySem.W.kia_one PySem.W.kitx_float I.oA True.intro e (fun z=>nomatch z) h
 | @lst a xs ea=>
   cases (show u=Value.ref a from rx);obtain ⟨_,_,n,_,h1⟩:=(show fM X.prog X.w H s.heap a (.lst xs) from I.hok a _ ea);exact PySem.W.kia_one PySem.W.kitx_list I.oA ⟨_,h1,rfl⟩ e (fun z=>nomatch z) h
 | @Ai a ob xs ea=>
   cases (show u=Value.ref a from rx);obtain ⟨_,_,_,n,_,h1⟩:=(show fM X.prog X.w H s.heap a (.Ai ob (.lst xs)) from I.hok a _ ea);exact PySem.W.kia_one PySem.W.kitx_list I.oA ⟨_,h1,rfl⟩ e (fun z=>nomatch z) h
 | @tup a xs ea=>
   cases (show u=Value.ref a from rx);obtain ⟨_,_,_,p⟩:=(show fM X.prog X.w H s.heap a (.tup xs) from I.hok a _ ea);obtain ⟨o,h1,h2,_⟩:=p;exact PySem.W.kia_one PySem.W.kitx_tuple I.oA ⟨o,h1,h2⟩ e (fun z=>nomatch z) h
 | @dK a kvs ea=>
   cases (show u=Value.ref a from rx);obtain ⟨_,_,vs,_,p⟩:=(show fM X.prog X.w H s.heap a (.dK kvs) from I.hok a _ ea);obtain ⟨o,es,ep,h1,h2,_⟩:=p;exact PySem.W.kia_one PySem.W.kitx_dict I.oA ⟨o,h1,h2.1⟩ e (fun z=>nomatch z) h
 | @dT a kvs ea=>
   cases (show u=Value.ref a from rx);obtain ⟨_,_,xs,_,o,es,ep,h1,h2,_⟩:=(show fM X.prog X.w H s.heap a (.dT kvs) from I.hok a _ ea);exact PySem.W.kia_one PySem.W.kitx_dict I.oA ⟨o,h1,h2.1⟩ e (fun z=>nomatch z) h
 | @ins a C dx fs ea cl ha hn htk hm=>
   cases (show u=Value.ref a from rx);obtain ⟨mA,O,_⟩:=mZ I.hok ea;obtain ⟨od,J,_⟩:=O.look;exact PySem.W.kia_one (PySem.W.kitx_own (cl.get _) cl.hd ha hn htk hm) I.oA J e (fun z=>nomatch z) h
end
end L2
namespace L2
open PySem PySem.Spec PyProof.Rows
structure eV (k:Nat) (A:Around):Prop where
 hd:A.handled=none
 dp:A.depth+3*k+5<recursionLimit
 un:A.units+16*k+200<cLine
theorem eV.mono {j k:Nat} {A:Around} (r:eV k A) (h:j<=k):eV j A:=⟨r.hd,by have:=r.dp;omega,by have:=r.un;omega⟩
theorem eV.deeper {k:Nat} {A:Around} (r:eV (k+1) A) (env:Env):eV k (A.deeper env):=
 ⟨r.hd,by have:=r.dp;show A.depth+1+3*k+5<_;omega,by have:=r.un;show A.units+3+16*k+200<_;omega⟩
theorem eV.in1 {k:Nat} {A:Around} (r:eV (k+1) A):eV k A.in1:=
 ⟨r.hd,by have:=r.dp;show A.depth+3*k+5<_;omega,by have:=r.un;show A.units+1+16*k+200<_;omega⟩
theorem Fy {A:Around} {C:Addr} {us:List Value} {kw:List (Str×Value)}:(A.under (.builtin "type.__call__" ⟨.ref C::us,kw⟩)).depth=A.depth+1:=by
 first |rfl|simp [Around.under,Code.weight,Code.isCreation,Code.isGuard,Code.isCaller,Code.frames,Code.isFrame,guardIds]
theorem Fx {A:Around} {C:Addr} {us:List Value} {kw:List (Str×Value)}:(A.under (.builtin "type.__call__" ⟨.ref C::us,kw⟩)).units=A.units+1:=by
 first |rfl|simp [Around.under,Code.cUnits,Code.frames,Code.isFrame]
theorem eV.make {k:Nat} {A:Around} (r:eV (k+1) A) (C:Addr) (us:List Value) (kw:List (Str×Value)):eV k (A.under (.builtin "type.__call__" ⟨.ref C::us,kw⟩)):=
 ⟨r.hd,by have:=r.dp;rw [Fy];omega,by have:=r.un;rw [Fx];omega⟩
theorem eV.depth {k:Nat} {A:Around} (r:eV k A):A.depth<recursionLimit:=by have:=r.dp;omega
theorem eV.units {k:Nat} {A:Around} (r:eV k A):A.units+64<cLine:=by have:=r.un;omega
theorem eV.SQ {k:Nat} {A:Around} (r:eV k A):A.units<cLine:=by have:=r.un;omega
def vL:TA:=fun _ H Q=>Q [] H
def WY (ta:TE) (tr:TA):TA:=fun σ H Q=>ta σ H fun x H1=>tr σ H1 fun xs H2=>Q (x::xs) H2
section
variable {X:Cx} {e:Expr} {es:List Expr} {te:TE} {t:TA} {pos:Pos}
theorem aA:PA X [] vL:=fun _ _ _ _ H Q I h=>Calls.spliced_nil ⟨[],H,I,.nil,h⟩
theorem aj (ha:PE X e te) (hr:PA X es t) (hs:starEach (e::es) X.env=(false,eval e X.env)::starEach es X.env:=by rfl):PA X (e::es) (WY te t):=by
 intro pos pins s σ H Q I h;rw [hs];show wpAny _ _ (spliced ((false,eval e X.env)::backTo pos (starEach es X.env))) _ _ s;refine Calls.spliced_cons (dH (ha pins s σ H _ I h) fun u s1 ⟨x,H1,I1,r1,q1⟩=> ?_);exact dH (hr pos pins s1 σ H1 _ I1 q1) fun us s2 ⟨xs,H2,I2,r2,q2⟩=>⟨x::xs,H2,I2,.cons r1 r2,q2⟩
def abq (t:TA):TE:=fun σ H Q=>t σ H fun xs H1=>xs.length<=sizeLine /\ ∀p,H1 p=none->Q (.ref p) (upd H1 p (.tup xs))
def abt (t:TA):TE:=fun σ H Q=>t σ H fun xs H1=>xs.length<=sizeLine /\ ∀p,H1 p=none->Q (.ref p) (upd H1 p (.lst xs))
theorem fP {x1} (h:PA X es t):PE X (.Tuple es x1 pos) (abq t):=by
 intro pins s σ H Q I hq;refine wpAny_Tuple_spliced (dH (h pos pins s σ H _ I hq) fun us s1 ⟨xs,H1,I1,r,z,q⟩=>⟨by rw [←r.length];exact z, ?_⟩);have hf:H1 s1.heap.objs.size=none:=I1.hok.fresh (Nat.le_refl _);refine ⟨.ref s1.heap.objs.size,upd H1 s1.heap.objs.size (.tup xs),I1.laid (t':=s1.toks) (fun b u e=>Heap.get?_push_of_some _ e) (Nat.le_refl _) ?_,rfl,q _ hf⟩;exact ⟨z,us,r,⟨_,Heap.get?_push_size _ rfl,rfl,_,rfl⟩⟩
theorem fQ (h:PA X es t):PE X (.List es pos) (abt t):=by
 intro pins s σ H Q I hq;refine wpAny_List_spliced (dH (h pos pins s σ H _ I hq) fun us s1 ⟨xs,H1,I1,r,z,q⟩=>⟨by rw [←r.length];exact z, ?_⟩);have hf:H1 s1.heap.objs.size=none:=I1.hok.fresh (Nat.le_refl _);refine ⟨.ref s1.heap.objs.size,upd H1 s1.heap.objs.size (.lst xs),I1.laid (t':=s1.toks) (fun b u e=>Heap.get?_push_of_some _ e) (Nat.le_refl _) ?_,rfl,q _ hf⟩;exact ⟨z,us,0,r,Heap.get?_push_size _ rfl⟩
end
abbrev Sp:=List V->Hp->VK->XK->Prop
abbrev Kq:=List Env->Hp->Shared->XK->Value->Shared->Prop
structure yw (P:Program) (w:World) (K:PySem.W.Frag) (mg:Str->Option Value) (base:Heap) (A:Around) (outer:List Env) (s:Shared) (H:Hp):Prop where
 frames:A.frames=some outer
 mod:Mod K mg base
 bs:∀b o,base.get? b=some o->s.heap.get? b=some o/\H b=none
 J7:base.objs.size<=s.heap.objs.size
 qP:s.heap.FunFrames base outer
 RW:∀b∈frs outer,H b=none
 hok:q_ P w H s.heap
 bare:AllBare s.gens
def CE (outer:List Env) (P:Program) (w:World) (H:Hp) (s:Shared) (Q:VK) (u:Value) (s':Shared):Prop:=
 ∃v H',s'.os=s.os/\AllBare s'.gens/\Un (frs outer) [] H H' s.heap s'.heap/\q_ P w H' s'.heap/\RelV v u/\Q v H'
def CR (CX:Kq) (outer:List Env) (P:Program) (w:World) (H:Hp) (s:Shared) (Q:VK) (E:XK) (r:Result) (s':Shared):Prop:=
 match r with
 | .ok (.ret u)=>CE outer P w H s Q u s'
 | .ok _=>False
 | .error e=>CX outer H s E e s'
structure cj (P:Program) (w:World) (K:PySem.W.Frag) (mg:Str->Option Value) (base:Heap) (CX:Kq) (k:Nat) (f:Addr) (fd:FuncData) (ps:List Str) (sp:Sp):Prop where
 len:∀vs H Q E,sp vs H Q E->vs.length=ps.length
 run:∀(A:Around) (outer:List Env) (s:Shared) (H:Hp) (args:Args) (us:List Value) (vs:List V) (Q:VK) (E:XK),eV k A->yw P w K mg base A outer s H->BindsTo s fd args (ps.zip us)->Vals vs us->sp vs H Q E ->
  codeAny (model P w) A (.call (.ref f) args) (CR CX outer P w H s Q E) s
theorem yw.make {P:Program} {w:World} {K:PySem.W.Frag} {mg:Str->Option Value} {base:Heap} {A:Around} {outer:List Env} {s:Shared} {H:Hp} (e:yw P w K mg base A outer s H) (C:Addr) (us:List Value) (kw:List (Str×Value)):
 yw P w K mg base (A.under (.builtin "type.__call__" ⟨.ref C::us,kw⟩)) outer s H:=⟨by first |exact e.frames|(simpa [Around.under,Code.envs,Code.isFrame,pushEnvs] using e.frames),e.mod,e.bs,e.J7,e.qP,e.RW,e.hok,e.bare⟩
theorem yw.in1 {P:Program} {w:World} {K:PySem.W.Frag} {mg:Str->Option Value} {base:Heap} {A:Around} {outer:List Env} {s:Shared} {H:Hp} (e:yw P w K mg base A outer s H):
 yw P w K mg base A.in1 outer s H:=⟨e.frames,e.mod,e.bs,e.J7,e.qP,e.RW,e.hok,e.bare⟩
section
variable {X:Cx} {pins:List (Addr×Obj)} {σ:St} {H:Hp} {s s':Shared}
theorem Inv.env0 (I:Inv X pins σ H s):yw X.prog X.w X.K X.mg X.base X.A X.stack s H:=
 ⟨I.ok.frames,I.ok.mod,I.bs,Nat.le_trans I.ok.J7 I.sz,I.stack,I.uQ,I.hok,I.bare⟩
theorem Inv.after {Q:VK} {u:Value} (I:Inv X pins σ H s) (h:CE X.stack X.prog X.w H s Q u s'):EP X pins σ Q u s':=by
 obtain ⟨v,H',os,bare,un,hok,r,q⟩:=h;obtain ⟨hh,g,d,t,os'⟩:=s';obtain rfl:os'=s.os:=os;exact ⟨v,H',I.call (h':=hh) (g':=g) (d':=d) (t':=t) (ch:=[]) un hok bare (fun b z=>absurd z (by simp)),r,q⟩
end
def Rp (sp:Sp) (o7:List V) (E:XK) (t:TA):TE:=fun σ H Q=>t σ H fun vs H1=>sp (vs++o7) H1 Q E
def GX (C:Addr) (m:Str) (sp:Sp) (o7:List V) (E:XK) (ta:TE) (t:TA):TE:=fun σ H Q=>ta σ H fun x H1=>∃a dx fs,x = .ref a/\H1 a=some (.ins C dx fs)/\fs.lookup m=none /\
 t σ H1 fun vs H2=>sp (x::(vs++o7)) H2 Q E
def Ro (C:Addr) (sp:Sp) (o7:List V) (E:XK) (t:TA):TE:=fun σ H Q=>t σ H fun vs H1=>∀x dx,H1 x=none->H1 dx=none->dx≠x ->
 sp (.ref x::(vs++o7)) (upd (upd H1 dx (.own x)) x (.ins C dx [])) (fun v H2=>v = .non/\Q (.ref x) H2) E
def Binds (K:PySem.W.Frag) (fd:FuncData) (ps:List Str) (ds:List Value):Prop:=
 ∀(s:Shared) (us:List Value),K.In s.heap->(us++ds).length=ps.length->BindsTo s fd ⟨us,[]⟩ (ps.zip (us++ds))
theorem Binds.all {K:PySem.W.Frag} {fd:FuncData} {ps:List Str} (h:∀us:List Value,us.length=ps.length->bindArgs fd ⟨us,[]⟩=pure (ps.zip us)):Binds K fd ps []:=fun s us _ hl=>by
 rw [List.append_nil] at hl ⊢;exact .of_eq (h us hl)
def Passes (CX:Kq) (X:Cx) (E:XK):Prop:=∀(pins:List (Addr×Obj)) (σ:St) (H:Hp) (s:Shared) (e:Value) (s':Shared),Inv X pins σ H s->CX X.stack H s E e s'->X.xe e s'
section
variable {X:Cx} {CX:Kq} {k:Nat} {f C:Addr} {fd:FuncData} {ps:List Str} {sp:Sp} {o7:List V} {ds:List Value} {E:XK} {x m:Str} {p pos apos:Pos} {e o:Expr} {es:List Expr} {ta:TE} {t:TA}
theorem zP {pins:List (Addr×Obj)} {σ:St} {H:Hp} {s:Shared} {Q:VK} {us:List Value} {vs:List V} (F:cj X.prog X.w X.K X.mg X.base CX k f fd ps sp) (hr:eV k X.A) (hb:Binds X.K fd ps ds) (hd:Vals o7 ds) (hx:Passes CX X E)
 (I:Inv X pins σ H s) (r:Vals vs us) (h:sp (vs++o7) H Q E):wpAny (model X.prog X.w) X.A (call (.ref f) us) (EP X pins σ Q) X.xe s:=by
 have r2:Vals (vs++o7) (us++ds):=r.append hd;have hl:(us++ds).length=ps.length:=by rw [←r2.length];exact F.len _ _ _ _ h
 refine wpAny_call (codeAny_mono (F.run X.A X.stack s H ⟨us,[]⟩ (us++ds) (vs++o7) Q E hr I.env0 (hb s us I.oA hl) r2 h) fun r s' hq=> ?_);cases r with
 | error e=>exact hx pins σ H s e s' I hq
 | ok fl=>
   cases fl with
   | ret u=>exact I.after hq
   | next=>exact False.elim hq
   | brk=>exact False.elim hq
   | cont=>exact False.elim hq
theorem Qi (F:cj X.prog X.w X.K X.mg X.base CX k f fd ps sp) (hr:eV k X.A) (hg:Gl X x) (hm:X.mg x=some (.ref f)) (hk:PySem.W.keepIn X.K (.ref f)=true) (hb:Binds X.K fd ps ds) (hd:Vals o7 ds) (hx:Passes CX X E)
 (ha:PA X (e::es) t) (hdb:(x==("__debug__" :Str))=false:=by decide) (he:starEach (e::es) X.env=(false,eval e X.env)::starEach es X.env:=by rfl) (hpl:(backTo pos (starEach es X.env)).any (·.1)=false:=by rfl):
 PE X (.Call (.Name x p) (e::es) [] pos) (Rp sp o7 E t):=by
 intro pins s σ H Q I h;refine wpAny_Call_Name_kw (qJ I hg hm ?_ hdb);refine PySem.W.callWith_K (h₀:=X.base) I.ok.mod.O_ hk (dH (ha pos pins s σ H _ I h) fun us s1 ⟨vs,H1,I1,r,q⟩=>⟨I1.oA, ?_⟩) he hpl;exact zP F hr hb hd hx I1 r q
theorem Qg {pl:Sem Bool} (he:PE X o ta) (c:Cls X.K C) (hm:Meth X.K C m f) (F:cj X.prog X.w X.K X.mg X.base CX k f fd ps sp) (hr:eV k X.A) (hb:Binds X.K fd ps ds) (hd:Vals o7 ds) (hx:Passes CX X E) (ha:PA X (e::es) t)
 (hst:starEach (e::es) X.env=(false,eval e X.env)::starEach es X.env:=by rfl) (hpl:(backTo pos (starEach es X.env)).any (·.1)=false:=by rfl)
 (ht:eval (.Call (.Attribute o m apos) (e::es) [] pos) X.env=(do
   let ov ←eval o X.env
   standAt apos.atName
   let (f,first) ←holding [ov] (getMethod ov m pl)
   callWith pos f first (backTo pos (starEach (e::es) X.env)) (backToKw pos (keywordEach [] X.env))):=by rfl):
 PE X (.Call (.Attribute o m apos) (e::es) [] pos) (GX C m sp o7 E ta t):=by
 intro pins s σ H Q I h;refine PySem.W.methodCall_KW (pl:=pl) (dH (he pins s σ H _ I h) fun u s1 ⟨x,H1,I1,rx,a,dx,fs,ex,ea,l,q⟩=> ?_) ht;subst ex;obtain rfl:u=Value.ref a:=rx;refine pZ I1 ea c hm l ?_;refine PySem.W.callWith_K (first:=[.ref a]) (h₀:=X.base) I.ok.mod.O_ hm.kp (dH (ha pos pins s1 σ H1 _ I1 q) fun us s2 ⟨vs,H2,I2,r,q2⟩=>⟨I2.oA, ?_⟩) hst hpl;exact zP (us:= .ref a::us) (vs:= .ref a::vs) F hr hb hd hx I2 (.cons rfl r) q2
theorem L_ {pl:Sem Bool} (he:PE X o ta) (c:Cls X.K C) (hm:Meth X.K C m f) (F:cj X.prog X.w X.K X.mg X.base CX k f fd ps sp) (hr:eV k X.A) (hb:Binds X.K fd ps ds) (hd:Vals o7 ds) (hx:Passes CX X E)
 (ht:eval (.Call (.Attribute o m apos) [] [] pos) X.env=(do
   let ov ←eval o X.env
   standAt apos.atName
   let (f,first) ←holding [ov] (getMethod ov m pl)
   callWith pos f first (backTo pos (starEach [] X.env)) (backToKw pos (keywordEach [] X.env))):=by rfl):
 PE X (.Call (.Attribute o m apos) [] [] pos) (GX C m sp o7 E ta vL):=by
 intro pins s σ H Q I h;refine PySem.W.methodCall_KW (pl:=pl) (dH (he pins s σ H _ I h) fun u s1 ⟨x,H1,I1,rx,a,dx,fs,ex,ea,l,q⟩=> ?_) ht;subst ex;obtain rfl:u=Value.ref a:=rx;refine pZ I1 ea c hm l ?_;exact PySem.W.callWith_K0 (first:=[.ref a]) I1.oA hm.kp (zP (us:=[.ref a]) (vs:=[.ref a]) F hr hb hd hx I1 (.cons rfl .nil) q)
structure Mk (K:PySem.W.Frag) (C f:Addr):Prop where
 makes:PySem.W.makesIn K C=true
 init:PySem.W.findIn K (.ref C) "__init__" = some (some (.ref f))
 fn:PySem.W.isFn K (.ref f)=true
 kp:PySem.W.keepIn K (.ref C)=true
theorem Lj {pins:List (Addr×Obj)} {σ:St} {H:Hp} {s:Shared} {Q:VK} {us:List Value} {vs:List V} (M:Mk X.K C f) (F:cj X.prog X.w X.K X.mg X.base CX k f fd ps sp) (hr:eV (k+1) X.A) (hb:Binds X.K fd ps ds) (hd:Vals o7 ds)
 (hx:Passes CX X E) (I:Inv X pins σ H s) (r:Vals vs us)
 (h:∀x dx,H x=none->H dx=none->dx≠x->sp (.ref x::(vs++o7)) (upd (upd H dx (.own x)) x (.ins C dx [])) (fun v H2=>v = .non/\Q (.ref x) H2) E):
 wpAny (model X.prog X.w) X.A (call (.ref C) us) (EP X pins σ Q) X.xe s:=by
 have hq:=h (s.heap.objs.size+1) s.heap.objs.size (I.hok.fresh (Nat.le_succ _)) (I.hok.fresh (Nat.le_refl _)) (Nat.ne_of_lt (Nat.lt_succ_self _));have I2:=Inv.made (C:=C) I;have r2:Vals (V.ref (s.heap.objs.size+1)::(vs++o7)) (Value.ref (s.heap.objs.size+1)::(us++ds)):= .cons rfl (r.append hd)
 have hl:(Value.ref (s.heap.objs.size+1)::us++ds).length=ps.length:=by
  have e:=r2.length;rw [F.len _ _ _ _ hq] at e;exact e.symm
 refine wpAny_call (Nh (f:=f) I.oA M.makes M.init (beq_iff_eq.mp M.fn) (codeAny_mono (F.run _ X.stack _ _ ⟨Value.ref (s.heap.objs.size+1)::us,[]⟩ (Value.ref (s.heap.objs.size+1)::(us++ds)) _ _ E (hr.make C us [])
  (I2.env0.make C us []) (hb _ (Value.ref (s.heap.objs.size+1)::us) I2.oA hl) r2 hq) fun r s' hq'=> ?_))
 cases r with
 | error e=>exact hx pins σ _ _ e s' I2 hq'
 | ok fl=>
   cases fl with
   | ret u=>
     obtain ⟨v,H',I3,rv,ev,q3⟩:=I2.after hq';subst ev;exact ⟨rv,⟨V.ref (s.heap.objs.size+1),H',I3,rfl,q3⟩⟩
   | next=>exact False.elim hq'
   | brk=>exact False.elim hq'
   | cont=>exact False.elim hq'
theorem Qh (M:Mk X.K C f) (F:cj X.prog X.w X.K X.mg X.base CX k f fd ps sp) (hr:eV (k+1) X.A) (hg:Gl X x) (hm:X.mg x=some (.ref C)) (hb:Binds X.K fd ps ds) (hd:Vals o7 ds) (hx:Passes CX X E)
 (ha:PA X (e::es) t) (hdb:(x==("__debug__" :Str))=false:=by decide) (he:starEach (e::es) X.env=(false,eval e X.env)::starEach es X.env:=by rfl) (hpl:(backTo pos (starEach es X.env)).any (·.1)=false:=by rfl):
 PE X (.Call (.Name x p) (e::es) [] pos) (Ro C sp o7 E t):=by
 intro pins s σ H Q I h;refine wpAny_Call_Name_kw (qJ I hg hm ?_ hdb);refine PySem.W.callWith_K (h₀:=X.base) I.ok.mod.O_ M.kp (dH (ha pos pins s σ H _ I h) fun us s1 ⟨vs,H1,I1,r,q⟩=>⟨I1.oA, ?_⟩) he hpl;exact Lj M F hr hb hd hx I1 r q
end
section
variable {X:Cx} {CX:Kq} {k:Nat} {f C:Addr} {fd:FuncData} {ps ks:List Str} {sp:Sp} {E:XK} {x m:Str} {p pos apos kpos:Pos} {e o:Expr} {es:List Expr} {kws:List Keyword} {te ta:TE} {t tk:TA} {nm:Option Str}
variable {g:List Value->List Value->List Value} {gV:List V->List V->List V}
end
structure bf (N P:List Str) (sc:Scope):Prop where
 kind:sc.kind = .function
 co:sc.isCoroutine=false
 gen:sc.isGenerator=false
 nd:N.Nodup
 pre:N.take P.length=P
 par:∀x∈P,sc.names.lookup x=some .local\/sc.names.lookup x=some .cell
 Uy:∀y∈sc.names,y.2 ≠ .free
theorem yS {kindOf:Str->Option NameKind} {x:Str}:∀{binds:List (Str×Value)} {m:Str->Option Value},(∀v,(x,v)∉binds)->bindL kindOf binds m x=m x
 | [],_,_=>rfl
 | (n,v)::r,m,h=>by
   unfold bindL;rw [yS fun w hw=>h w (List.mem_cons_of_mem _ hw)];split
   ·have:x≠n:=by rintro rfl;exact h v List.mem_cons_self
    simp [this]
   ·rfl
theorem yV {kindOf:Str->Option NameKind} {x:Str}:∀{binds:List (Str×Value)} {m:Str->Option Value},(∀v,(x,v)∉binds)->bindC kindOf binds m x=m x
 | [],_,_=>rfl
 | (n,v)::r,m,h=>by
   unfold bindC;rw [yV fun w hw=>h w (List.mem_cons_of_mem _ hw)];split
   ·rfl
   ·have:x≠n:=by rintro rfl;exact h v List.mem_cons_self
    simp [this]
theorem yU {kindOf:Str->Option NameKind} {x:Str} {v:Value}:∀{P:List Str} {vs:List Value} {i:Nat} {m:Str->Option Value},P.Nodup->P[i]? = some x->vs[i]? = some v->kindOf x=some .local ->
 bindL kindOf (P.zip vs) m x=some v
 | [],_,_,_,_,h,_,_=>by simp at h
 | _::_,[],_,_,_,_,h,_=>by simp at h
 | p::P,w::vs,0,m,nd,h1,h2,hk=>by
   simp at h1 h2;subst h1;subst h2;show bindL kindOf ((p,w)::P.zip vs) m p=_;unfold bindL;rw [yS fun v hv=>(List.nodup_cons.mp nd).1 (List.of_mem_zip hv).1,if_pos hk];simp
 | p::P,w::vs,i+1,m,nd,h1,h2,hk=>by
   show bindL kindOf ((p,w)::P.zip vs) m x=_;unfold bindL;exact yU (i:=i) (List.nodup_cons.mp nd).2 (by simpa using h1) (by simpa using h2) hk
theorem yW {kindOf:Str->Option NameKind} {x:Str} {v:Value}:∀{P:List Str} {vs:List Value} {i:Nat} {m:Str->Option Value},P.Nodup->P[i]? = some x->vs[i]? = some v->kindOf x≠some .local ->
 bindC kindOf (P.zip vs) m x=some v
 | [],_,_,_,_,h,_,_=>by simp at h
 | _::_,[],_,_,_,_,h,_=>by simp at h
 | p::P,w::vs,0,m,nd,h1,h2,hk=>by
   simp at h1 h2;subst h1;subst h2;show bindC kindOf ((p,w)::P.zip vs) m p=_;unfold bindC;rw [yV fun v hv=>(List.nodup_cons.mp nd).1 (List.of_mem_zip hv).1,if_neg hk];simp
 | p::P,w::vs,i+1,m,nd,h1,h2,hk=>by
   show bindC kindOf ((p,w)::P.zip vs) m x=_;unfold bindC;exact yW (i:=i) (List.nodup_cons.mp nd).2 (by simpa using h1) (by simpa using h2) hk
def start (N:List Str) (vs:List V):St:=vs.map some++List.replicate (N.length - vs.length) none
def m5 (CX:Kq) (P:Program) (w:World) (K:PySem.W.Frag) (mg:Str->Option Value) (base:Heap) (N:List Str) (qual:Str) (scope:Scope) (f:Addr) (cd:Value) (A:Around) (outer:List Env) (s:Shared) (H:Hp) (E:XK):Cx where
 prog:=P
 w:=w
 K:=K
 mg:=mg
 base:=base
 A:=A.deeper (envOfC qual scope s.heap.objs.size f cd)
 N:=N
 s₀:=s
 H₀:=H
 env:=envOfC qual scope s.heap.objs.size f cd
 outer:=outer
 stack:=envOfC qual scope s.heap.objs.size f cd::outer
 ex:=[]
 calm:=true
 fn:=fun _=>true
 pn:=[]
 xe:=fun e s'=>wpAny (model P w) (A.deeper (envOfC qual scope s.heap.objs.size f cd)) (leaving (envOfC qual scope s.heap.objs.size f cd) e) (fun _ s''=>CX outer H s E e s'') (fun e' s''=>CX outer H s E e' s'') s'
theorem Dn {sc:Scope} {n:Nat} {x:Str} (h:sc.names.lookup x=some .cell):∃c,(cellsFrom n sc.names []).lookup x=some c:=by
 have q:=PySem.W.cellsFrom_some sc.names n [] (.inl h);exact Option.isSome_iff_exists.mp q
theorem JK {CX:Kq} {P:Program} {w:World} {K:PySem.W.Frag} {mg:Str->Option Value} {base:Heap} {N ps:List Str} {qual:Str} {scope:Scope} {f:Addr} {cd:Value} {A:Around} {outer:List Env} {s s1:Shared} {H:Hp} {E:XK} {us:List Value} {vs:List V}
 (S:bf N ps scope) (hd:A.handled=none) (e0:yw P w K mg base A outer s H) (hl:vs.length=ps.length) (r:Vals vs us)
 (x:InCallC s s.heap.objs.size (bindL (envOfC qual scope s.heap.objs.size f cd).kindOf (ps.zip us) fun _=>none) (cellsFrom (s.heap.objs.size+1) scope.names []) (bindC (envOfC qual scope s.heap.objs.size f cd).kindOf (ps.zip us) fun _=>none) s1):
 Inv (m5 CX P w K mg base N qual scope f cd A outer s H E) [] (start N vs) H s1:=by
 have hpl:ps.length<=N.length:=by have:=congrArg List.length S.pre;rw [List.length_take] at this;omega
 obtain ⟨h1,tk,rfl,hk⟩:=x.done;have Xz:∀b:Addr,b∉(m5 CX P w K mg base N qual scope f cd A outer s H E).ex:=fun b z=>absurd (show b∈([]:List Addr) from z) (by simp)
 refine ⟨⟨e0.mod,S.kind,rfl,rfl,Nat.le_refl _,fun y z c h1 h2=> ?_,fun y hy=> ?_,fun y c _ h=> ?_,fun _=>hd,Around.frames_deeper e0.frames,.inr ⟨rfl,rfl⟩,fun b z=>absurd z (Xz b),e0.bs,e0.J7,fun b _ _=>Xz b,fun b z=>absurd z (Xz b),e0.qP,e0.RW⟩,
  rfl,e0.bare,Un.kept hk,⟨_,x.toInCall.ns,fun i y v h1 h2 h3=> ?_⟩,fun y c h=>⟨_,x.cell y c h⟩,e0.hok.fresh (Nat.le_refl _),fun y c h=> ?_,fun p hp=>absurd (show p∈([]:List (Addr×Obj)) from hp) (by simp),e0.hok.kept hk, ?_⟩
 ·exact name_of_addr x.apart (PySem.mem_of_lookup h1) (PySem.mem_of_lookup h2)
 ·have hy:scope.names.lookup y=some .cell\/scope.names.lookup y=some .free:=hy
  rcases hy with hy|hy
  ·exact Dn hy
  ·exact absurd rfl (S.Uy _ (PySem.mem_of_lookup hy))
 ·exact Nat.le_of_lt (x.above y c (PySem.mem_of_lookup h))
 ·have hi:i<vs.length:=by
   unfold start at h2
   by_cases hi:i<vs.length
   ·exact hi
   ·rw [List.getElem?_append_right (by simpa using hi)] at h2
    rw [List.getElem?_replicate] at h2;split at h2<;>cases h2
  have ha:vs[i]? = some v:=by
   unfold start at h2;rw [List.getElem?_append_left (by simpa using hi),List.getElem?_map] at h2;cases e:vs[i]? with
   | none=>rw [e] at h2;cases h2
   | some a=>rw [e] at h2;cases h2;rfl
  obtain ⟨u,hu,rv⟩:=r.get ha
  have hp:ps[i]? = some y:=by
   rw [←S.pre,List.getElem?_take_of_lt (by omega)];exact h1
  have ndP:ps.Nodup:=by rw [←S.pre];exact S.nd.sublist (List.take_sublist _ _)
  refine ⟨u,rv, ?_⟩;rcases S.par y (List.mem_of_getElem? hp) with k|k
  ·exact .inl ⟨k,yU ndP hp hu k⟩
  ·obtain ⟨c,e⟩:=Dn (n:=s.heap.objs.size+1) k
   refine .inr ⟨.inl k,c,e, ?_⟩;have q:=x.cell y c e;rw [yW ndP hp hu (by show scope.names.lookup y≠_;rw [k];decide)] at q;exact q
 ·exact e0.hok.fresh (Nat.le_of_lt (x.above y c (PySem.mem_of_lookup h)))
 ·unfold start
  show _=N.length;rw [List.length_append,List.length_map,List.length_replicate];omega
theorem Ii {CX:Kq} {P:Program} {w:World} {K:PySem.W.Frag} {mg:Str->Option Value} {base:Heap} {k:Nat} {f:Addr} {name qual:Str} {params:Arguments} {body:List Stmt} {scope:Scope} {dV kV doc pm cdv ct oc:Value} {an od:Option Addr}
 {osl:Array (Option Value)} {N ps:List Str} {sp:Sp} (lk:K.lookup f=some ⟨oc,od,.func (PySem.W.fnOf name qual params body scope dV kV doc pm an cdv ct),osl⟩) (hcd:PySem.W.codeIn K cdv qual=true) (S:bf N ps scope)
 (len:∀vs H Q E,sp vs H Q E->vs.length=ps.length)
 (hbody:∀(A:Around) (outer:List Env) (s:Shared) (H:Hp) (vs:List V) (Q:VK) (E:XK),eV k (A.deeper (envOfC qual scope s.heap.objs.size f cdv))->sp vs H Q E ->
   ∃t,Eb (m5 CX P w K mg base N qual scope f cdv A outer s H E) body t/\t {nx:=fun _ H'=>Q .non H',rt:=Q} (start N vs) H):
 cj P w K mg base CX (k+1) f (PySem.W.fnOf name qual params body scope dV kV doc pm an cdv ct) ps sp:=by
 refine ⟨len,fun A outer s H args us vs Q E hr e0 hb r hsp=> ?_⟩;have hl:=len _ _ _ _ hsp;have KX:K.In s.heap:=e0.mod.O_.keeps fun b o e=>(e0.bs b o e).1;have lim:s.heap.NoLimit:=e0.mod.nolimit.keeps fun b o e=>(e0.bs b o e).1
 have hkind:∀y∈ps.zip us,scope.names.lookup y.1=some .local\/(scope.names.lookup y.1=some .cell/\((cellsFrom (s.heap.objs.size+1) scope.names []).lookup y.1).isSome=true):=fun ⟨n,v⟩ hy=>by
  rcases S.par n (List.of_mem_zip hy).1 with q|q
  ·exact .inl q
  ·exact .inr ⟨q,PySem.W.cellsFrom_some _ _ _ (.inl q)⟩
 refine codeAny_call_function hr.depth (KX _ _ lk) rfl S.co S.gen rfl (PySem.W.codeRec_of KX hcd) (hb _ _ _ _ ?_);refine wpAny_newFunctionEnv_cells S.kind hkind fun env he s1 x=> ?_;subst he;refine ⟨lim.keeps x.toInCall.keep,codeAny_func ?_⟩;obtain ⟨t,ht,hq⟩:=hbody A outer s H vs Q E (hr.deeper _) hsp;have I:Inv (m5 CX P w K mg base N qual scope f cdv A outer s H E) [] (start N vs) H s1:=JK S hr.hd e0 hl r x;refine wpAny_mono (ht [] s1 (start N vs) H _ I hq) (fun fl s' hs=> ?_) fun e s' hs=>hs
 have fin:∀{σ':St} {H':Hp} {v:V} {u:Value},Inv (m5 CX P w K mg base N qual scope f cdv A outer s H E) [] σ' H' s'->RelV v u->Q v H'->CE outer P w H s Q u s':=
  fun {σ' H' v u} J rv q=>⟨v,H',J.os,J.bare,J.base,J.hok,rv,q⟩
 cases fl with
 | ret u=>
   obtain ⟨v,σ',H',J,rv,q⟩:=hs;exact fin J rv q
 | next=>
   obtain ⟨σ',H',J,q⟩:=hs;exact fin (v:=V.non) (u:=Value.none) J rfl q
 | brk=>
   obtain ⟨_,_,_,q⟩:=hs;exact False.elim q
 | cont=>
   obtain ⟨_,_,_,q⟩:=hs;exact False.elim q
end L2
namespace L2
open PySem PySem.Spec PyProof.Rows
section
variable {X:Cx} {x:Str} {p pos:Pos} {e:Expr} {es:List Expr} {t:TA} {id T:String} {r:List V->Hp->VK->Prop}
def tCB (r:List V->Hp->VK->Prop) (t:TA):TE:=fun σ H Q=>t σ H fun vs H1=>r vs H1 Q
theorem aQ (hc:iw X (.builtin id) r) (hg:Gl X x) (hm:X.mg x=none) (hv:bootBuiltins x=some (.builtin id)) (ha:PA X (e::es) t) (hn:x ≠ "__name__" :=by decide) (hdb:(x==("__debug__" :Str))=false:=by decide)
 (he:starEach (e::es) X.env=(false,eval e X.env)::starEach es X.env:=by rfl) (hpl:(backTo pos (starEach es X.env)).any (·.1)=false:=by rfl):PE X (.Call (.Name x p) (e::es) [] pos) (tCB r t):=by
 intro pins s σ H Q I h;refine wpAny_Call_Name_kw (mX I hg hm hv ?_ hn hdb);exact PyProof.Rows.callWith_builtin1 (dH (ha pos pins s σ H _ I h) fun us s1 ⟨vs,H1,I1,r1,q1⟩=>hc pins s1 σ H1 vs us Q I1 r1 q1) he hpl
theorem fj (hc:iw X (.type T) r) (hg:Gl X x) (hm:X.mg x=none) (hv:bootBuiltins x=some (.type T)) (ha:PA X (e::es) t) (hn:x ≠ "__name__" :=by decide) (hdb:(x==("__debug__" :Str))=false:=by decide)
 (he:starEach (e::es) X.env=(false,eval e X.env)::starEach es X.env:=by rfl) (hpl:(backTo pos (starEach es X.env)).any (·.1)=false:=by rfl):PE X (.Call (.Name x p) (e::es) [] pos) (tCB r t):=by
 intro pins s σ H Q I h;refine wpAny_Call_Name_kw (mX I hg hm hv ?_ hn hdb);exact PyProof.Rows.callWith_type1 (dH (ha pos pins s σ H _ I h) fun us s1 ⟨vs,H1,I1,r1,q1⟩=>hc pins s1 σ H1 vs us Q I1 r1 q1) he hpl
end
end L2
namespace HT
open PySem PyProof.Rows
section
open PySem.SeqAt
open PySem.AutoSeq1 (wpAny_loadPart')
open PySem.MeetsSeq PySem.MeetsSeq2 PySem.MeetsSeq3
end
section
variable {prog:Program} {w:World} {A:Around} {E:Value->Shared->Prop} {s:Shared}
def BP (n d:Nat):Option Int->Nat
 | none=>d
 | some v=>if v<0 then (v+(n:Int)).toNat else min v.toNat n
theorem BL (n d:Nat):BP n d none=d:=rfl
theorem G5 (n d k:Nat):BP n d (some (k:Int))=min k n:=by
 show (if (k:Int)<0 then ((k:Int)+(n:Int)).toNat else min (k:Int).toNat n)=min k n;rw [if_neg (by omega),Int.toNat_natCast]
end
end HT
namespace L2
open PySem PySem.Spec PyProof.Rows
abbrev TO:=St->Hp->(Option Int->Hp->Prop)->Prop
def PO (X:Cx) (e:Option Expr) (t:TO):Prop:=
 ∀(pins:List (Addr×Obj)) (s:Shared) (σ:St) (H:Hp) (Q:Option Int->Hp->Prop),Inv X pins σ H s->t σ H Q ->
  wpAny (model X.prog X.w) X.A (evalPart e X.env) (fun u s'=>∃o H',Inv X pins σ H' s'/\IsPart u o/\Q o H') X.xe s
def Pq:TO:=fun _ H Q=>Q none H
def WL (t:TE):TO:=fun σ H Q=>t σ H fun x H1=>∃i,x = .int i/\Q (some i) H1
section
variable {X:Cx} {e:Expr} {te:TE} {lo hi:Option Expr} {tl th:TO} {pos p2:Pos}
theorem Hs:PO X none Pq:=by
 intro pins s σ H Q I h;rw [evalPart_none];exact wpAny_pure ⟨none,H,I,.none,h⟩
theorem Hr (h:PE X e te):PO X (some e) (WL te):=by
 intro pins s σ H Q I hw;rw [evalPart_some];refine dH (h pins s σ H _ I hw) fun u s1 ⟨x,H1,I1,r1,q1⟩=> ?_;obtain ⟨i,rfl,q⟩:=q1;obtain ⟨t,rfl⟩:=r1;exact ⟨some i,H1,I1,.int i t,q⟩
def SlR (X:Cx) (r:V->Option Int->Option Int->Hp->VK->Prop):Prop:=
 ∀(pins:List (Addr×Obj)) (s:Shared) (σ:St) (H:Hp) (x:V) (v vl vu:Value) (lo hi:Option Int) (sl:Addr) (Q:VK),Inv X pins σ H s->RelV x v->s.heap.IsSliceOf sl vl vu .none->IsPart vl lo->IsPart vu hi->r x lo hi H Q ->
  ∃T id,typeLookup (.type T) "__getitem__" = pure (some (.builtin id))/\s.TypeIs v T/\wpAny (model X.prog X.w) X.A (getItem v (.ref sl)) (EP X pins σ Q) X.xe s
def tSl (r:V->Option Int->Option Int->Hp->VK->Prop) (te:TE) (tl th:TO):TE:=fun σ H Q=>te σ H fun x H1=>tl σ H1 fun l H2=>th σ H2 fun u H3=>r x l u H3 Q
theorem Cg {r:V->Option Int->Option Int->Hp->VK->Prop} (hr:SlR X r) (he:PE X e te) (hl:PO X lo tl) (hu:PO X hi th):PE X (.Subscript e (.Slice lo hi none p2) pos) (tSl r te tl th):=by
 intro pins s σ H Q I h;refine Subscript_ (dH (he pins s σ H _ I h) fun v s1 ⟨x,H1,I1,r1,q1⟩=> ?_);refine wpAny_Slice (dH (hl pins s1 σ H1 _ I1 q1) fun vl s2 ⟨l,H2,I2,pl,q2⟩=>dH (hu pins s2 σ H2 _ I2 q2) fun vu s3 ⟨u,H3,I3,pu,q3⟩=> ?_);rw [evalPart_none];refine wpAny_pure ?_;have I4:Inv X pins σ H3 {s3 with heap:=s3.heap.push {cls:= .type "slice",data:= .fields #[vl,vu,.none]}}:=I3.kept (t':=s3.toks) fun b ob q=>Heap.get?_push_of_some _ q;obtain ⟨T,id,hT,ht,hg⟩:=hr pins {s3 with heap:=s3.heap.push {cls:= .type "slice",data:= .fields #[vl,vu,.none]}} σ H3 x v vl vu l u s3.heap.objs.size Q I4 r1 (Heap.IsSliceOf.new ..) pl pu q3;show wpAny (model X.prog X.w) X.A (subscriptTail e (.Slice lo hi none p2) v (.ref s3.heap.objs.size)) (EP X pins σ Q) X.xe {s3 with heap:=s3.heap.push {cls:= .type "slice",data:= .fields #[vl,vu,.none]}};exact tail_any (ops:=[.ref s3.heap.objs.size,v]) ht hT hg (by with_unfolding_all rfl)
def yc (xs:List V) (lo hi:Option Int):List V:=(xs.drop (HT.BP xs.length 0 lo)).take (HT.BP xs.length xs.length hi - HT.BP xs.length 0 lo)
theorem Dk (xs:List V) (lo hi:Option Int):(yc xs lo hi).length<=xs.length:=by
 unfold yc;rw [List.length_take,List.length_drop];omega
end
end L2
namespace L2
open PySem PySem.Spec PyProof.Rows
def Ib (n:Nat) (i:Int):Option Nat:=if 0<=i then (if i<n then some i.toNat else none) else if -(n:Int)<=i then some (i+n).toNat else none
def uM {α:Type} (xs:List α) (i:Int):Option α:=(Ib xs.length i).bind fun j=>xs[j]?
theorem Aa {n:Nat} {i:Int} {j:Nat} (h:Ib n i=some j):seqIndex? i n=some j/\j<n /\ -(n:Int)<=i/\i<n:=by
 unfold Ib at h
 by_cases h0:0<=i
 ·rw [if_pos h0] at h
  by_cases h1:i<n
  ·rw [if_pos h1] at h
   have e:i.toNat=j:=Option.some.inj h;exact ⟨by rw [seqIndex_of h0 h1,e],by omega,by omega,h1⟩
  ·rw [if_neg h1] at h;cases h
 ·rw [if_neg h0] at h
  by_cases h1: -(n:Int)<=i
  ·rw [if_pos h1] at h
   have e:(i+n).toNat=j:=Option.some.inj h;exact ⟨by rw [seqIndex_neg (by omega) h1,e],by omega,h1,by omega⟩
  ·rw [if_neg h1] at h;cases h
theorem Ay {α:Type} {xs:List α} {i:Int} {v:α} (h:uM xs i=some v):∃j,seqIndex? i xs.length=some j/\xs[j]? = some v/\j<xs.length /\ -(xs.length:Int)<=i/\i<xs.length:=by
 unfold uM at h;cases e:Ib xs.length i with
 | none=>rw [e] at h;cases h
 | some j=>
   rw [e] at h;obtain ⟨h1,h2,h3,h4⟩:=Aa e;exact ⟨j,h1,h,h2,h3,h4⟩
theorem d_ {α:Type} {xs:List α} {j:Nat} {v:α} (h:xs[j]? = some v):uM xs (j:Int)=some v:=by
 have hj:j<xs.length:=(List.getElem?_eq_some_iff.mp h).1
 have e:Ib xs.length (j:Int)=some j:=by
  unfold Ib;rw [if_pos (by omega),if_pos (by omega)];simp
 unfold uM;rw [e];exact h
theorem Oq {α:Type} (xs:List α) (v:α):uM (xs++[v]) (-1)=some v:=by
 have hl:(xs++[v]).length=xs.length+1:=by simp
 have e:Ib (xs++[v]).length (-1)=some xs.length:=by
  unfold Ib;rw [hl,if_neg (by decide),if_pos (by omega)];congr 1;omega
 unfold uM;rw [e];show (xs++[v])[xs.length]? = some v;simp
def Rh (b:Expr):Prop:=∀o i,subscripted b false o i=operate [o,i] (getItem o i)
def Wm (X:Cx) (r:R2):Prop:=
 ∀(value slice:Expr) (pins:List (Addr×Obj)) (s:Shared) (σ:St) (H:Hp) (x y:V) (v u:Value) (Q:VK),Inv X pins σ H s->RelV x v->RelV y u->r x y H Q ->
  subscripted slice false v u=operate [v,u] (getItem v u)->wpAny (model X.prog X.w) X.A (subscriptTail value slice v u) (EP X pins σ Q) X.xe s
def Zy (X:Cx) (id:String) (r:V->List V->Hp->VK->Prop):Prop:=
 ∀(pins:List (Addr×Obj)) (s:Shared) (σ:St) (H:Hp) (x:V) (xs:List V) (v:Value) (us:List Value) (Q:VK),Inv X pins σ H s->RelV x v->Vals xs us->r x xs H Q ->
  wpAny (model X.prog X.w) X.A (call (.builtin id) (v::us)) (EP X pins σ Q) X.xe s
section
variable {X:Cx} {a b:Expr} {ta tb:TE} {pos:Pos}
theorem aN {r:R2} (hr:Wm X r) (ha:PE X a ta) (hb:PE X b tb) (hs:Rh b):PE X (.Subscript a b pos) (GR r ta tb):=by
 intro pins s σ H Q I h;exact Subscript_ (Vw ha hb I h fun v u s2 x y H2 I2 rx ry q=>hr a b pins s2 σ H2 x y v u Q I2 rx ry q (hs _ _))
def Xg (K:PySem.W.Frag):R2:=fun x y H Q=>∃p xs i v,x = .ref p/\y = .int i/\bH K H p xs/\uM xs i=some v/\Q v H
def Ca (K:PySem.W.Frag):R2:=fun x y H Q=>∃p xs i v,x = .ref p/\y = .int i/\dg K H p xs/\uM xs i=some v/\Q v H
def ab':R2:=fun x y H Q=>∃z i c,x = .str z/\y = .int i/\z.length<=sizeLine/\uM z.cps.toList i=some c/\Q (.str ⟨#[c]⟩) H
theorem QJ:Wm X (Xg X.K):=by
 intro value slice pins s σ H x y v u Q I rx ry h hs;obtain ⟨p,xs,i,z,rfl,rfl,hq,he,q⟩:=h;cases rx;obtain ⟨t,rfl⟩:=ry;obtain ⟨its,r,pl,hz⟩:=I.list hq;obtain ⟨j,h1,h2,h3,h4,h5⟩:=Ay he;obtain ⟨w,ew,rw'⟩:=r.get h2;have hl:=r.length;have hn:=wz;have fin:EP X pins σ Q w s:=⟨z,H,I,rw',q⟩
 by_cases h0:0<=i
 ·have hj:i.toNat=j:=by
   rw [seqIndex_of h0 h5] at h1;exact Option.some.inj h1
  exact item_listR pl.isList h0 (by omega) (by rw [hj];simpa using ew) fin hs
 ·have hj:(i+(its.toArray.size:Int)).toNat=j:=by
   rw [seqIndex_neg (by omega) h4] at h1;rw [List.size_toArray,←hl];exact Option.some.inj h1
  exact subscriptTail_builtinR (x:=w) pl.isList.typeIs slot_list_getitem.lookup
   (wpAny_getItem_list_neg (Q:=fun r s'=>r=w/\EP X pins σ Q r s') pl.isList (by omega) (by rw [List.size_toArray]<;>omega) (by omega) (by rw [hj];simpa using ew) ⟨rfl,fin⟩) hs
theorem U3:Wm X (Ca X.K):=by
 intro value slice pins s σ H x y v u Q I rx ry h hs;obtain ⟨p,xs,i,z,rfl,rfl,hq,he,q⟩:=h;cases rx;obtain ⟨t,rfl⟩:=ry;obtain ⟨its,r,pl,hz⟩:=I.tuple hq;obtain ⟨j,h1,h2,h3,h4,h5⟩:=Ay he;obtain ⟨w,ew,rw'⟩:=r.get h2;have hl:=r.length;have hn:=wz;have fin:EP X pins σ Q w s:=⟨z,H,I,rw',q⟩
 exact subscriptTail_builtinR (x:=w) pl.typeIs slot_tuple_getitem.lookup
  (getItem_tuple (j:=j) (Q:=fun r s'=>r=w/\EP X pins σ Q r s') pl (by omega) (by omega) (by rw [List.size_toArray,←hl];exact h1) (by simpa using ew) ⟨rfl,fin⟩) hs
theorem Nq:Wm X ab':=by
 intro value slice pins s σ H x y v u Q I rx ry h hs;obtain ⟨z,i,c,rfl,rfl,hz,he,q⟩:=h;obtain ⟨t,rfl⟩:=rx;obtain ⟨t',rfl⟩:=ry;obtain ⟨j,h1,h2,h3,h4,h5⟩:=Ay he;have hl:z.cps.toList.length=z.length:=by simp [Str.length]
 rw [hl] at h1 h4 h5;have hn:=wz
 exact tail_any (typeIs_str s z t) slot_str_getitem.lookup (getItem_str (c:=c) (by
  have e1:decide (i < -(2 ^ 63:Int))=false:=decide_eq_false (by omega);have e2:decide (i≥2 ^ 63)=false:=decide_eq_false (by omega);rw [e1,e2,Bool.or_false]) (by rw [h1];simpa using h2) ⟨.str ⟨#[c]⟩,H,I.tok _,⟨_,rfl⟩,q⟩) hs
theorem Fw (its:List Value) (n j:Nat) (u:Value):Obj.mapSeq (·.setIfInBounds j u) {cls:= .type "list",data:= .seq its.toArray n}={cls:= .type "list",data:= .seq (its.set j u).toArray n}:=by
 simp [Obj.mapSeq]
theorem Inv.lst {pins:List (Addr×Obj)} {σ:St} {H:Hp} {s:Shared} {p:Addr} {xs:List V} (I:Inv X pins σ H s) (h:H p=some (.lst xs)):
 ∃(its:List Value) (n:Nat),Vals xs its/\s.heap.get? p=some {cls:= .type "list",data:= .seq its.toArray n}/\xs.length<=sizeLine:=by
 obtain ⟨z,its,n,r,e⟩:=I.hok p _ h;exact ⟨its,n,r,e,z⟩
theorem Inv.UG {pins:List (Addr×Obj)} {σ:St} {H:Hp} {s:Shared} {p:Addr} {xs ys:List V} {its its':List Value} {n n':Nat} {f:Obj->Obj} (I:Inv X pins σ H s) (h:H p=some (.lst xs))
 (ho:s.heap.get? p=some {cls:= .type "list",data:= .seq its.toArray n}) (hf:f {cls:= .type "list",data:= .seq its.toArray n}={cls:= .type "list",data:= .seq its'.toArray n'}) (r:Vals ys its') (hz:ys.length<=sizeLine) (t:Nat):
 Inv X pins σ (upd H p (.lst ys)) {s with heap:=s.heap.update p f,toks:=t}:=by
 have e:(s.heap.update p f).get? p=some {cls:= .type "list",data:= .seq its'.toArray n'}:=by
  rw [Heap.get?_update_self f ho (by rw [hf]<;>rfl),hf]
 refine I.write (x:=p) (e:=p) (by rw [h];trivial) (.inl rfl) (fun b u hb q=>(Heap.get?_update_other _ _ (Ne.symm hb)).trans q) ⟨_,e⟩ ?_;exact ⟨hz,its',n',r,e⟩
def Xd:V->V->V->Hp->(Hp->Prop)->Prop:=fun o i v H Q=>∃p xs k j,o = .ref p/\i = .int k/\H p=some (.lst xs)/\Ib xs.length k=some j/\Q (upd H p (.lst (xs.set j v)))
theorem set_list:Zw X Xd:=by
 intro pins s σ H o i v ov iv u Q I ro ri rv h;obtain ⟨p,xs,k,j,rfl,rfl,hp,hj,q⟩:=h;cases ro;obtain ⟨t,rfl⟩:=ri;obtain ⟨its,n,r,ho,hz⟩:=I.lst hp;obtain ⟨h1,h2,h3,h4⟩:=Aa hj;have hl:=r.length;have hn:=wz
 have I':Inv X pins σ (upd H p (.lst (xs.set j v))) {s with heap:=s.heap.update p (Obj.mapSeq (·.setIfInBounds j u))}:=
  I.UG hp ho (Fw its n j u) (r.set rv j) (by rw [List.length_set];exact hz) s.toks
 by_cases h0:0<=k
 ·have hk:k.toNat=j:=by
   rw [seqIndex_of h0 h4] at h1;exact Option.some.inj h1
  exact PySem.W.ki_setAt ho h0 (by omega) (by rw [List.size_toArray,←hl];exact h4) (by rw [hk];exact ⟨_,I',q⟩)
 ·have hk:(k+(its.toArray.size:Int)).toNat=j:=by
   rw [seqIndex_neg (by omega) h3] at h1;rw [List.size_toArray,←hl];exact Option.some.inj h1
  exact PySem.W.ki_setBack ho (by omega) (by rw [List.size_toArray,←hl];exact h3) (by omega) (by rw [hk];exact ⟨_,I',q⟩)
theorem zK (lo hi:Option Int) (n:Nat):(sliceBounds lo hi none n).1=((HT.BP n 0 lo:Nat):Int)/\(sliceBounds lo hi none n).2.1=((HT.BP n n hi:Nat):Int)/\(sliceBounds lo hi none n).2.2=1:=by
 refine ⟨?_, ?_,rfl⟩
 ·cases lo with
  | none=>simp [sliceBounds,HT.BP]
  | some i=>
    simp only [sliceBounds,HT.BP,Option.getD_none,show (1:Int)>0 by decide,if_true]
    by_cases h:i<0
    ·simp only [h,if_true]<;>omega
    ·simp only [h,if_false]<;>omega
 ·cases hi with
  | none=>simp [sliceBounds,HT.BP]
  | some i=>
    simp only [sliceBounds,HT.BP,Option.getD_none,show (1:Int)>0 by decide,if_true]
    by_cases h:i<0
    ·simp only [h,if_true]<;>omega
    ·simp only [h,if_false]<;>omega
theorem xV (its:List Value) (lo hi:Option Int):slicePick its.toArray lo hi none=((its.drop (HT.BP its.length 0 lo)).take (HT.BP its.length its.length hi - HT.BP its.length 0 lo)).toArray:=by
 obtain ⟨h1,h2,h3⟩:=zK lo hi its.toArray.size;unfold slicePick;rw [h1,h2,h3];simp only [sliceRange_one,pick_run,List.size_toArray]<;>rfl
def Xc (K:PySem.W.Frag):V->Option Int->Option Int->Hp->VK->Prop:=fun x lo hi H Q=>∃a xs,x = .ref a/\bH K H a xs /\ ∀p,H p=none->Q (.ref p) (upd H p (.lst (yc xs lo hi)))
theorem Px:SlR X (Xc X.K):=by
 intro pins s σ H x v vl vu lo hi sl Q I rx hs pl pu h;obtain ⟨a,xs,rfl,hx,q⟩:=h;cases rx;obtain ⟨its,r,ht,hz⟩:=I.list hx;have hlen:=r.length;refine ⟨"list",_,slot_list_getitem.lookup,ht.isList.typeIs, ?_⟩;refine wpAny_getItem_list_slice ht.isList hs pl pu .none (by simp) ?_ (by rw [List.size_toArray]<;>omega);rw [xV,←hlen];refine ⟨.ref s.heap.objs.size,_,I.laid (t':=s.toks) (o:= .lst (yc xs lo hi)) (fun b ob q=>Heap.get?_push_of_some _ q) (Nat.le_refl _) ?_,rfl,q _ (I.hok.fresh (Nat.le_refl _))⟩;exact ⟨Nat.le_trans (Dk xs lo hi) hz,_,0,(r.drop (HT.BP xs.length 0 lo)).take (HT.BP xs.length xs.length hi - HT.BP xs.length 0 lo),Heap.get?_push_size _ rfl⟩
def uc:V->Bool
 | .non=>true
 | .bl _=>true
 | .int _=>true
 | .str _=>true
 | _=>false
def QZ:V->V->Bool
 | .non,.non=>true
 | .bl a,.bl b=>a==b
 | .bl a,.int b=>(if a then 1 else 0)==b
 | .int a,.bl b=>a==(if b then 1 else 0)
 | .int a,.int b=>a==b
 | .str a,.str b=>a==b
 | _,_=>false
theorem Vk {A:Around} {s:Shared} {y x:V} {u v:Value} (ry:RelV y u) (rx:RelV x v) (fy:uc y=true) (fx:uc x=true):SeqAt.EqAt A s u v (QZ y x):=by
 cases y with
 | non=>
   cases ry;cases x with
   | non=>cases rx;exact SeqAt.EqAt.same _
   | bl b=>cases rx;exact SeqAt.EqAt.none_bool b
   | int b=>obtain ⟨t,rfl⟩:=rx;exact SeqAt.EqAt.none_int b t
   | str b=>obtain ⟨t,rfl⟩:=rx;exact SeqAt.EqAt.none_str b t
   | _=>exact absurd (show false=true from fx) Bool.false_ne_true
 | bl a=>
   cases ry;cases x with
   | non=>cases rx;exact SeqAt.EqAt.bool_none a
   | bl b=>cases rx;exact SeqAt.EqAt.bool_bool a b
   | int b=>obtain ⟨t,rfl⟩:=rx;exact SeqAt.EqAt.bool_int a b t
   | str b=>obtain ⟨t,rfl⟩:=rx;exact SeqAt.EqAt.bool_str a b t
   | _=>exact absurd (show false=true from fx) Bool.false_ne_true
 | int a=>
   obtain ⟨t',rfl⟩:=ry;cases x with
   | non=>cases rx;exact SeqAt.EqAt.int_none a t'
   | bl b=>cases rx;exact SeqAt.EqAt.int_bool a t' b
   | int b=>obtain ⟨t,rfl⟩:=rx;exact SeqAt.EqAt.int_int a t' b t
   | str b=>obtain ⟨t,rfl⟩:=rx;exact SeqAt.EqAt.int_str a t' b t
   | _=>exact absurd (show false=true from fx) Bool.false_ne_true
 | str a=>
   obtain ⟨t',rfl⟩:=ry;cases x with
   | non=>cases rx;exact SeqAt.EqAt.str_none a t'
   | bl b=>cases rx;exact SeqAt.EqAt.str_bool a t' b
   | int b=>obtain ⟨t,rfl⟩:=rx;exact SeqAt.EqAt.str_int a t' b t
   | str b=>obtain ⟨t,rfl⟩:=rx;exact SeqAt.EqAt.str_str a t' b t
   | _=>exact absurd (show false=true from fx) Bool.false_ne_true
 | _=>exact absurd (show false=true from fy) Bool.false_ne_true
def Q0 (x:V) (u:Value):Bool:=match u with
 | .none=>QZ .non x
 | .bool b=>QZ (.bl b) x
 | .int i _=>QZ (.int i) x
 | .str z _=>QZ (.str z) x
 | _=>false
theorem NQ {x y:V} {u:Value} (r:RelV y u) (f:uc y=true):Q0 x u=QZ y x:=by
 cases y with
 | non=>cases r;rfl
 | bl b=>cases r;rfl
 | int i=>obtain ⟨t,rfl⟩:=r;rfl
 | str z=>obtain ⟨t,rfl⟩:=r;rfl
 | _=>exact absurd (show false=true from f) Bool.false_ne_true
theorem A_ {x:V}:∀{xs:List V} {us:List Value},Vals xs us->xs.all uc=true->us.any (Q0 x)=xs.any fun y=>QZ y x
 | _,_,.nil,_=>rfl
 | y::xs,u::us,.cons r t,f=>by
   rw [List.all_cons,Bool.and_eq_true] at f;rw [List.any_cons,List.any_cons,NQ r f.1,A_ t f.2]
theorem wg {A:Around} {s:Shared} {x:V} {v:Value} (rx:RelV x v) (fx:uc x=true):∀{xs:List V} {us:List Value},Vals xs us->xs.all uc=true -> ∀u∈us,SeqAt.EqAt A s u v (Q0 x u)
 | _,_,.nil,_=>fun u hu=>by cases hu
 | y::xs,u::us,.cons r t,f=>fun u' hu=>by
   rw [List.all_cons,Bool.and_eq_true] at f;rcases List.mem_cons.mp hu with rfl|hu
   ·rw [NQ r f.1];exact Vk r rx f.1 fx
   ·exact wg rx fx t f.2 u' hu
def inV (x:V) (xs:List V):Bool:=xs.any fun y=>QZ y x
def rIn (K:PySem.W.Frag) (neg:Bool):R2:=fun x y H Q=>∃p xs,y = .ref p/\(bH K H p xs\/dg K H p xs)/\uc x=true/\xs.all uc=true/\Q (.bl (if neg then !inV x xs else inV x xs)) H
theorem Jp:qe X (compareOp .In) (rIn X.K false):=by
 intro pins s σ H x y v u Q I rx ry h;obtain ⟨p,xs,rfl,hq,fx,fs,q⟩:=h;cases ry;rcases hq with hq|hq
 ·obtain ⟨its,r,pl,hz⟩:=I.list hq
  refine SeqAt.in_listAt (Q0 x) pl.isList (fun w hw=>wg rx fx r fs w (by simpa using hw)) ⟨.bl _,H,I,rfl, ?_⟩;rw [show its.toArray.any (Q0 x)=its.any (Q0 x) by simp,A_ r fs];exact q
 ·obtain ⟨its,r,pl,hz⟩:=I.tuple hq
  refine SeqAt.in_tupleAt (Q0 x) pl (fun w hw=>wg rx fx r fs w (by simpa using hw)) ⟨.bl _,H,I,rfl, ?_⟩;rw [show its.toArray.any (Q0 x)=its.any (Q0 x) by simp,A_ r fs];exact q
theorem Al:iw X (.builtin "len") (fun xs H Q=>∃p ys,xs=[.ref p]/\(bH X.K H p ys\/dg X.K H p ys)/\Q (.int ys.length) H):=by
 intro pins s σ H xs us Q I r h;obtain ⟨p,ys,rfl,hq,q⟩:=h;obtain ⟨u,rfl,rx⟩:=vals1 r;cases rx;have hn:=wz;rcases hq with hq|hq
 ·obtain ⟨its,r',pl,hz⟩:=I.list hq
  have hlen:=r'.length;exact Calls.call_len_list pl.isList (by simp only [List.size_toArray]<;>omega) ⟨.int ys.length,H,I.tok _,⟨s.toks+1,by rw [List.size_toArray,hlen]⟩,q⟩
 ·obtain ⟨its,r',pl,hz⟩:=I.tuple hq
  have hlen:=r'.length;exact len_tuple pl (by simp only [List.size_toArray]<;>omega) ⟨.int ys.length,H,I.tok _,⟨s.toks+1,by rw [List.size_toArray,hlen]⟩,q⟩
theorem Ak:iw X (.type "list") (fun xs H Q=>∃p ys,xs=[.ref p]/\(bH X.K H p ys\/dg X.K H p ys) /\ ∀l,H l=none->Q (.ref l) (upd H l (.lst ys))):=by
 intro pins s σ H xs us Q I r h;obtain ⟨p,ys,rfl,hq,q⟩:=h;obtain ⟨u,rfl,rx⟩:=vals1 r;cases rx
 have fin:∀(its:List Value),Vals ys its->ys.length<=sizeLine -> ∀(h':Heap) (c':Nat),(∀b o',s.heap.get? b=some o'->h'.get? b=some o') ->
  h'.get? s.heap.objs.size=some {cls:= .type "list",dict:=none,data:= .seq its.toArray c',slots:= #[]}->EP X pins σ Q (.ref s.heap.objs.size) {s with heap:=h'}:=fun its r' hz h' c' kp e=>
  ⟨.ref s.heap.objs.size,_,I.laid (t':=s.toks) kp (Nat.le_refl _) (show fM X.prog X.w _ h' _ (.lst ys) from ⟨hz,its,c',r',e⟩),rfl,q _ (I.hok.fresh (Nat.le_refl _))⟩
 rcases hq with hq|hq
 ·obtain ⟨its,r',pl,hz⟩:=I.list hq
  have hlen:=r'.length;obtain ⟨o,ho,hc,n,hd⟩:=pl.isList;exact call_list_seq p (.inl rfl) ho hc hd (fun h' c' kp e=>fin its r' hz h' c' kp e) (by simp only [List.size_toArray]<;>omega)
 ·obtain ⟨its,r',pl,hz⟩:=I.tuple hq
  have hlen:=r'.length;obtain ⟨o,ho,hc,n,hd⟩:=pl;exact call_list_seq p (.inr rfl) ho hc hd (fun h' c' kp e=>fin its r' hz h' c' kp e) (by simp only [List.size_toArray]<;>omega)
def tyV (K:PySem.W.Frag) (T:String) (x:V) (H:Hp):Prop:=match x with
 | .str _=>T = "str"
 | .int _=>T = "int"
 | .ref p=>(T = "list" /\ ∃xs,bH K H p xs)\/(T = "tuple" /\ ∃o,K.lookup p=some o/\o.cls = .type "tuple" /\ o.dict=none) \/
    (T = "dict" /\ ((∃kvs,H p=some (.dK kvs)) \/ ∃kvs,H p=some (.dT kvs)))\/(T = "set" /\ ∃S n,H p=some (.set S n))
 | _=>False
theorem SX {pins:List (Addr×Obj)} {σ:St} {H:Hp} {s:Shared} {T:String} {x:V} {v:Value} (I:Inv X pins σ H s) (r:RelV x v) (ty:tyV X.K T x H):
 s.TypeIs v T /\ ∀a,v = .ref a -> ∃ob,s.heap.get? a=some ob/\ob.dict=none:=by
 cases x with
 | str z=>
   obtain ⟨t,rfl⟩:=r;cases (show T = "str" from ty);exact ⟨typeIs_str s z t,fun _ e=>nomatch e⟩
 | int i=>
   obtain ⟨t,rfl⟩:=r;cases (show T = "int" from ty);exact ⟨typeIs_int s i t,fun _ e=>nomatch e⟩
 | ref p=>
   cases r;rcases ty with ⟨rfl,xs,hq⟩|⟨rfl,o,hk,hc,hd⟩|⟨rfl,hk⟩|⟨rfl,S,n,hk⟩
   ·obtain ⟨its,_,pl,_⟩:=I.list hq
    refine ⟨pl.isList.typeIs,fun a e=> ?_⟩;cases e;obtain ⟨o,n,e,c,hd,_⟩:=pl;exact ⟨o,e,hd⟩
   ·refine ⟨⟨o,I.oA p o hk,hc⟩,fun a e=> ?_⟩
    cases e;exact ⟨o,I.oA _ o hk,hd⟩
   ·have z:∃o,s.heap.get? p=some o/\o.ExactDict:=by
     rcases hk with ⟨kvs,hk⟩|⟨kvs,hk⟩
     ·obtain ⟨_,_,_,_,o,_,_,e,ex,_⟩:=I.hok p _ hk
      exact ⟨o,e,ex⟩
     ·obtain ⟨_,_,_,_,o,_,_,e,ex,_⟩:=I.hok p _ hk
      exact ⟨o,e,ex⟩
    obtain ⟨o,e,ex⟩:=z;refine ⟨⟨o,e,ex.1⟩,fun a e2=> ?_⟩;cases e2;exact ⟨o,e,ex.2.1⟩
   ·obtain ⟨o,_,_,_,e,ex,_⟩:=I.hok p _ hk
    refine ⟨⟨o,e,ex.1⟩,fun a e2=> ?_⟩;cases e2;exact ⟨o,e,ex.2.1⟩
 | _=>exact False.elim ty
def tBM (K:PySem.W.Frag) (T:String) (r:V->List V->Hp->VK->Prop) (to:TE) (t:TA):TE:=fun σ H Q=>to σ H fun x H1=>tyV K T x H1/\t σ H1 fun xs H2=>r x xs H2 Q
variable {o e:Expr} {es:List Expr} {to:TE} {t:TA} {name:Str} {apos cpos:Pos} {T id:String} {r:V->List V->Hp->VK->Prop}
theorem Ru (pa:PlainAttrs T) (slot:Slot T name id) (hty:typeOf (.builtin id)=pure (.type "method_descriptor")) (hm:Zy X id r) (ho:PE X o to) (ha:PA X (e::es) t)
 (hbase:attributeBase o name X.env (eval o X.env)=eval o X.env:=by rfl)
 (hfew:((backTo cpos (starEach (e::es) X.env)).all (fun x=> !x.1)&&(backToKw cpos (keywordEach [] X.env)).all (fun x=>x.1.isSome)
   && decide ((e::es).length+([]:List Keyword).length+(if ([]:List Keyword).isEmpty then 0 else 1)<30))=true:=by rfl)
 (hline:(apos.endLine==cpos.line)=true:=by rfl) (hs:starEach (e::es) X.env=(false,eval e X.env)::starEach es X.env:=by rfl) (hplain:(backTo cpos (starEach es X.env)).any (·.1)=false:=by rfl):
 PE X (.Call (.Attribute o name apos) (e::es) [] cpos) (tBM X.K T r to t):=by
 intro pins s σ H Q I h;refine wpAny_Call_method_late hbase hfew hline rfl (dH (ho pins s σ H _ I h) fun v s1 ⟨x,H1,I1,r1,ty,q1⟩=> ?_);obtain ⟨h1,h2⟩:=SX I1 r1 ty;refine ⟨T,id,pa,slot,hty,h1,h2, ?_⟩;have hA:=ha cpos pins s1 σ H1 _ I1 q1;rw [hs] at hA ⊢;refine Calls.callWith_builtin (by show (false||(backTo cpos (starEach es X.env)).any (·.1))=false;rw [hplain]<;>rfl) (Calls.evalArgs_plain ?_);exact dH hA fun us s2 ⟨vs,H2,I2,r2,q2⟩=>hm pins s2 σ H2 x vs v us Q I2 r1 r2 q2
end
end L2
namespace L2
open PySem PySem.Spec PyProof.Rows
def MtM (X:Cx) (id:String) (r:V->List V->Hp->VK->Prop):Prop:=
 ∀(pins:List (Addr×Obj)) (s:Shared) (σ:St) (H:Hp) (x:V) (xs:List V) (v:Value) (us:List Value) (Q:VK),Inv X pins σ H s->RelV x v->Vals xs us->r x xs H Q ->
  wpAny (model X.prog X.w) X.A (call (.builtin id) (v::us)) (EP X pins σ Q) X.xe s
theorem Vals.one {x:V} {us:List Value} (h:Vals [x] us):∃u,us=[u]/\RelV x u:=by
 cases h with
 | cons r t=>cases t;exact ⟨_,rfl,r⟩
theorem Vals.eraseIdx:∀{xs:List V} {us:List Value} (i:Nat),Vals xs us->Vals (xs.eraseIdx i) (us.eraseIdx i)
 | _,_,_,.nil=> .nil
 | _,_,0,.cons _ t=>t
 | _,_,i+1,.cons r t=> .cons r (Vals.eraseIdx i t)
theorem yM {α:Type}:∀(l:List α) (i:Nat),(l.eraseIdx i).length<=l.length
 | [],_=>Nat.le_refl _
 | _::_,0=>Nat.le_succ _
 | _::r,i+1=>Nat.succ_le_succ (yM r i)
section
variable {X:Cx} {pins:List (Addr×Obj)} {σ:St} {H:Hp} {s:Shared} {l b:Addr} {xs ys zs:List V}
theorem Inv.XQ {its its':List Value} {n:Nat} {f:Array Value->Array Value} {t':Nat} (I:Inv X pins σ H s) (hH:H l=some (.lst xs))
 (e:s.heap.get? l=some {cls:= .type "list",data:= .seq its.toArray n}) (hf:f its.toArray=its'.toArray) (hv:Vals ys its') (hz:ys.length<=sizeLine):
 Inv X pins σ (upd H l (.lst ys)) {s with heap:=s.heap.update l (Obj.mapSeq f),toks:=t'}:=by
 have q:=PySem.IsL.update e f;rw [hf] at q;refine I.write (x:=l) (e:=l) (by rw [hH];exact trivial) (.inl rfl) (fun b' u hb hu=>(Heap.get?_update_other s.heap (Obj.mapSeq f) (Ne.symm hb)).trans hu) ⟨_,q⟩ ?_;exact ⟨hz,its',_,hv,q⟩
theorem Inv.XM (I:Inv X pins σ H s) (hH:H l=some (.lst xs)):xs.length<=sizeLine /\ ∃(its:List Value) (n:Nat),Vals xs its/\xs.length=its.length/\s.heap.get? l=some {cls:= .type "list",data:= .seq its.toArray n}:=by
 obtain ⟨z,its,n,r,e⟩:=I.hok l _ hH;exact ⟨z,its,n,r,r.length,e⟩
end
section
variable {X:Cx}
def G_:V->List V->Hp->VK->Prop:=fun x vs H Q=>∃l xs y,x = .ref l/\vs=[y]/\H l=some (.lst xs)/\xs.length<sizeLine/\Q .non (upd H l (.lst (xs++[y])))
theorem sO:MtM X "list.append" G_:=by
 intro pins s σ H x vs v us Q I rx rv h;obtain ⟨l,xs,y,rfl,rfl,hH,hz,q⟩:=h;cases rx;obtain ⟨u,rfl,ru⟩:=rv.one;obtain ⟨z,its,n,r,hl,e⟩:=I.XM hH;refine call_meets F.slot_list_append ⟨_,e,rfl⟩ F.entry_list_append (F.args_list_append_2 _ _) (PySem.list_append l its.toArray n u (by rw [List.size_toArray];omega)) ⟨e, ?_⟩;refine ⟨.non,_,I.XQ (its':=its++[u]) hH e (by simp) (r.append (.cons ru .nil)) ?_,rfl,q⟩;rw [List.length_append,List.length_singleton];omega
def TY:V->List V->Hp->VK->Prop:=fun x vs H Q=>∃l xs i k y,x = .ref l/\vs=[.int i]/\H l=some (.lst xs) /\ -(2 ^ 63)<=i/\i<2 ^ 63/\seqIndex? i xs.length=some k/\xs[k]? = some y/\Q y (upd H l (.lst (xs.eraseIdx k)))
theorem MP:MtM X "list.pop" TY:=by
 intro pins s σ H x vs v us Q I rx rv h;obtain ⟨l,xs,i,k,y,rfl,rfl,hH,h1,h2,hk,hy,q⟩:=h;cases rx;obtain ⟨u,rfl,ru⟩:=rv.one;obtain ⟨t,rfl⟩:=ru;obtain ⟨z,its,n,r,hl,e⟩:=I.XM hH;obtain ⟨w,hw,rw'⟩:=r.get hy
 refine call_meets F.slot_list_pop ⟨_,e,rfl⟩ F.entry_list_pop (F.args_list_pop_2 _ _)
  (MeetsSeq.list_pop_at l its.toArray n i t k w (fitsIndex_both h1 h2) (by rw [List.size_toArray,←hl];exact hk) (by rw [←Array.getElem?_toList];exact hw) (by rw [List.size_toArray];omega)) ⟨e, ?_⟩
 refine ⟨y,_,I.XQ (its':=its.eraseIdx k) hH e ?_ (r.eraseIdx k) ?_,rw',q⟩
 ·show its.toArray.eraseIdxIfInBounds k=(its.eraseIdx k).toArray
  rw [List.eraseIdxIfInBounds_toArray]
 ·have:=yM xs k
  omega
end
section
variable {prog:Program} {w:World} {A:Around} {E:Value->Shared->Prop} {s:Shared}
end
section
variable {X:Cx}
end
end L2
namespace L2
open PySem PySem.Spec PyProof.Rows
section
variable {κ:Type} [DecidableEq κ]
end
section
variable {P:Program} {w:World} {H:Hp} {h:Heap} {a:Addr}
end
section
variable {X:Cx} {pins:List (Addr×Obj)} {σ:St} {H:Hp} {s:Shared} {a:Addr} {y v:V} {u r:Value} {o:Option V} {A:Around} {E:Value->Shared->Prop}
end
section
variable {X:Cx} {pins:List (Addr×Obj)} {σ:St} {H:Hp} {s:Shared} {a:Addr} {kvs:List (Key×V)} {k:Key} {u:Value} {A:Around} {E:Value->Shared->Prop}
end
section
variable {X:Cx} {o i e value:Expr} {pos pos' tpos:Pos} {td ty tv:TE}
end
section
variable {X:Cx} {pos:Pos}
end
structure M1 (X:Cx) (o:Expr) (m:Str) (apos:Pos) (e:Expr) (cpos:Pos):Prop where
 base:attributeBase o m X.env (eval o X.env)=eval o X.env
 few:((backTo cpos (starEach [e] X.env)).all (fun x=> !x.1)&&(backToKw cpos (keywordEach [] X.env)).all (fun x=>x.1.isSome)
  && decide (([e]:List Expr).length+([]:List Keyword).length+(if ([]:List Keyword).isEmpty then 0 else 1)<30))=true
 line:(apos.endLine==cpos.line)=true
 trees:backTo cpos (starEach [e] X.env)=[(false,eval e X.env)]
structure M2 (X:Cx) (o:Expr) (m:Str) (apos:Pos) (e f:Expr) (cpos:Pos):Prop where
 base:attributeBase o m X.env (eval o X.env)=eval o X.env
 few:((backTo cpos (starEach [e,f] X.env)).all (fun x=> !x.1)&&(backToKw cpos (keywordEach [] X.env)).all (fun x=>x.1.isSome)
  && decide (([e,f]:List Expr).length+([]:List Keyword).length+(if ([]:List Keyword).isEmpty then 0 else 1)<30))=true
 line:(apos.endLine==cpos.line)=true
 trees:backTo cpos (starEach [e,f] X.env)=[(false,eval e X.env),(false,eval f X.env)]
section
variable {X:Cx} {pins:List (Addr×Obj)} {σ:St} {H:Hp} {s:Shared} {a:Addr} {y d:V} {u r:Value} {o:Option V} {A:Around} {E:Value->Shared->Prop}
end
section
variable {X:Cx} {o e f:Expr} {apos cpos:Pos} {td ty tx:TE}
end
section
variable {X:Cx} {pins:List (Addr×Obj)} {σ:St} {H:Hp} {s:Shared} {a:Addr} {kvs:List (Key×V)} {A:Around} {E:Value->Shared->Prop}
end
section
variable {X:Cx} {pins:List (Addr×Obj)} {σ:St} {H:Hp} {s:Shared} {a:Addr} {y:V} {u:Value} {A:Around} {E:Value->Shared->Prop}
end
end L2
namespace Att
open PySem PySem.W PySem.Calls PyProof.Rows
theorem uD {P:Params} {h:Heap}:∀(ns:List Int) (vs:List Value),WellAll P h vs (ns.map WData.int)->IntsAre vs ns:=by
 intro ns
 induction ns with
 | nil=>
   intro vs w;rw [List.map_nil] at w;cases w;exact .nil
 | cons n ns ih=>
   intro vs w;rw [List.map_cons] at w;cases w with
   | cons a b=>
     cases a;exact .cons _ _ (ih _ b)
theorem Jh {l:OpenLaw} {n:Nat} (hn:l.most=some n) {P:Params} {h:Heap} {args:List WData} {vals:List Value}
 (hpre:l.row.toRowW.claim.pre args=true) (hwl:WellAll P h vals args):
 ∃a vs ns,vals=[Value.ref a]/\args=[WData.list (ns.map WData.int)]/\h.get? a=some {cls:= .type "list",data:= .seq vs.toArray}/\IntsAre vs ns/\ns.length<=n:=by
 have hsh:WShape.hasAll [] args [.list .int]=true:=(pre_splitW hpre).1;have hc:l.pre.holds [] {args:=args}=true:=(pre_splitW hpre).2;obtain ⟨d,r,rfl,h1,h2⟩:=hasAllW_cons hsh;obtain rfl:=hasAllW_nil h2;obtain ⟨xs,rfl,h3⟩:=hasW_list h1;obtain ⟨ns,rfl⟩:=items_int h3
 have hlen:ns.length<=n:=by
  unfold OpenLaw.pre at hc
  have h4:(WTm.not (.lt (.lit (.int (n:Int))) (.len (.arg 0)))).holds [] {args:=[.list (ns.map .int)]}=true:=by
   have h4:=(holds_andW hc).1;rw [hn] at h4;exact h4
  have h5:=condW_of h4 (w_not (w_lt w_lit (w_len_list (w_arg rfl))));rw [List.length_map] at h5;refine Nat.le_of_not_lt fun q=> ?_;have q':(n:Int)<((ns.length:Nat):Int):=by omega
  first
   | (rw [decide_eq_true q'] at h5;exact absurd h5 (by decide))
   | (simp at h5;omega)
 cases hwl with
 | cons w1 w2=>
   cases w2;cases w1 with
   | list ho hall=>exact ⟨_,_,ns,rfl,rfl,ho,uD ns _ hall,hlen⟩
theorem Jm (l:OpenLaw) (args:List WData):l.row.toRowW.claim.post args (.bool true) args=true:=
 postW_of (r:=l.row.toRowW) (X:=(true==true))
  (show WShape.has [] (.bool true) .bool=true by first |rfl|decide|simp [WShape.has,WShape.arms,WShape.armsAll])
  (show (WTm.eq .res (.lit (.bool true))).value [] {args:=args,res:=some (.bool true),after:=args}=some (.bool (true==true)) from w_eq_bool (w_res rfl) w_lit) rfl
theorem DK {l:OpenLaw} {n:Nat} {q:Program} {loose:List Str} {XP:(Str->Option Value)->Heap->Prop} {YP:World->Heap->Prop} {d:DefRec}
 (hn:l.most=some n) (hdf:d.params.defaults=[])
 (call:∀(w:World) (s₀ s₁:Shared) (mg mb:Str->Option Value) (fa:Addr) (o:Obj) (pm cd doc:Value) (a:Addr) (vs:List Value) (ns:List Int),
   Ground q loose [] XP w s₀ mg mb s₁.heap->YP w s₁.heap ->
   s₁.heap.get? fa=some o->o.data = .func (docDef d.name d.params d.body d.scope pm cd doc)->s₁.heap.CodeRec cd d.name->mg d.name=some (.ref fa) ->
   s₁.heap.get? a=some {cls:= .type "list",data:= .seq vs.toArray}->IntsAre vs ns->ns.length<=n->s₁.gens = #[] ->
   codeAny (model l.prog w) callerA (.call (.ref fa) ⟨[.ref a],[]⟩) (fun r s'=>r = .ok (.ret (.bool true))/\OldK s₁.heap s'.heap/\s'.os=s₁.os/\AllBare s'.gens) s₁):
 WalkO q loose XP YP l.row.toRowW d [] (fun f vs=>PySem.call f vs):=by
 intro w s₀ s₁ mg mb G Y fa o pm cd doc dV kV ho hd hcd hD hmg hg args vals as hpre hlay hrd hwl hlo;obtain rfl:dV = .none:=Dflts.none hD hdf;obtain rfl:kV = .none:=Dflts.noKw hD;obtain ⟨a,vs,ns,rfl,rfl,hobj,hints,hlen⟩:=Jh hn hpre hwl;refine enter_call (codeAny_mono (call w s₀ s₁ mg mb fa o pm cd doc a vs ns G Y ho (fd_plain hd) hcd hmg hobj hints hlen hg) fun r s' hq=> ?_);obtain ⟨rfl,h2,h3,h4⟩:=hq;exact ⟨.inl ⟨.bool true,.bool true,[],rfl,fun _=>rfl,.bool true,Jm l _,fun _=>⟨List.Pairwise.nil,fun _ hm=>(nomatch hm)⟩⟩,h2,h3,h4⟩
section
variable {prog:Program} {w:World} {A:Around} {E:Value->Shared->Prop} {s:Shared} {K:Frag}
def ledger (h:Heap) (L d:Addr):List (Addr×Obj):=(List.range h.objs.size).filterMap fun a=>if a=L\/a=d then none else (h.get? a).map fun o=>(a,o)
end
end Att
namespace L2
open PySem PySem.Spec PyProof.Rows
theorem yF {vs:List Value} {ns:List Int} (h:IntsAre vs ns):Vals (ns.map V.int) vs:=by
 induction h with
 | nil=>exact .nil
 | cons n t h ih=>exact .cons ⟨t,rfl⟩ ih
def Only (H:Hp):Prop:=∀b,H b=none \/ ∃o xs,H b=some (.Ai o (.lst xs))
theorem Nj {P:Program} {w:World} {K:PySem.W.Frag} {mg mb:Str->Option Value} {CX:Kq} {k:Nat} {fa a:Addr} {fd:FuncData} {x:Str} {sp:Sp} {s₁:Shared} {vs:List Value} {ns:List Int}
 (KX:K.In s₁.heap) (hns:s₁.heap.Ns mainGlobals mg) (hb:s₁.heap.Ns builtinsNs mb) (hbb:∀x:Str,x ≠ "__name__" -> mb x=bootBuiltins x) (hlim:s₁.heap.NoLimit) (hg:s₁.gens = #[])
 (ha:s₁.heap.get? a=some {cls:= .type "list",data:= .seq vs.toArray}) (hi:IntsAre vs ns) (hl:ns.length<=sizeLine) (hr:eV k callerA)
 (F:∀base:Heap,K.In base->base.Ns mainGlobals mg->cj P w K mg base CX k fa fd [x] sp) (hbind:∀(s:Shared) (u:Value),BindsTo s fd ⟨[u],[]⟩ [(x,u)])
 (hsp:∀H:Hp,Only H->bH K H a (ns.map V.int)->sp [.ref a] H (fun v _=>v = .bl true) fun _ _ _=>False)
 (hCX:∀H e s',CX [] H s₁ (fun _ _ _=>False) e s'->False):
 codeAny (model P w) callerA (.call (.ref fa) ⟨[.ref a],[]⟩) (fun r s'=>r = .ok (.ret (.bool true))/\OldK s₁.heap s'.heap/\s'.os=s₁.os/\AllBare s'.gens) s₁:=by
 have rv:=yF hi;have lenV:=hi.length
 have core:∀H:Hp,Only H->bH K H a (ns.map V.int)->q_ P w H s₁.heap->(∀b,H b≠none->b=a)->(H a≠none->K.lookup a=none) ->
  codeAny (model P w) callerA (.call (.ref fa) ⟨[.ref a],[]⟩) (fun r s'=>r = .ok (.ret (.bool true))/\OldK s₁.heap s'.heap/\s'.os=s₁.os/\AllBare s'.gens) s₁:=by
  intro H hO hS hok hA hK;have Iw:∀{b:Addr} {o:Obj},s₁.heap.get? b=some o->H b=none->(Af s₁.heap H).get? b=some o:=fun e n=>Nt e n
  have Xz:∀{b:Addr} {o:Obj} {es:Array DictEntry} {ep:Nat},s₁.heap.get? b=some o->o.data = .dict es ep->H b=none:=fun {b o es ep} e d=>by
   cases q:H b with
   | none=>rfl
   | some u=>
     have e':b=a:=hA b (by rw [q];simp);subst e';rw [ha] at e;cases e;have d':Data.seq vs.toArray _=Data.dict es ep:=d;cases d'
  have Z2:∀{b:Addr} {m:Str->Option Value},s₁.heap.Ns b m->(Af s₁.heap H).Ns b m:=fun {b m} ⟨o,es,ep,e,d,r⟩=>⟨o,es,ep,Iw e (Xz e d),d,r⟩
  have hKb:K.In (Af s₁.heap H):=fun b o e=>Iw (KX b o e) (by
   cases q:H b with
   | none=>rfl
   | some u=>
     have e':b=a:=hA b (by rw [q];simp);subst e';rw [hK (by rw [q];simp)] at e;cases e)
  have hM:Mod K mg (Af s₁.heap H):=⟨hKb,Z2 hns,⟨mb,Z2 hb,hbb⟩,let ⟨mc,h1,h2⟩:=hlim;⟨mc,Z2 h1,h2⟩⟩;have e0:yw P w K mg (Af s₁.heap H) callerA [] s₁ H:=⟨rfl,hM,fun b o e=>Qy e,Nat.le_of_eq (JM _ _),trivial,fun b hb=>absurd (show b∈([]:List Addr) from hb) (by simp),hok,.of_eq hg⟩;refine codeAny_mono ((F _ hKb (Z2 hns)).run callerA [] s₁ H ⟨[.ref a],[]⟩ [.ref a] [.ref a] _ _ hr e0 (hbind s₁ (.ref a)) (.cons rfl .nil) (hsp H hO hS)) fun r s' h=> ?_;cases r with
  | error e=>exact (hCX H e s' h).elim
  | ok fl=>
    cases fl with
    | next=>exact False.elim h
    | brk=>exact False.elim h
    | cont=>exact False.elim h
    | ret u=>
      obtain ⟨v,H',os,bare,un,hok',r',q⟩:=h;have q':v = .bl true:=q;subst q';obtain rfl:u=Value.bool true:=r';refine ⟨rfl,OldK.of_keep fun b o e=> ?_,os,bare⟩;cases q:H b with
      | none=>exact un.keep b o e q (by intro z;exact absurd (show b∈([]:List Addr) from z) (by simp)) (by simp)
      | some u=>
        rcases hO b with z|⟨ob,xs,z⟩
        ·rw [q] at z;cases z
        ·have z2:=un.uE b ob _ z
         obtain ⟨e1,_⟩:=hok b _ z;obtain ⟨e2,_⟩:=hok' b _ z2;rw [e] at e1;cases e1;exact e2
 cases hk:K.lookup a with
 | some o=>
   have e:=KX a o hk;rw [ha] at e;cases e;refine core (fun _=>none) (fun _=> .inl rfl) (.inr ⟨_,vs.toArray,_,hk,rfl,rfl,rfl,by rw [List.size_toArray,lenV];exact hl,by simpa using rv⟩) (fun b u z=>by have z':(none:Option HO)=some u:=z;cases z') (fun b z=>absurd rfl z) fun z=>absurd rfl z
 | none=>
   refine core (fun b=>if b=a then some (.Ai {cls:= .type "list",data:= .seq vs.toArray} (.lst (ns.map V.int))) else none) (fun b=> ?_) (.inl (.inr ⟨{cls:= .type "list",data:= .seq vs.toArray},if_pos rfl⟩)) (fun b u z=> ?_) (fun b z=> ?_) fun _=>hk
   ·by_cases hb:b=a
    ·exact .inr ⟨_,_,if_pos hb⟩
    ·exact .inl (if_neg hb)
   ·by_cases hb:b=a
    ·have z':=(if_pos hb).symm.trans z
     cases z';subst hb;exact ⟨ha,by rw [List.length_map];exact hl,vs,_,rv,ha⟩
    ·have z':=(if_neg hb).symm.trans z
     cases z'
   ·by_cases hb:b=a
    ·exact hb
    ·exact absurd (if_neg hb) z
end L2
namespace L2
open PySem PySem.Spec PyProof.Rows
abbrev KOf {K:PySem.W.Frag} {h:Heap} (_:K.In h):PySem.W.Frag:=K
theorem Pj {l:PySem.W.OpenLaw} {n k:Nat} {q:Program} {loose:List Str} {XP:(Str->Option Value)->Heap->Prop} {YP:World->Heap->Prop} {d:DefRec} {K:Params->PySem.W.Frag} {CX:World->Kq} {sp:World->Sp} {x:Str}
 (hn:l.most=some n) (hn2:n<=sizeLine) (hdf:d.params.defaults=[]) (hr:eV k callerA)
 (hY:∀(w:World) (h:Heap),YP w h->(K w.params).In h)
 (F:∀(w:World) (mg:Str->Option Value) (fa:Addr) (h:Heap),(K w.params).In h->h.Ns mainGlobals mg->mg d.name=some (.ref fa) ->
   ∃fd:FuncData,(∀(s:Shared) (u:Value),BindsTo s fd ⟨[u],[]⟩ [(x,u)]) /\
    ∀base:Heap,(K w.params).In base->base.Ns mainGlobals mg->cj l.prog w (K w.params) mg base (CX w) k fa fd [x] (sp w))
 (hsp:∀(w:World) (H:Hp) (a:Addr) (ns:List Int),ns.length<=n->Only H->bH (K w.params) H a (ns.map V.int)->sp w [.ref a] H (fun v _=>v = .bl true) fun _ _ _=>False)
 (hCX:∀(w:World) (H:Hp) (s:Shared) (e:Value) (s':Shared),CX w [] H s (fun _ _ _=>False) e s'->False):
 PySem.W.WalkO q loose XP YP l.row.toRowW d [] (fun f vs=>PySem.call f vs):=by
 refine Att.DK hn hdf fun w s₀ s₁ mg mb fa o pm cd doc a vs ns G Y ho hd hcd hmg hobj hints hlen hg=> ?_;have KX:=hY w _ Y;obtain ⟨fd,hb,hF⟩:=F w mg fa _ KX G.T.g hmg;exact Nj KX G.T.g G.T.b G.T.builtins G.T.nolimit hg hobj hints (Nat.le_trans hlen hn2) hr hF hb (fun H hO hS=>hsp w H a ns hlen hO hS) fun H e s'=>hCX w H s₁ e s'
end L2
namespace L2
open PySem PySem.Spec PyProof.Rows
def inClass (s:Stmt) (j:Nat):Stmt:=match s with
 | .ClassDef _ _ _ body _ _ _ _ _ _ _=>body.getD j (.Pass ⟨0,0,0,0⟩)
 | _=> .Pass ⟨0,0,0,0⟩
def aJ (s:Stmt):Arguments:=match s with
 | .FunctionDef _ a _ _ _ _ _ _ _ _=>a
 | _=>{posonlyargs:=[],args:=[],vararg:=none,kwonlyargs:=[],kw_defaults:=[],kwarg:=none,defaults:=[]}
def aH (s:Stmt):List Stmt:=match s with
 | .FunctionDef _ _ b _ _ _ _ _ _ _=>b
 | _=>[]
def ao (s:Stmt):Scope:=match s with
 | .FunctionDef _ _ _ _ _ _ sc _ _ _=>sc
 | _=>{kind:= .function,names:=[],isGenerator:=false,isCoroutine:=false}
abbrev jA:Kq:=fun _ _ _ _ _ _=>False
abbrev E0:XK:=fun _ _ _=>False
theorem Ck {X:Cx}:Passes jA X E0:=fun _ _ _ _ _ _ _ h=>h.elim
structure jX (K:PySem.W.Frag) (x qual:Str) (st:Stmt) (f:Addr) (fd:FuncData):Prop where
 ex:∃(oc:Value) (od:Option Addr) (kV doc pm:Value) (an:Option Addr) (cdv ct:Value) (osl:Array (Option Value)),
  fd=PySem.W.fnOf x qual (aJ st) (aH st) (ao st) .none kV doc pm an cdv ct/\K.lookup f=some ⟨oc,od,.func fd,osl⟩/\PySem.W.codeIn K cdv qual=true
 kp:PySem.W.keepIn K (.ref f)=true
section
variable {P:Program} {w:World} {K:PySem.W.Frag} {mg:Str->Option Value} {base:Heap}
theorem jX.ok {x qual:Str} {st:Stmt} {f:Addr} {fd:FuncData} {N ps:List Str} {k:Nat} {sp:Sp} (F:jX K x qual st f fd) (S:bf N ps (ao st)) (len:∀vs H Q E,sp vs H Q E->vs.length=ps.length)
 (hbody:∀(cdv:Value) (A:Around) (outer:List Env) (s:Shared) (H:Hp) (vs:List V) (Q:VK) (E:XK),eV k (A.deeper (envOfC qual (ao st) s.heap.objs.size f cdv))->sp vs H Q E ->
   ∃t,Eb (m5 jA P w K mg base N qual (ao st) f cdv A outer s H E).V5 (aH st) t/\t {nx:=fun _ H'=>Q .non H',rt:=Q} (start N vs) H):cj P w K mg base jA (k+1) f fd ps sp:=by
 obtain ⟨oc,od,kV,doc,pm,an,cdv,ct,osl,rfl,lk,hcd⟩:=F.ex;refine Ii lk hcd S len fun A outer s H vs Q E hr hsp=> ?_;obtain ⟨t,h,q⟩:=hbody cdv A outer s H vs Q E hr hsp;exact ⟨t,h.V5,q⟩
theorem jX.binds {x qual:Str} {st:Stmt} {f:Addr} {fd:FuncData} {ps:List Str} (F:jX K x qual st f fd)
 (h:∀(kV doc pm:Value) (an:Option Addr) (cdv ct:Value) (us:List Value),us.length=ps.length->bindArgs (PySem.W.fnOf x qual (aJ st) (aH st) (ao st) .none kV doc pm an cdv ct) ⟨us,[]⟩=pure (ps.zip us)):Binds K fd ps []:=by
 obtain ⟨oc,od,kV,doc,pm,an,cdv,ct,osl,rfl,lk,hcd⟩:=F.ex;exact .all (h kV doc pm an cdv ct)
theorem bT {x qual:Str} {st:Stmt} {f:Addr} {oc:Value} {od an:Option Addr} {osl:Array (Option Value)} {kV doc pm cdv ct:Value} (l:K.lookup f=some ⟨oc,od,.func (PySem.W.fnOf x qual (aJ st) (aH st) (ao st) .none kV doc pm an cdv ct),osl⟩)
 (c:PySem.W.codeIn K cdv qual=true) (k:PySem.W.keepIn K (.ref f)=true):jX K x qual st f (PySem.W.fnOf x qual (aJ st) (aH st) (ao st) .none kV doc pm an cdv ct):=⟨⟨oc,od,kV,doc,pm,an,cdv,ct,osl,rfl,l,c⟩,k⟩
end
section
variable {X:Cx}
theorem pv (i:Nat) {x:Str} {pos:Pos} (hN:X.N[i]? = some x:=by rfl) (hv:Vis X.env.scope x:=by first |exact Or.inl rfl|exact Or.inr (Or.inl rfl)|exact Or.inr (Or.inr rfl)) (hd:(x==("__debug__" :Str))=false:=by decide)
 (hcd:(x==("__classdict__" :Str))=false:=by decide):PE X (.Name x pos) (Bp i):=Uh hN hv hd hcd
end
theorem iy {A B:Prop} (h:B):if false=true then A else B:=by
 rw [if_neg Bool.false_ne_true];exact h
theorem iK {A B:Prop} (h:A):if true=true then A else B:=by
 rw [if_pos rfl];exact h
theorem bQ {c A B:Prop} [Decidable c] (h1:c->A) (h2:¬c->B):if c then A else B:=by
 by_cases h:c
 ·rw [if_pos h]
  exact h1 h
 ·rw [if_neg h]
  exact h2 h
theorem qM {c A B:Prop} [Decidable c] (hc:c) (h:B):if (!decide c)=true then A else B:=by
 rw [decide_eq_true hc];exact iy h
def Same (H H':Hp):Prop:=∀b o,H b=some o->H' b=some o
theorem Same.refl (H:Hp):Same H H:=fun _ _ h=>h
theorem Same.trans {H H1 H2:Hp} (a:Same H H1) (b:Same H1 H2):Same H H2:=fun c o h=>b c o (a c o h)
theorem Same.free {H H':Hp} (e:Same H H') {l:Addr} (h:H' l=Option.none):H l=Option.none:=by
 cases q:H l with
 | none=>rfl
 | some o=>
   rw [e l o q] at h;cases h
theorem Same.seq {K:PySem.W.Frag} {H H':Hp} {a:Addr} {xs:List V} (e:Same H H') (h:bH K H a xs):bH K H' a xs:=by
 rcases h with (h|⟨o,h⟩)|h
 ·exact .inl (.inl (e _ _ h))
 ·exact .inl (.inr ⟨o,e _ _ h⟩)
 ·exact .inr h
section
variable {κ:Type} [DecidableEq κ]
end
end L2
set_option Elab.async false
set_option linter.all false
set_option maxRecDepth 100000
set_option maxHeartbeats 4000000
namespace L2
open PySem PySem.Spec PyProof.Rows
theorem j5 {a n:Addr} (h:a<n): @LT.lt Nat _ a n:=h
def jT (env:Env):List (Str×NameKind)->List (Str×Addr)->List (Str×Addr)
 | [],acc=>acc
 | (n,k)::r,acc=>if k == .free then jT env r ((n,(env.cells.lookup n).getD 0)::acc) else jT env r acc
theorem wN {env:Env} {scope:Scope} (h:∀y∈scope.names,y.2 = .free->(env.cells.lookup y.1).isSome=true):closureFor scope env=pure (jT env scope.names []):=by
 have go:∀(ns:List (Str×NameKind)) (acc:List (Str×Addr)),(∀y∈ns,y.2 = .free->(env.cells.lookup y.1).isSome=true) ->
  (forIn ns acc (fun x cs=>match x with |(name,kind)=>if (kind == .free)=true then do let c ←cellOf env name;pure (ForInStep.yield ((name,c)::cs)) else pure (ForInStep.yield cs)):Sem (List (Str×Addr)))=pure (jT env ns acc):=by
  intro ns
  induction ns with
  | nil=>intro acc _;rfl
  | cons y r ih=>
    intro acc hy;obtain ⟨n,k⟩:=y;rw [List.forIn_cons]
    by_cases hk:k = .free
    ·subst hk
     have hs:=hy (n,.free) List.mem_cons_self rfl;obtain ⟨c,hc⟩:=Option.isSome_iff_exists.mp hs;have e:cellOf env n=pure c:=by unfold cellOf;rw [hc]
     show _=pure (jT env r ((n,(env.cells.lookup n).getD 0)::acc));rw [←ih _ fun y hm=>hy y (List.mem_cons_of_mem _ hm)];simp only [beq_self_eq_true,if_true,e,pure_bind,hc,Option.getD_some]
    ·have hb:(k==NameKind.free)=false:=by simpa using hk
     have hc:jT env ((n,k)::r) acc=jT env r acc:=by
      show (if (k==NameKind.free)=true then _ else _)=_;rw [if_neg (by rw [hb];decide)]
     rw [hc,←ih _ fun y hm=>hy y (List.mem_cons_of_mem _ hm)];simp only [hb,Bool.false_eq_true,if_false,pure_bind]
 have q:=go scope.names [] h;unfold closureFor;show (forIn scope.names [] _ >>= fun r=>pure r)=_;rw [bind_pure];exact q
theorem fu {env:Env}:∀(ns:List (Str×NameKind)) (acc:List (Str×Addr)) (x:Str),(∀y∈ns,y.2 = .free->(env.cells.lookup y.1).isSome=true) ->
 (jT env ns acc).lookup x=if (x,NameKind.free)∈ns then env.cells.lookup x else acc.lookup x
 | [],acc,x,_=>by simp [jT]
 | (n,k)::r,acc,x,h=>by
   have hr:∀y∈r,y.2 = .free->(env.cells.lookup y.1).isSome=true:=fun y hm=>h y (List.mem_cons_of_mem _ hm)
   by_cases hk:k = .free
   ·subst hk
    show (jT env r ((n,(env.cells.lookup n).getD 0)::acc)).lookup x=_;rw [fu r _ x hr];obtain ⟨c,hc⟩:=Option.isSome_iff_exists.mp (h (n,.free) List.mem_cons_self rfl);have hc:env.cells.lookup n=some c:=hc
    by_cases hm:(x,NameKind.free)∈r
    ·rw [if_pos hm,if_pos (List.mem_cons_of_mem _ hm)]
    ·rw [if_neg hm]
     by_cases e:x=n
     ·subst e
      rw [if_pos List.mem_cons_self,List.lookup_cons,hc];simp
     ·rw [if_neg (fun z=>(List.mem_cons.mp z).elim (fun q=>e (congrArg Prod.fst q)) hm),List.lookup_cons]
      have:(x==n)=false:=by simpa using e
      rw [this]
   ·have hb:(k==NameKind.free)=false:=by simpa using hk
    have hc:jT env ((n,k)::r) acc=jT env r acc:=by
     show (if (k==NameKind.free)=true then _ else _)=_;rw [if_neg (by rw [hb];decide)]
    rw [hc,fu r acc x hr]
    have:((x,NameKind.free)∈(n,k)::r)↔(x,NameKind.free)∈r:=by
     constructor
     ·intro z
      rcases List.mem_cons.mp z with q|q
      ·exact absurd (congrArg Prod.snd q).symm hk
      ·exact q
     ·exact List.mem_cons_of_mem _
    simp only [this]
theorem gj (env:Env):∀(ns:List (Str×NameKind)) (x:Str),
 (ns.map fun (n,k)=>if (k == .free&&env.scope.kind == .function&&env.kindOf n==some .cell) then (n,NameKind.cell) else (n,k)).lookup x =
   (ns.lookup x).map fun k=>if (k == .free&&env.scope.kind == .function&&env.kindOf x==some .cell)=true then NameKind.cell else k
 | [],x=>rfl
 | (n,k)::r,x=>by
   show List.lookup x ((if (k==NameKind.free&&env.scope.kind == .function&&env.kindOf n==some .cell)=true then (n,NameKind.cell) else (n,k))::_)=_;cases hx:x==n with
   | true=>
     have e:x=n:=by simpa using hx
     subst e
     by_cases hc:(k==NameKind.free&&env.scope.kind == .function&&env.kindOf x==some .cell)=true
     ·rw [if_pos hc];simp only [List.lookup_cons,hx,Option.map_some,if_pos hc]
     ·rw [if_neg hc];simp only [List.lookup_cons,hx,Option.map_some,if_neg hc]
   | false=>
     have ih:=gj env r x
     by_cases hc:(k==NameKind.free&&env.scope.kind == .function&&env.kindOf n==some .cell)=true
     ·rw [if_pos hc];simp only [List.lookup_cons,hx];exact ih
     ·rw [if_neg hc];simp only [List.lookup_cons,hx];exact ih
structure bw (N own:List Str) (caps:List Nat) (XN:List Str) (outer scope:Scope):Prop where
 kind:scope.kind = .function
 MN:∀y∈scope.names,y.2 ≠ .cell
 names:∀y∈scope.names,y.2 = .local->scope.names.lookup y.1=some .local
 free:∀y∈scope.names,y.2 = .free->outer.names.lookup y.1=some .cell\/outer.names.lookup y.1=some .free
 nd:N.Nodup
 len:N.length=own.length+caps.length
 cap:∀(j:Nat),j<caps.length->N[own.length+j]? = XN[caps.getD j 0]? /\ ∃x,N[own.length+j]? = some x/\(x,NameKind.free)∈scope.names/\scope.names.lookup x=some .free
def st0 (own:List Str) (caps:List Nat) (σ:St):St:=own.map (fun _=>none)++caps.map (fun i=>(σ[i]?).join)
def fU (X:Cx) (scope:Scope) (C:Addr) (N:List Str) (s:Shared) (H:Hp) (fp:List Addr):Cx:=
 {X with N:=N,s₀:=s,H₀:=H,env:=compEnvC scope (jT X.env scope.names []) C X.env,outer:=X.stack,ex:=fp,fn:=fun _=>false,pn:=[],xe:=fun _ _=>False}
section
variable {X:Cx} {pins:List (Addr×Obj)} {σ:St} {H:Hp} {s:Shared} {scope:Scope} {N own:List Str} {caps:List Nat} {fp:List Addr} {C:Nat}
theorem bw.wM (S:bw N own caps X.N X.env.scope scope) (ok:X.Ok):∀y∈scope.names,y.2 = .free->(X.env.cells.lookup y.1).isSome=true:=fun y hy hf=>by
 obtain ⟨c,e⟩:=ok.has y.1 (S.free y hy hf);rw [e];rfl
theorem bw.csub (S:bw N own caps X.N X.env.scope scope) (ok:X.Ok) {x:Str} {c:Addr} (h:(jT X.env scope.names []).lookup x=some c):X.env.cells.lookup x=some c:=by
 rw [fu _ _ _ (S.wM ok)] at h;split at h
 ·exact h
 ·simp at h
theorem bw.wj {S:bw N own caps X.N X.env.scope scope} {x:Str} (h:(relabel scope X.env).names.lookup x=some .cell\/(relabel scope X.env).names.lookup x=some .free):(x,NameKind.free)∈scope.names:=by
 have e:=gj X.env scope.names x;have e':(relabel scope X.env).names.lookup x=(scope.names.lookup x).map fun k=>if (k == .free&&X.env.scope.kind == .function&&X.env.kindOf x==some .cell)=true then NameKind.cell else k:=e;rw [e'] at h;cases q:scope.names.lookup x with
 | none=>rw [q] at h;simp at h
 | some k=>
   have hm:=PySem.mem_of_lookup q
   by_cases hk:k = .free
   ·subst hk;exact hm
   ·rw [q] at h
    have hb:(k==NameKind.free)=false:=by simpa using hk
    simp only [Option.map_some,hb,Bool.false_and,Bool.false_eq_true,if_false] at h;rcases h with h|h
    ·exact absurd (Option.some.inj h) (S.MN _ hm)
    ·exact absurd (Option.some.inj h) hk
theorem Inv.comp {h1:Heap} {D:Nat} (I:Inv X pins σ H s) (S:bw N own caps X.N X.env.scope scope) (hfp:∀b∈fp,kY X pins H b) (hfo:∀b∈fp,∃o,s.heap.get? b=some o)
 (hD:D=s.heap.objs.size) (hC:C=s.heap.objs.size+1) (old:∀b o,s.heap.get? b=some o->h1.get? b=some o) (hns:h1.Ns C (fun _=>none)) (hl:h1.get? D=some {cls:= .type "list",data:= .seq #[]}) {t:Nat}:
 Inv (fU X scope C N s H fp) [] (st0 own caps σ) (upd H D (.lst [])) {s with heap:=h1,toks:=t}:=by
 have some':=S.wM I.ok;have sub:∀{x c},(jT X.env scope.names []).lookup x=some c->X.env.cells.lookup x=some c:=fun h=>S.csub I.ok h;have freshD:H D=none:=I.hok.fresh (by rw [hD];exact Nat.le_refl _);have FW:H C=none:=I.hok.fresh (by rw [hC];exact Nat.le_succ _)
 have wO:∀x c,X.env.cells.lookup x=some c->c<s.heap.objs.size:=fun x c e=>by
  obtain ⟨v,z⟩:=I.cell x c e;exact z.lt
 have QS:∀b∈fp,b<s.heap.objs.size:=fun b hb=>by
  obtain ⟨o,e⟩:=hfo b hb;exact Heap.lt_size e
 have DC:D≠C:=by omega
 refine ⟨⟨I.ok.mod,S.kind,I.ok.glob,I.ok.blt,by show s.heap.objs.size<=C;omega,fun x y c e1 e2=>I.ok.inj x y c (sub e1) (sub e2),fun x h=> ?_,fun x c h=>(by cases h),I.ok.hd,I.ok.frames,Or.inl rfl,fun b hb=>⟨?_,fun x c e=> ?_⟩,I.bs,Nat.le_trans I.ok.J7 I.sz,fun b o e hb=> ?_,fun b hb z=> ?_,I.stack,I.uQ⟩,
  rfl,I.bare,Un.laid old (by show s.heap.objs.size<=D;omega) freshD,⟨_,hns,fun j x v e1 e2 e3=> ?_⟩,fun x c e=> ?_, ?_,fun x c e=> ?_,fun p hp=> ?_,I.hok.laid old (by omega) ?_, ?_⟩
 ·have hm:=bw.wj (S:=S) (X:=X) h
  obtain ⟨c,e⟩:=Option.isSome_iff_exists.mp (some' _ hm rfl);exact ⟨c,by show (jT X.env scope.names []).lookup x=_;rw [fu _ _ _ some',if_pos hm];exact e⟩
 ·exact Nat.ne_of_lt (show @LT.lt Nat _ b C by have:=j5 (QS b hb);omega)
 ·exact (hfp b hb).2.2.2.2.1 x c (sub e)
 ·rcases (hfp b hb).2.2.2.1 with z|z
  ·exact I.ok.JB b o e z
  ·exact absurd (Nat.lt_of_lt_of_le (Heap.lt_size e) (Nat.le_trans I.ok.J7 z)) (Nat.lt_irrefl _)
 ·rcases List.mem_cons.mp (I.pL b z) with q|q
  ·exact (hfp b hb).2.1 q
  ·exact (hfp b hb).2.2.1 q
 ·have e1:N[j]? = some x:=e1
  have hj:own.length<=j:=by
   by_cases q:own.length<=j
   ·exact q
   ·exfalso
    unfold st0 at e2;rw [List.getElem?_append_left (by simp;omega),List.getElem?_map] at e2;cases r:own[j]? with
    | none=>rw [r] at e2;cases e2
    | some a=>rw [r] at e2;cases e2
  have hjl:j<N.length:=(List.getElem?_eq_some_iff.mp e1).1;have hjc:j - own.length<caps.length:=by have:=S.len;omega
  obtain ⟨c1,x',c2,c3,c4⟩:=S.cap (j - own.length) hjc;rw [show own.length+(j - own.length)=j by omega] at c1 c2;rw [e1] at c2;cases c2
  have e2':(σ[caps.getD (j - own.length) 0]?).join=some v:=by
   unfold st0 at e2;rw [List.getElem?_append_right (by simp;omega),List.getElem?_map,List.length_map] at e2;rw [List.getD_eq_getElem?_getD];cases r:caps[j - own.length]? with
   | none=>rw [r] at e2;cases e2
   | some a=>rw [r] at e2;exact Option.some.inj e2
  have Vn:σ[caps.getD (j - own.length) 0]? = some (some v):=by
   cases r:σ[caps.getD (j - own.length) 0]? with
   | none=>rw [r] at e2';cases e2'
   | some a=>rw [r] at e2';exact congrArg Option.some e2'
  have kx:X.env.kindOf x=some .cell\/X.env.kindOf x=some .free:=S.free _ c3 rfl;obtain ⟨m,hn,hl'⟩:=I.loc;obtain ⟨u,r,l⟩:=hl' _ x v (by rw [←c1];exact e1) Vn (by rcases kx with z|z;exact .inr (.inl z);exact .inr (.inr z));refine ⟨u,r,.inr ⟨?_, ?_⟩⟩
  ·show (relabel scope X.env).names.lookup x=some .cell\/(relabel scope X.env).names.lookup x=some .free
   have e:(relabel scope X.env).names.lookup x=(scope.names.lookup x).map fun k=>if (k == .free&&X.env.scope.kind == .function&&X.env.kindOf x==some .cell)=true then NameKind.cell else k:=gj X.env scope.names x;rw [e,c4,Option.map_some];split
   ·exact .inl rfl
   ·exact .inr rfl
  ·rcases l with ⟨hk,_⟩|⟨_,c,hc,z⟩
   ·rcases kx with q|q<;>rw [hk] at q<;>cases q
   ·refine ⟨c, ?_, ?_⟩
    ·show (jT X.env scope.names []).lookup x=_
     rw [fu _ _ _ some',if_pos c3];exact hc
    ·obtain ⟨o,ho,hd⟩:=z
     exact ⟨o,old c o ho,hd⟩
 ·obtain ⟨v,o,ho,hd⟩:=I.cell x c (sub e)
  exact ⟨v,o,old c o ho,hd⟩
 ·show upd H D (.lst []) C=none
  rw [aF DC.symm];exact FW
 ·show upd H D (.lst []) c=none
  rw [aF (Nat.ne_of_lt (by have:=j5 (wO x c (sub e));omega))];exact I.nG x c (sub e)
 ·cases hp
 ·exact ⟨Nat.zero_le _,[],0,.nil,hl⟩
 ·show (own.map (fun _=>none)++caps.map _).length=N.length
  rw [List.length_append,List.length_map,List.length_map,S.len]
theorem Inv.KZ {yI:List (Addr×Obj)} {σ':St} {H':Hp} {s':Shared} {h':Heap} (I:Inv X pins σ H s) (hfp:∀b∈fp,kY X pins H b) (hC:s.heap.objs.size<=C) (J:Inv (fU X scope C N s H fp) yI σ' H' s') (hs:Heap.SameBut C s'.heap h'):
 Inv X pins σ H' {s' with heap:=h'}:=by
 have nC:∀b o,s.heap.get? b=some o->b≠C:=fun b o e=>Nat.ne_of_lt (by have:=j5 (Heap.lt_size e);omega);have u:=J.base;have frC:H' C=none:=J.free;refine I.call' (ch:=fp) (s':={s' with heap:=h'}) J.os ⟨fun b o e n hb hx=> ?_,fun b o e n hb hx=> ?_,u.free,fun b o e hx=> ?_,u.tups,u.uE,u.vK⟩ (fun a o e=>(J.hok a o e).stay (fun b v hb q=> ?_) (fun _ q=>q) fun _ _ q=>q) J.bare fun b hb=> ?_
 ·exact (hs.2 b (nC b o e)).trans (u.keep b o e n hb hx)
 ·obtain ⟨sl,q⟩:=u.slot b o e n hb hx
  exact ⟨sl,(hs.2 b (nC b o e)).trans q⟩
 ·obtain ⟨o',q⟩:=u.there b o e hx
  exact ⟨o',(hs.2 b (nC b o e)).trans q⟩
 ·refine (hs.2 b ?_).trans q
  intro z;subst z;rcases hb with z|z
  ·subst z;rw [frC] at e;cases e
  ·rw [frC] at z;cases z
 ·exact ⟨(hfp b hb).2.2.2.1,(hfp b hb).2.1,(hfp b hb).2.2.2.2.1,(hfp b hb).2.2.2.2.2⟩
end
section
variable {prog:Program} {w:World} {A:Around} {R:Result->Shared->Prop} {s:Shared}
theorem qT {elt target iter:Expr} {ifs:List Expr} {scope:Scope} {pos:Pos} {it acc:Value} {env:Env} (I:Nat->Shared->Prop)
 (turn:∀n s,I n s->wpAny (model prog w) A (pyNext it) (fun r s1=>match r with
   | none=>R (.ok .next) s1
   | some v=>wpAny (model prog w) A (letOwnedTupleGo target it v) (fun _ s1'=>wpAny (model prog w) A (assign target env v) (fun _ s2=>
      wpAny (model prog w) A (forIn ifs true fun c r=>if r=true then do let ok ←isTrue c env (eval c env);pure (ForInStep.yield ok) else pure (ForInStep.yield r)) (fun ok s3=>
       if ok=true then wpAny (model prog w) A (eval elt env) (fun x s4=>
        wpAny (model prog w) A (call (.builtin "list.append") [acc,x]) (fun _ s5=>∃m,m<n/\I m s5) (fun _ _=>False) s4) (fun _ _=>False) s3
       else ∃m,m<n/\I m s3) (fun _ _=>False) s2) (fun _ _=>False) s1') (fun _ _=>False) s1) (fun _ _=>False) s)
 (n:Nat) (h:I n s):
 codeAny (model prog w) A (.compLoop (.ListComp elt [⟨target,iter,ifs,0⟩] scope pos) 0 it acc env) R s:=by
 refine codeAny_loop rfl I (fun n s hI=> ?_) n h;show wpAny _ A ((compTurn (.ListComp elt [⟨target,iter,ifs,0⟩] scope pos) 0 it acc env).onRaise (fun x=>do noteFrame x env;theTreesLotGoes x)) _ _ s;refine wpAny_noted ?_;rw [compTurn_list];refine wpAny_bind (wpAny_standAt (wpAny_bind (wpAny_mono (turn n s hI) (fun r s1 h1=> ?_) fun _ _ h'=>h'.elim)));cases r with
 | none=>exact wpAny_pure h1
 | some v=>
   refine wpAny_bind (wpAny_mono h1 (fun _ s1' h1'=> ?_) fun _ _ h'=>h'.elim);refine wpAny_bind (wpAny_mono h1' (fun _ s2 h2=>wpAny_bind (wpAny_mono h2 (fun ok s3 h3=> ?_) fun _ _ h'=>h'.elim)) fun _ _ h'=>h'.elim);cases ok with
   | false=>exact wpAny_pure ⟨rfl,h3⟩
   | true=>
     exact wpAny_bind (wpAny_bind (wpAny_mono h3 (fun x s4 h4=>wpAny_bind (wpAny_mono h4 (fun _ s5 h5=>wpAny_pure (wpAny_pure ⟨rfl,h5⟩)) fun _ _ h'=>h'.elim)) fun _ _ h'=>h'.elim))
end
def VF (X:Cx) (ifs:List Expr) (t:TT):Prop:=
 ∀(pins:List (Addr×Obj)) (s:Shared) (σ:St) (H:Hp) (Q:Bool->Hp->Prop),Inv X pins σ H s->t σ H Q ->
  wpAny (model X.prog X.w) X.A (forIn ifs true fun c r=>if r=true then do let ok ←isTrue c X.env (eval c X.env);pure (ForInStep.yield ok) else pure (ForInStep.yield r)) (TP X pins σ Q) X.xe s
def En:TT:=fun _ H Q=>Q true H
theorem dZ {X:Cx}:VF X [] En:=fun _ _ _ H _ I h=>wpAny_tests_nil ⟨H,I,h⟩
theorem zT {X:Cx} {c:Expr} {t:TT} (h:PT X c t):VF X [c] t:=fun pins s σ H Q I q=>wpAny_tests_one (h pins s σ H Q I q)
def oM (J:It) (g:TG) (tc:TT) (te:TE) (Q:VK) (D:Addr) (σ0:St) (H1:Hp):Prop:=
 ∃W:Nat->Nat->St->Hp->Prop,(∃m,W 0 m σ0 (upd H1 D (.lst []))) /\ ∀i m σ H,W i m σ H ->
  (J.stop i H/\Q (.ref D) H)\/(J.go i H /\ ∃N:St->Hp->Prop,(∀σ' H',N σ' H' -> ∃m',m'<m/\W (i+1) m' σ' H') /\ ∀x H',J.V2 i H x H'->g x σ H' fun σ2 H2=>tc σ2 H2 fun b H3=>
    if b=true then te σ2 H3 fun y H4=>∃acc,H4 D=some (.lst acc)/\acc.length<sizeLine/\N σ2 (upd H4 D (.lst (acc++[y]))) else N σ2 H3)
def Bq (own:List Str) (caps:List Nat) (wi:TI) (g:TG) (tc:TT) (te:TE):TE:=fun σ H Q=>wi σ H fun J H1=>∀D,H1 D=none->oM J g tc te Q D (st0 own caps σ) H1
section
variable {X:Cx} {elt tg iter:Expr} {ifs:List Expr} {scope:Scope} {pos:Pos} {N own:List Str} {caps:List Nat} {wi:TI} {g:TG} {tc:TT} {te:TE}
theorem Dl {use:Option (Value->Sem Unit)} {Qv:Value->Shared->Prop} {pins:List (Addr×Obj)} {σ:St} {H:Hp} {s:Shared} {Q:VK} (hc:X.calm=true) (S:bw N own caps X.N X.env.scope scope)
 (hg:∀C s H fp,PG (fU X scope C N s H fp) tg g) (hcs:∀C s H fp,VF (fU X scope C N s H fp) ifs tc) (he:∀C s H fp,PE (fU X scope C N s H fp) elt te)
 (hi:PI X tg iter wi) (hs:∀x,foldedSetIterable iter X.env x=pure x)
 (I:Inv X pins σ H s) (h:Bq own caps wi g tc te σ H Q)
 (fin:∀(D C:Addr) (H':Hp) (s':Shared),(∃m,s'.heap.Ns C m)->Inv X pins σ H' s'->(∀h',Heap.SameBut C s'.heap h'->Inv X pins σ H' {s' with heap:=h'})->kY X pins H' C->Q (.ref D) H' ->
   compPost (model X.prog X.w) X.A X.xe use Qv (.ref D) C (.ok .next) s'):
 wpAny (model X.prog X.w) X.A (comprehension (.ListComp elt [⟨tg,iter,ifs,0⟩] scope pos) scope X.env (firstIterPos [⟨tg,iter,ifs,0⟩] pos) (newList []) false (eval iter X.env) use) Qv X.xe s:=by
 refine wpAny_comprehension_free (use:=use) rfl hs (wN (S.wM I.ok)) S.kind S.names (dH (hi pins s σ H _ I h) fun xv s1 h1=>dH h1 fun itv s2 h2=> ?_);obtain ⟨it,fp,tn,J,H2,e,I2,T,st2,f2,q2⟩:=h2;subst e;refine wpAny_newList ?_;refine wpAny_newFunctionEnv S.MN (by intro y hy;simp at hy) (fun h1 QL hsb1=> ?_) S.kind;dsimp only at QL hsb1 ⊢;have hD:H2 s2.heap.objs.size=none:=I2.hok.fresh (Nat.le_refl _);have hsz:(s2.heap.push {cls:= .type "list",data:= .seq ([]:List Value).toArray}).objs.size=s2.heap.objs.size+1:=Heap.size_push ..
 have old:∀b o,s2.heap.get? b=some o->h1.get? b=some o:=fun b o e=>by
  refine hsb1.extBut b o (Nat.ne_of_lt (by have:=j5 (Heap.lt_size e);rw [hsz];omega)) (Heap.get?_push_of_some _ (Heap.get?_push_of_some _ e))
 have hl:h1.get? s2.heap.objs.size=some {cls:= .type "list",data:= .seq #[]}:=
  hsb1.extBut _ _ (Nat.ne_of_lt (by rw [hsz];omega)) (Heap.get?_push_of_some _ (Heap.get?_push_size _ rfl))
 have hfo:∀b∈fp,∃o,s2.heap.get? b=some o:=fun b hb=>let ⟨o,e,_⟩:=T.obj _ _ st2 b hb;⟨o,e⟩
 have I4:=Inv.comp (C:=(s2.heap.push {cls:= .type "list",data:= .seq ([]:List Value).toArray}).objs.size) (t:=s2.toks+([]:List (Str×Value)).length) I2 S f2 hfo rfl hsz old QL hl;obtain ⟨W,⟨m0,w0⟩,turn⟩:=q2 _ hD;generalize hCe:(s2.heap.push {cls:= .type "list",data:= .seq ([]:List Value).toArray}).objs.size=C at *;generalize hDe:s2.heap.objs.size=D at *;have hDC:D≠C:=by omega
 have loop:∀s3:Shared,s3={s2 with heap:=h1,toks:=s2.toks+([]:List (Str×Value)).length} ->
  codeAny (model X.prog X.w) X.A (.compLoop (.ListComp elt [⟨tg,iter,ifs,0⟩] scope pos) 0 (.ref it) (.ref D) (fU X scope C N s2 H2 fp).env) (compPost (model X.prog X.w) X.A X.xe use Qv (.ref D) C) s3:=by
  rintro s3 rfl
  have Ai:∀b∈fp,(upd H2 D (.lst [])) b=none:=fun b hb=>by
   obtain ⟨o,e⟩:=hfo b hb;rw [aF (Nat.ne_of_lt (by have:=j5 (Heap.lt_size e);omega))];exact (f2 b hb).1
  have stat:∀{H':Hp},(∀b∈fp,H' b=none) -> ∀b∈fp,kY (fU X scope C N s2 H2 fp) [] H' b:=fun hn b hb=>by
   obtain ⟨o,e⟩:=hfo b hb;have hlt:=j5 (Heap.lt_size e);refine ⟨hn b hb, ?_,fun z=> ?_,.inl hb,fun x c e'=>(f2 b hb).2.2.2.2.1 x c (S.csub I2.ok e'),fun p hp=>(by cases hp)⟩
   ·exact Nat.ne_of_lt (show @LT.lt Nat _ b C by omega)
   ·rcases List.mem_cons.mp (I2.pL b z) with q|q
    ·exact (f2 b hb).2.1 q
    ·exact (f2 b hb).2.2.1 q
  refine qT (fun n s'=>∃i σ' H',Inv (fU X scope C N s2 H2 fp) [] σ' H' s'/\tn i s'.heap/\(∀b∈fp,H' b=none)/\W i n σ' H') ?_ m0
   ⟨0,_,_,I4,T.keep _ _ _ st2 fun b _ o e=>old b o e,Ai,w0⟩
  rintro n s3 ⟨i,σ3,H3,I3,st3,RX,w3⟩;rcases turn i n σ3 H3 w3 with ⟨stop,qn⟩|⟨go,Nx,hNx,step⟩
  ·refine dH (T.done (fU X scope C N s2 H2 fp) rfl rfl rfl hc i [] s3 σ3 H3 _ I3 (stat RX) st3 stop) fun r s4 ⟨hr,J4⟩=> ?_
   subst hr;obtain ⟨m4,hn4,_⟩:=J4.loc;exact fin D C H3 s4 ⟨m4,hn4⟩ (I2.KZ f2 (by omega) J4 (Heap.SameBut.refl _ _)) (fun h' hs'=>I2.KZ f2 (by omega) J4 hs') (I2.wD (show s2.heap.objs.size<=C by omega) J4.free) qn
  ·refine dH (T.item (fU X scope C N s2 H2 fp) rfl rfl rfl hc i [] s3 σ3 H3 _ I3 (stat RX) st3 go) fun r s4 ⟨u,hr,h4⟩=> ?_
   subst hr;refine dH h4 fun _ s5 ⟨x,H5,I5,r5,y5,xR,Yn⟩=> ?_;have ZC:=I5.pinned (stat Yn) (T.obj _ _ xR);refine dH (hg C s2 H2 fp _ s5 σ3 H5 x u _ ZC r5 (step x H5 y5)) fun _ s6 ⟨σ6,H6,I6,q6⟩=> ?_;refine dH (hcs C s2 H2 fp _ s6 σ6 H6 _ I6 q6) fun ok s7 ⟨H7,I7,q7⟩=> ?_
   have again:∀{σ8:St} {H8:Hp} {s8:Shared},Inv (fU X scope C N s2 H2 fp) ([]++rZ fp s5.heap) σ8 H8 s8->Nx σ8 H8 -> ∃m,m<n /\ ∃i σ' H',Inv (fU X scope C N s2 H2 fp) [] σ' H' s8/\tn i s8.heap/\(∀b∈fp,H' b=none)/\W i m σ' H':=fun {σ8 H8 s8} I8 n8=>by
    obtain ⟨m',hm,w8⟩:=hNx _ _ n8;refine ⟨m',hm,i+1,σ8,H8,I8.nR,T.keep _ _ _ xR fun b hb o e=>(I8.pin (b,o) (List.mem_append_right _ (List.mem_append_right _ (je hb e)))).1,fun b hb=> ?_,w8⟩;obtain ⟨o,e,d⟩:=T.obj _ _ xR b hb;exact (I8.pin (b,o) (List.mem_append_right _ (List.mem_append_right _ (je hb e)))).2.1
   cases ok with
   | false=>
     rw [if_neg (by decide)] at q7;exact again I7 q7
   | true=>
     rw [if_pos rfl] at q7;refine dH (he C s2 H2 fp _ s7 σ6 H7 _ I7 q7) fun y s8 ⟨yv,H8,I8,r8,acc,ha,hlen,q8⟩=> ?_;exact dH (sO _ s8 σ6 H8 (.ref D) [yv] (.ref D) [y] (fun v H9=>Nx σ6 H9) I8 rfl (.cons r8 .nil) ⟨D,acc,yv,rfl,rfl,ha,hlen,q8⟩) fun _ s9 ⟨_,H9,I9,_,q9⟩=>again I9 q9
 exact codeAny_compStart_list (loop _ rfl) (T.self _ 0 _ _ _ (T.keep _ _ _ st2 fun b _ o e=>old b o e) (loop _ rfl))
theorem gZ (hc:X.calm=true) (S:bw N own caps X.N X.env.scope scope) (hi:PI X tg iter wi)
 (hg:∀C s H fp,PG (fU X scope C N s H fp) tg g) (hcs:∀C s H fp,VF (fU X scope C N s H fp) ifs tc) (he:∀C s H fp,PE (fU X scope C N s H fp) elt te)
 (hs:∀x,foldedSetIterable iter X.env x=pure x:=by intro _;rfl):PE X (.ListComp elt [⟨tg,iter,ifs,0⟩] scope pos) (Bq own caps wi g tc te):=by
 intro pins s σ H Q I h;rw [eval_ListComp];refine Dl (use:=none) hc S hg hcs he hi hs I h ?_;intro D C H' s' hn I' hk _ q;obtain ⟨m,hn⟩:=hn;exact ⟨m,hn,fun h' hs'=>⟨.ref D,H',hk h' hs',rfl,q⟩⟩
theorem mR {i:Nat} {x:Str} {px sp:Pos} (hc:X.calm=true) (hN:X.N.Nodup) (hx:X.N[i]? = some x) (hl:Loc X.env.scope x) (S:bw N own caps X.N X.env.scope scope) (hi:PI X tg iter wi)
 (hg:∀C s H fp,PG (fU X scope C N s H fp) tg g) (hcs:∀C s H fp,VF (fU X scope C N s H fp) ifs tc) (he:∀C s H fp,PE (fU X scope C N s H fp) elt te)
 (hsw:swapsWith (.ListComp elt [⟨tg,iter,ifs,0⟩] scope pos) (some (.Name x px)) sp.line X.env=pure true:=by rfl)
 (hs:∀x,foldedSetIterable iter X.env x=pure x:=by intro _;rfl) (hf:X.fn x=true\/X.env.scope.names.lookup x=some .local:=by first |exact .inl rfl|exact .inr rfl|assumption):
 PS X (.Assign [.Name x px] (.ListComp elt [⟨tg,iter,ifs,0⟩] scope pos) sp) (Tz (Bq own caps wi g tc te) (iV i)):=by
 intro pins s σ H D I h;rw [exec_Assign_Name_used _ _ _ _ hsw];refine wpAny_bind (wpAny_standAt (wpAny_bind ?_));show wpAny _ X.A (do let _ ←comprehension (.ListComp elt [⟨tg,iter,ifs,0⟩] scope pos) scope X.env (firstIterPos [⟨tg,iter,ifs,0⟩] pos) (newList []) false (eval iter X.env) (some (assign (.Name x px) X.env))) _ _ s;refine wpAny_bind (wpAny_mono (Dl (use:=some (assign (.Name x px) X.env)) (Qv:=fun _ s'=>SP X pins D .next s') hc S hg hcs he hi hs I h ?_) (fun _ s' hq=>wpAny_pure (wpAny_pure hq)) fun _ _ e=>e);intro E C H' s' hn I' hk fC q;obtain ⟨m,hn⟩:=hn;obtain ⟨f0,f1,f2,f3,f4,f5⟩:=fC;show wpAny _ X.A (assign (.Name x px) X.env (.ref E)) _ _ _;refine wpAny_assign_Name (yH I' hN hx hl (v:= .ref E) rfl (fun s2 I2 k=> ?_) hf);refine ⟨m, ?_,fun h' hs'=> ?_⟩
 ·obtain ⟨o,es,ep,ho,r⟩:=hn
  obtain ⟨a,ks,ka⟩:=k
  have hCa:C≠a:=fun z=>by
   rcases ka with q'|q'
   ·exact f1 (z.trans q')
   ·exact f4 x a q' z.symm
  exact ⟨o,es,ep,(ks.2 C hCa).trans ho,r⟩
 ·exact ⟨_,H',I2.turned (t':=s2.toks) (fun b o hb e=>(hs'.2 b hb).trans e) f0 f1 f3 f4 f5,q⟩
end
def Oa (N own:List Str) (caps:List Nat) (XN:List Str) (outer scope:Scope):Bool:=
 decide (scope.kind = .function)&&scope.names.all (fun y=>decide (y.2 ≠ .cell))&&scope.names.all (fun y=>decide (y.2 ≠ .local)||decide (scope.names.lookup y.1=some .local)) &&
 scope.names.all (fun y=>decide (y.2 ≠ .free)||decide (outer.names.lookup y.1=some .cell)||decide (outer.names.lookup y.1=some .free))&&decide N.Nodup&&decide (N.length=own.length+caps.length) &&
 (List.range caps.length).all (fun j=>match N[own.length+j]? with |some x=>decide (XN[caps.getD j 0]? = some x)&&decide ((x,NameKind.free)∈scope.names)&&decide (scope.names.lookup x=some .free)|none=>false)
theorem bw.of {N own:List Str} {caps:List Nat} {XN:List Str} {outer scope:Scope} (h:Oa N own caps XN outer scope=true):bw N own caps XN outer scope:=by
 unfold Oa at h;simp only [Bool.and_eq_true,decide_eq_true_eq,List.all_eq_true,Bool.or_eq_true] at h;obtain ⟨⟨⟨⟨⟨⟨h1,h2⟩,h3⟩,h4⟩,h5⟩,h6⟩,h7⟩:=h;refine ⟨h1,h2,fun y hy e=> ?_,fun y hy e=> ?_,h5,h6,fun j hj=> ?_⟩
 ·rcases h3 y hy with z|z
  ·exact absurd e z
  ·exact z
 ·rcases h4 y hy with (z|z)|z
  ·exact absurd e z
  ·exact .inl z
  ·exact .inr z
 ·have q:=h7 j (List.mem_range.mpr hj)
  cases e:N[own.length+j]? with
  | none=>rw [e] at q;cases q
  | some x=>
    rw [e] at q;simp only [Bool.and_eq_true,decide_eq_true_eq] at q;exact ⟨q.1.1.symm,x,rfl,q.1.2,q.2⟩
end L2
set_option Elab.async false
set_option linter.all false
set_option maxRecDepth 100000
set_option maxHeartbeats 4000000
namespace L2
open PySem PySem.Spec PyProof.Rows
mutual
def Dat (H:Hp):V->PyData->Prop
 | v,.none=>v = .non
 | v,.bool b=>v = .bl b
 | v,.int i=>v = .int i
 | v,.str x=>v = .str x
 | v,.list ds=>∃a vs,v = .ref a/\H a=some (.lst vs)/\aO H vs ds
 | v,.tuple ds=>∃a vs,v = .ref a/\H a=some (.tup vs)/\aO H vs ds
 | _,.dict _=>False
def aO (H:Hp):List V->List PyData->Prop
 | [],[]=>True
 | v::vs,d::ds=>Dat H v d/\aO H vs ds
 | [],_::_=>False
 | _::_,[]=>False
end
section
variable {H H':Hp}
theorem aO.length:∀{vs:List V} {ds:List PyData},aO H vs ds->vs.length=ds.length
 | [],[],_=>rfl
 | _::_,_::_,h=>by simp only [aO] at h;simp [aO.length h.2]
 | [],_::_,h=>by simp only [aO] at h
 | _::_,[],h=>by simp only [aO] at h
theorem aO.get:∀{vs:List V} {ds:List PyData} {i:Nat} {v:V},aO H vs ds->vs[i]? = some v -> ∃d,ds[i]? = some d/\Dat H v d
 | _::_,_::_,0,_,h,e=>by simp only [aO] at h;simp at e;subst e;exact ⟨_,rfl,h.1⟩
 | _::_,_::_,i+1,_,h,e=>by simp only [aO] at h;simp at e;obtain ⟨d,q,r⟩:=aO.get h.2 e;exact ⟨d,by simpa using q,r⟩
 | [],[],_,_,_,e=>by simp at e
 | [],_::_,_,_,h,_=>by simp only [aO] at h
 | _::_,[],_,_,h,_=>by simp only [aO] at h
theorem aO.getD:∀{vs:List V} {ds:List PyData} {i:Nat} {d:PyData},aO H vs ds->ds[i]? = some d -> ∃v,vs[i]? = some v/\Dat H v d
 | _::_,_::_,0,_,h,e=>by simp only [aO] at h;simp at e;subst e;exact ⟨_,rfl,h.1⟩
 | _::_,_::_,i+1,_,h,e=>by simp only [aO] at h;simp at e;obtain ⟨d,q,r⟩:=aO.getD h.2 e;exact ⟨d,by simpa using q,r⟩
 | [],[],_,_,_,e=>by simp at e
 | [],_::_,_,_,h,_=>by simp only [aO] at h
 | _::_,[],_,_,h,_=>by simp only [aO] at h
theorem aO.append:∀{vs ws:List V} {ds es:List PyData},aO H vs ds->aO H ws es->aO H (vs++ws) (ds++es)
 | [],_,[],_,_,g=>g
 | _::_,_,_::_,_,h,g=>by simp only [aO,List.cons_append] at h ⊢;exact ⟨h.1,aO.append h.2 g⟩
 | [],_,_::_,_,h,_=>by simp only [aO] at h
 | _::_,_,[],_,h,_=>by simp only [aO] at h
theorem aO.ints (ns:List Int):aO H (ns.map V.int) (ns.map PyData.int):=by
 induction ns with
 | nil=>simp only [List.map_nil,aO]
 | cons n r ih=>simp only [List.map_cons,aO,Dat];exact ⟨trivial,ih⟩
mutual
theorem Dat.mono (hl:∀a xs,H a=some (HO.lst xs)->H' a=some (HO.lst xs)) (ht:∀a xs,H a=some (HO.tup xs)->H' a=some (HO.tup xs)):∀(d:PyData) {v:V},Dat H v d->Dat H' v d
 | .none,_,h=>by simp only [Dat] at h ⊢;exact h
 | .bool _,_,h=>by simp only [Dat] at h ⊢;exact h
 | .int _,_,h=>by simp only [Dat] at h ⊢;exact h
 | .str _,_,h=>by simp only [Dat] at h ⊢;exact h
 | .list ds,_,h=>by simp only [Dat] at h ⊢;obtain ⟨a,vs,e,q,r⟩:=h;exact ⟨a,vs,e,hl _ _ q,aO.mono hl ht ds r⟩
 | .tuple ds,_,h=>by simp only [Dat] at h ⊢;obtain ⟨a,vs,e,q,r⟩:=h;exact ⟨a,vs,e,ht _ _ q,aO.mono hl ht ds r⟩
 | .dict _,_,h=>by simp only [Dat] at h
theorem aO.mono (hl:∀a xs,H a=some (HO.lst xs)->H' a=some (HO.lst xs)) (ht:∀a xs,H a=some (HO.tup xs)->H' a=some (HO.tup xs)):∀(ds:List PyData) {vs:List V},aO H vs ds->aO H' vs ds
 | [],[],_=>by simp only [aO]
 | d::ds,v::vs,h=>by simp only [aO] at h ⊢;exact ⟨Dat.mono hl ht d h.1,aO.mono hl ht ds h.2⟩
 | _::_,[],h=>by simp only [aO] at h
 | [],_::_,h=>by simp only [aO] at h
end
mutual
def Bg:PyData->Bool
 | .tuple ds=>pX ds
 | .list _ | .dict _=>false
 | .none | .bool _ | .int _ | .str _=>true
def pX:List PyData->Bool
 | []=>true
 | d::ds=>Bg d&&pX ds
end
mutual
theorem Dat.keep (ht:∀a xs,H a=some (HO.tup xs)->H' a=some (HO.tup xs)):∀(d:PyData) {v:V},Bg d=true->Dat H v d->Dat H' v d
 | .none,_,_,h=>by simp only [Dat] at h ⊢;exact h
 | .bool _,_,_,h=>by simp only [Dat] at h ⊢;exact h
 | .int _,_,_,h=>by simp only [Dat] at h ⊢;exact h
 | .str _,_,_,h=>by simp only [Dat] at h ⊢;exact h
 | .list ds,_,i,h=>by simp only [Bg] at i;cases i
 | .tuple ds,_,i,h=>by simp only [Dat] at h ⊢;simp only [Bg] at i;obtain ⟨a,vs,e,q,r⟩:=h;exact ⟨a,vs,e,ht _ _ q,aO.keep ht ds i r⟩
 | .dict _,_,_,h=>by simp only [Dat] at h
theorem aO.keep (ht:∀a xs,H a=some (HO.tup xs)->H' a=some (HO.tup xs)):∀(ds:List PyData) {vs:List V},pX ds=true->aO H vs ds->aO H' vs ds
 | [],[],_,_=>by simp only [aO]
 | d::ds,v::vs,i,h=>by simp only [aO] at h ⊢;simp only [pX,Bool.and_eq_true] at i;exact ⟨Dat.keep ht d i.1 h.1,aO.keep ht ds i.2 h.2⟩
 | _::_,[],_,h=>by simp only [aO] at h
 | [],_::_,_,h=>by simp only [aO] at h
end
theorem jo {α:Type} (f:α->PyData) (h:∀x,Bg (f x)=true):∀l:List α,pX (l.map f)=true
 | []=>rfl
 | a::l=>by simp only [List.map_cons,pX,h a,jo f h l,Bool.and_self]
end
section
variable {X:Cx} {pins:List (Addr×Obj)} {σ:St} {H:Hp} {s:Shared}
mutual
theorem Inv.reads (I:Inv X pins σ H s):∀(d:PyData) {v:V} {u:Value},Dat H v d->RelV v u -> ∃as,Reads s.heap u d as
 | .none,v,u,h,r=>by
   simp only [Dat] at h;subst h;cases (show u=Value.none from r);exact ⟨_,.none⟩
 | .bool b,v,u,h,r=>by
   simp only [Dat] at h;subst h;cases (show u=Value.bool b from r);exact ⟨_,.bool b⟩
 | .int i,v,u,h,r=>by
   simp only [Dat] at h;subst h;obtain ⟨t,q⟩:=(show ∃t,u=Value.int i t from r);cases q;exact ⟨_,.int i t⟩
 | .str x,v,u,h,r=>by
   simp only [Dat] at h;subst h;obtain ⟨t,q⟩:=(show ∃t,u=Value.str x t from r);cases q;exact ⟨_,.str x t⟩
 | .list ds,v,u,h,r=>by
   simp only [Dat] at h;obtain ⟨a,vs,rfl,q,g⟩:=h;cases (show u=Value.ref a from r);obtain ⟨its,rv,p,hz⟩:=I.list (bH.of q);obtain ⟨o,ho,hc,n,hd⟩:=p.isList;obtain ⟨as,ra⟩:=Inv.readsAll I ds g rv;exact ⟨_,.list ho hc hd (by simpa using ra)⟩
 | .tuple ds,v,u,h,r=>by
   simp only [Dat] at h;obtain ⟨a,vs,rfl,q,g⟩:=h;cases (show u=Value.ref a from r);obtain ⟨its,rv,p,hz⟩:=I.tuple (dg.of q);obtain ⟨o,ho,hc,n,hd⟩:=p;obtain ⟨as,ra⟩:=Inv.readsAll I ds g rv;exact ⟨_,.tuple ho hc hd (by simpa using ra)⟩
 | .dict _,_,_,h,_=>by simp only [Dat] at h
theorem Inv.readsAll (I:Inv X pins σ H s):∀(ds:List PyData) {vs:List V} {us:List Value},aO H vs ds->Vals vs us -> ∃as,ReadsAll s.heap us ds as
 | [],[],_,_,.nil=>⟨_,.nil⟩
 | d::ds,v::vs,_,h,.cons r rs=>by
   simp only [aO] at h;obtain ⟨as,ra⟩:=Inv.reads I d h.1 r;obtain ⟨bs,rb⟩:=Inv.readsAll I ds h.2 rs;exact ⟨_,.cons ra rb⟩
 | _::_,[],_,h,_=>by simp only [aO] at h
 | [],_::_,_,h,_=>by simp only [aO] at h
end
def P0 (neg:Bool):R2:=fun x y H Q=>∃d e,Dat H x d/\Dat H y e/\SeqAt.shaped d=true/\SeqAt.shaped e=true/\Q (.bl (if neg then !PyData.eqv d e else PyData.eqv d e)) H
theorem Uq (hu:X.A.units+64<cLine):qe X (compareOp .Eq) (P0 false):=by
 intro pins s σ H x y v u Q I rx ry h;obtain ⟨d,e,h1,h2,s1,s2,q⟩:=h;obtain ⟨as,ra⟩:=I.reads d h1 rx;obtain ⟨bs,rb⟩:=I.reads e h2 ry;exact SeqAt.compareEq_shaped ra rb s1 s2 hu ⟨.bl _,H,I,rfl,q⟩
theorem Um (hu:X.A.units+64<cLine):qe X (compareOp .NotEq) (P0 true):=by
 intro pins s σ H x y v u Q I rx ry h;obtain ⟨d,e,h1,h2,s1,s2,q⟩:=h;obtain ⟨as,ra⟩:=I.reads d h1 rx;obtain ⟨bs,rb⟩:=I.reads e h2 ry;exact SeqAt.compareNe_shaped ra rb s1 s2 hu ⟨.bl _,H,I,rfl,q⟩
theorem Oc {c:Value} {cv:V} (rc:RelV cv c):iw X (.builtin "isinstance") (fun xs H Q=>∃x t b,xs=[x,cv]/\qd X.K H x t/\PySem.W.kitOne X.K t c=some b/\Q (.bl b) H):=by
 intro pins s σ H xs us Q I r h;obtain ⟨x,t,b,rfl,ty,e,q⟩:=h;obtain ⟨u,w',rfl,r1,r2⟩:=vals2 r
 have:w'=c:=by
  cases cv with
  | non=>exact (show w'=Value.none from r2).trans (show c=Value.none from rc).symm
  | bl b=>exact (show w'=Value.bool b from r2).trans (show c=Value.bool b from rc).symm
  | ref a=>exact (show w'=Value.ref a from r2).trans (show c=Value.ref a from rc).symm
  | ty n=>exact (show w'=Value.type n from r2).trans (show c=Value.type n from rc).symm
  | int i=>obtain ⟨t1,rfl⟩:=(show ∃t,c=Value.int i t from rc);unfold PySem.W.kitOne at e;exact absurd e (by cases ty<;>simp [PySem.W.kitCls])
  | str i=>obtain ⟨t1,rfl⟩:=(show ∃t,c=Value.str i t from rc);unfold PySem.W.kitOne at e;exact absurd e (by cases ty<;>simp [PySem.W.kitCls])
  | J5 i=>obtain ⟨t1,rfl⟩:=(show ∃t,c=Value.bytes i t from rc);unfold PySem.W.kitOne at e;exact absurd e (by cases ty<;>simp [PySem.W.kitCls])
  | flt i=>obtain ⟨t1,rfl⟩:=(show ∃t,c=Value.float i t from rc);unfold PySem.W.kitOne at e;exact absurd e (by cases ty<;>simp [PySem.W.kitCls])
 subst this;exact JH I r1 ty e fun tk=>⟨.bl b,H,I.tok _,rfl,q⟩
end
section
variable {prog:Program} {w:World} {A:Around}
theorem vI (hh:A.handled=none) (it a:Addr) (hne:it≠a) (its:List Value):Walks prog w A it [it,a] [it] its.length (fun i v=>its[i]? = some v) (fun i h=>h.IsListIter it a i/\h.IsList a its.toArray) where
 sub:=by simp
 frame:=fun i h h' ⟨s1,o,ho,hc⟩ k=>⟨s1.at fun o e=>k it (by simp) o e,o,k a (by simp) o ho,hc⟩
 item:=fun i s Q E hi ⟨s1,s2⟩ hQ=>wpAny_pyNext_list_item s1 s2 (x:=its[i]) (by simp [hi]) fun h' st' sb=>
  hQ _ h' s.toks (by simp [hi]) ⟨st',s2.extBut sb.extBut hne.symm⟩ fun b o hb e=>(sb.2 b (by simpa using hb)).trans e
 done:=fun s Q E ⟨s1,s2⟩ hQ=>wpAny_pyNext_list_end hh s1 s2 (by simp) fun h' eb=>hQ h' s.toks fun b o hb e=>eb b o (by simpa using hb) e
 self:=fun i s Q E ⟨s1,_⟩ hQ=>wpAny_pyIter_listiter s1 hQ
end
section
variable {X:Cx}
theorem xX (bs:List Bool):(List.range bs.length).all (fun i=>(bs[i]?).getD false)=bs.all id:=by
 rw [Bool.eq_iff_iff,List.all_eq_true,List.all_eq_true];constructor
 ·intro h b hb
  obtain ⟨i,hi,rfl⟩:=List.getElem_of_mem hb;have:=h i (by simpa using hi);simpa [hi] using this
 ·intro h i hi
  have hi':i<bs.length:=by simpa using hi
  simpa [hi'] using h bs[i] (List.getElem_mem hi')
theorem xW (bs:List Bool):(List.range bs.length).any (fun i=>(bs[i]?).getD false)=bs.any id:=by
 rw [Bool.eq_iff_iff,List.any_eq_true,List.any_eq_true];constructor
 ·rintro ⟨i,hi,h⟩
  have hi':i<bs.length:=by simpa using hi
  exact ⟨bs[i],List.getElem_mem hi',by simpa [hi'] using h⟩
 ·rintro ⟨b,hb,h⟩
  obtain ⟨i,hi,rfl⟩:=List.getElem_of_mem hb;exact ⟨i,by simpa using hi,by simpa [hi] using h⟩
theorem vJ {bs:List Bool}:∀{us:List Value},Vals (bs.map V.bl) us->us=bs.map Value.bool:=by
 induction bs with
 | nil=>intro us r;cases r;rfl
 | cons b bs ih=>
   intro us r;cases r with
   | cons r rs=>cases (show _=Value.bool b from r);rw [ih rs];rfl
theorem wR (hc:X.calm=true):iw X (.builtin "all") (fun xs H Q=>∃(p:Addr) (bs:List Bool),xs=[.ref p]/\bH X.K H p (bs.map V.bl)/\Q (.bl (bs.all id)) H):=by
 intro pins s σ H xs us Q I r h;obtain ⟨p,bs,rfl,hq,q⟩:=h;obtain ⟨u,rfl,rx⟩:=vals1 r;cases rx;obtain ⟨its,rv,pl,hz⟩:=I.list hq;have e:=vJ rv;have hlen:its.length=bs.length:=by rw [e,List.length_map]
 refine call_all_walk (wpAny_pyIter_list pl.isList ⟨s.heap.objs.size,[s.heap.objs.size,p],[s.heap.objs.size],its.length,_,_,fun i=>(bs[i]?).getD false,rfl,
  vI (show X.A.in1.handled=none from I.ok.hd hc) s.heap.objs.size p ?_ its,⟨⟨_,Heap.get?_push_size _ rfl,rfl,rfl⟩, ?_⟩, ?_, ?_⟩)
 ·intro z
  obtain ⟨o,ho,_⟩:=pl.isList;have:=Heap.lt_size ho;rw [←z] at this;exact Nat.lt_irrefl _ this
 ·obtain ⟨o,ho,hcl⟩:=pl.isList
  exact ⟨o,Heap.get?_push_of_some _ ho,hcl⟩
 ·intro i v s1 Q1 E1 hP hQ
  rw [e,List.getElem?_map] at hP;cases r:bs[i]? with
  | none=>rw [r] at hP;cases hP
  | some b=>
    rw [r] at hP;cases hP;simp only [r,Option.getD_some] at hQ;exact wpAny_truthy_bool hQ
 ·intro h' tk k
  rw [hlen,xX];have f:=I.wD (H':=H) (b:=s.heap.objs.size) (Nat.le_refl _) (I.hok.fresh (Nat.le_refl _));have I2:Inv X pins σ H {s with heap:=h',toks:=tk}:=I.turned (h':=h') (t':=tk) (it:=s.heap.objs.size) (fun b o hb e=>k b o (by simpa using hb) (Heap.get?_push_of_some _ e)) f.1 f.2.1 f.2.2.2.1 f.2.2.2.2.1 f.2.2.2.2.2;exact ⟨.bl _,H,I2,rfl,q⟩
theorem wQ (hc:X.calm=true):iw X (.builtin "any") (fun xs H Q=>∃(p:Addr) (bs:List Bool),xs=[.ref p]/\bH X.K H p (bs.map V.bl)/\Q (.bl (bs.any id)) H):=by
 intro pins s σ H xs us Q I r h;obtain ⟨p,bs,rfl,hq,q⟩:=h;obtain ⟨u,rfl,rx⟩:=vals1 r;cases rx;obtain ⟨its,rv,pl,hz⟩:=I.list hq;have e:=vJ rv;have hlen:its.length=bs.length:=by rw [e,List.length_map]
 refine call_any_walk (wpAny_pyIter_list pl.isList ⟨s.heap.objs.size,[s.heap.objs.size,p],[s.heap.objs.size],its.length,_,_,fun i=>(bs[i]?).getD false,rfl,
  vI (show X.A.in1.handled=none from I.ok.hd hc) s.heap.objs.size p ?_ its,⟨⟨_,Heap.get?_push_size _ rfl,rfl,rfl⟩, ?_⟩, ?_, ?_⟩)
 ·intro z
  obtain ⟨o,ho,_⟩:=pl.isList;have:=Heap.lt_size ho;rw [←z] at this;exact Nat.lt_irrefl _ this
 ·obtain ⟨o,ho,hcl⟩:=pl.isList
  exact ⟨o,Heap.get?_push_of_some _ ho,hcl⟩
 ·intro i v s1 Q1 E1 hP hQ
  rw [e,List.getElem?_map] at hP;cases r:bs[i]? with
  | none=>rw [r] at hP;cases hP
  | some b=>
    rw [r] at hP;cases hP;simp only [r,Option.getD_some] at hQ;exact wpAny_truthy_bool hQ
 ·intro h' tk k
  rw [hlen,xW];have f:=I.wD (H':=H) (b:=s.heap.objs.size) (Nat.le_refl _) (I.hok.fresh (Nat.le_refl _));have I2:Inv X pins σ H {s with heap:=h',toks:=tk}:=I.turned (h':=h') (t':=tk) (it:=s.heap.objs.size) (fun b o hb e=>k b o (by simpa using hb) (Heap.get?_push_of_some _ e)) f.1 f.2.1 f.2.2.2.1 f.2.2.2.2.1 f.2.2.2.2.2;exact ⟨.bl _,H,I2,rfl,q⟩
end
end L2
set_option Elab.async false
set_option linter.all false
set_option maxRecDepth 100000
set_option maxHeartbeats 4000000
namespace L2
open PySem PySem.Spec PyProof.Rows
def FnAt (P:Program) (w:World) (K:PySem.W.Frag) (mg:Str->Option Value) (base:Heap) (k:Nat) (x:Str) (ps:List Str) (sp:Sp):Prop:=
 ∃f fd,cj P w K mg base jA k f fd ps sp/\mg x=some (.ref f)/\PySem.W.keepIn K (.ref f)=true/\Binds K fd ps []
section
variable {X:Cx} {k j:Nat} {x:Str} {ps:List Str} {sp:Sp} {e:Expr} {es:List Expr} {t:TA} {p pos:Pos}
theorem bM (F:FnAt X.prog X.w X.K X.mg X.base k x ps sp) (hr:eV k X.A) (hg:Gl X x) (ha:PA X (e::es) t) (hd:(x==("__debug__" :Str))=false:=by decide)
 (he:starEach (e::es) X.env=(false,eval e X.env)::starEach es X.env:=by rfl) (hpl:(backTo pos (starEach es X.env)).any (·.1)=false:=by rfl):
 PE X (.Call (.Name x p) (e::es) [] pos) (Rp sp [] E0 t):=by
 obtain ⟨f,fd,G,hm,hk,hb⟩:=F;exact Qi G hr hg hm hk hb .nil Ck ha (hdb:=hd) (he:=he) (hpl:=hpl)
end
theorem Og:bootBuiltins "abs" = some (.builtin "abs"):=by kernel_rfl
theorem Gi:bootBuiltins "all" = some (.builtin "all"):=by kernel_rfl
theorem Vu:bootBuiltins "any" = some (.builtin "any"):=by kernel_rfl
theorem eN:bootBuiltins "len" = some (.builtin "len"):=by kernel_rfl
theorem Vt:bootBuiltins "min" = some (.builtin "min"):=by kernel_rfl
theorem J6:bootBuiltins "sorted" = some (.builtin "sorted"):=by kernel_rfl
theorem bR:bootBuiltins "isinstance" = some (.builtin "isinstance"):=by kernel_rfl
theorem wV:bootBuiltins "int" = some (.type "int"):=by kernel_rfl
theorem Aq:bootBuiltins "bool" = some (.type "bool"):=by kernel_rfl
theorem fV:bootBuiltins "list" = some (.type "list"):=by kernel_rfl
theorem wU:bootBuiltins "tuple" = some (.type "tuple"):=by kernel_rfl
section
variable {X:Cx}
theorem Ql:qe X (binaryOp .Mult) (rI IntMulOk fun i j=> .int (i*j)):=Xu fun _ _ _ _ _ _ _ hc q=>mul_int q hc
end
def Kp (r:Addr) (H H':Hp):Prop:=∀b o,H b=some o->b≠r->H' b=some o
theorem Kp.of_same {r:Addr} {H H':Hp} (h:Same H H'):Kp r H H':=fun b o e _=>h b o e
theorem Kp.trans {r:Addr} {H H1 H2:Hp} (a:Kp r H H1) (b:Kp r H1 H2):Kp r H H2:=fun c o h n=>b c o (a c o h n) n
theorem Kp.set {r:Addr} {H:Hp} {o:HO}:Kp r H (upd H r o):=fun b u e n=>by rw [aF n];exact e
theorem aL {H:Hp} {p:Addr} {o:HO} (h:H p=none):Same H (upd H p o):=fun b u e=>by rw [aF (aD e h)];exact e
theorem Same.tups {H H':Hp} (e:Same H H'):∀a xs,H a=some (HO.tup xs)->H' a=some (HO.tup xs):=fun a xs h=>e _ _ h
theorem Same.ZQ {K:PySem.W.Frag} {H H':Hp} (e:Same H H'):∀a xs,bH K H a xs->bH K H' a xs:=fun a xs h=>e.seq h
theorem Kp.tups {H H':Hp} {r:Addr} {ys:List V} (e:Kp r H H') (hr:H r=some (.lst ys)):∀a xs,H a=some (HO.tup xs)->H' a=some (HO.tup xs):=fun a xs h=>e _ _ h (eO h hr (by intro z;cases z))
end L2
namespace L2
open PySem PySem.Spec PyProof.Rows
section
variable {X:Cx} {K:PySem.W.Frag}
theorem aX (h:X.K=K):Wm X (Xg K):=by subst h;exact QJ
theorem aP (h:X.K=K):Wm X (Ca K):=by subst h;exact U3
theorem Bu (h:X.K=K):SlR X (Xc K):=by subst h;exact Px
theorem Fl (h:X.K=K):qe X (compareOp .In) (rIn K false):=by subst h;exact Jp
def ab_ (K:PySem.W.Frag):List V->Hp->VK->Prop:=fun xs H Q=>∃(p:Addr) (ys:List V),xs=[.ref p]/\(bH K H p ys\/dg K H p ys)/\Q (.int ys.length) H
theorem bh (h:X.K=K):iw X (.builtin "len") (ab_ K):=by subst h;exact Al
def PX (K:PySem.W.Frag):List V->Hp->VK->Prop:=fun xs H Q=>∃(p:Addr) (ys:List V),xs=[.ref p]/\(bH K H p ys\/dg K H p ys) /\ ∀l,H l=none->Q (.ref l) (upd H l (.lst ys))
theorem eG (h:X.K=K):iw X (.type "list") (PX K):=by subst h;exact Ak
def Xl (K:PySem.W.Frag):List V->Hp->VK->Prop:=fun xs H Q=>∃(p:Addr) (bs:List Bool),xs=[.ref p]/\bH K H p (bs.map V.bl)/\Q (.bl (bs.all id)) H
def Xk (K:PySem.W.Frag):List V->Hp->VK->Prop:=fun xs H Q=>∃(p:Addr) (bs:List Bool),xs=[.ref p]/\bH K H p (bs.map V.bl)/\Q (.bl (bs.any id)) H
theorem jy (h:X.K=K) (hc:X.calm=true):iw X (.builtin "all") (Xl K):=by subst h;exact wR hc
theorem uF (h:X.K=K) (hc:X.calm=true):iw X (.builtin "any") (Xk K):=by subst h;exact wQ hc
theorem HD (h:X.K=K) (hu:X.A.units+64<cLine):qe X (compareOp .Eq) (P0 false):=by subst h;exact Uq hu
theorem Hz (h:X.K=K) (hu:X.A.units+64<cLine):qe X (compareOp .NotEq) (P0 true):=by subst h;exact Um hu
theorem dM {tg l:Expr} {tl:TE} (h:X.K=K) (hl:PE X l tl):PI X tg l (RL K tl):=by subst h;exact Qf hl
def acd (K:PySem.W.Frag) (c:Value) (cv:V):List V->Hp->VK->Prop:=fun xs H Q=>∃x t b,xs=[x,cv]/\qd K H x t/\PySem.W.kitOne K t c=some b/\Q (.bl b) H
theorem dR {c:Value} {cv:V} (h:X.K=K) (rc:RelV cv c):iw X (.builtin "isinstance") (acd K c cv):=by subst h;exact Oc rc
theorem gk {o e:Expr} {to:TE} {t:TA} {apos cpos:Pos} (h:X.K=K) (ho:PE X o to) (ha:PA X [e] t)
 (hbase:attributeBase o "append" X.env (eval o X.env)=eval o X.env:=by rfl)
 (hfew:((backTo cpos (starEach [e] X.env)).all (fun x=> !x.1)&&(backToKw cpos (keywordEach [] X.env)).all (fun x=>x.1.isSome)
   && decide (([e]:List Expr).length+([]:List Keyword).length+(if ([]:List Keyword).isEmpty then 0 else 1)<30))=true:=by rfl)
 (hline:(apos.endLine==cpos.line)=true:=by rfl) (hs:starEach [e] X.env=(false,eval e X.env)::starEach [] X.env:=by rfl) (hplain:(backTo cpos (starEach [] X.env)).any (·.1)=false:=by rfl):
 PE X (.Call (.Attribute o "append" apos) [e] [] cpos) (tBM K "list" G_ to t):=by
 subst h;exact Ru PySem.F.plainAttrs_list PySem.F.slot_list_append PySem.F.type_list_append sO ho ha hbase hfew hline hs hplain
end
end L2
namespace L2
open PySem
section
variable {K:PySem.W.Frag} {a D:Addr} {xs:List V} {g:TG} {tc:TT} {te:TE} {Q:VK} {σ0:St} {H1:Hp}
theorem lO (Pv:Nat->St->Hp->Prop) (h0:Pv 0 σ0 (upd H1 D (.lst []))) (hl:∀i σ H,i<=xs.length->Pv i σ H->bH K H a xs)
 (hs:∀i x σ H,xs[i]? = some x->Pv i σ H->g x σ H fun σ2 H2=>tc σ2 H2 fun b H3=>
   if b=true then te σ2 H3 fun y H4=>∃acc,H4 D=some (.lst acc)/\acc.length<sizeLine/\Pv (i+1) σ2 (upd H4 D (.lst (acc++[y]))) else Pv (i+1) σ2 H3)
 (hd:∀σ H,Pv xs.length σ H->Q (.ref D) H):oM (Sx K a) g tc te Q D σ0 H1:=by
 refine ⟨fun i m σ H=>m=xs.length - i/\i<=xs.length/\Pv i σ H,⟨xs.length,by simp,Nat.zero_le _,h0⟩, ?_⟩;rintro i m σ H ⟨rfl,hi,p⟩;have q:=hl i σ H hi p
 by_cases hlt:i<xs.length
 ·refine .inr ⟨⟨xs,xs[i],q,by simp [hlt]⟩,Pv (i+1),fun σ' H' p'=>⟨xs.length - (i+1),by omega,rfl,hlt,p'⟩,fun x H' y=> ?_⟩
  obtain ⟨e,y⟩:=y;subst e;exact hs i x σ _ (y xs q) p
 ·have e:i=xs.length:=by omega
  subst e;exact .inl ⟨⟨xs,q,Nat.le_refl _⟩,hd σ H p⟩
theorem p7 {lo:Int} {n:Nat} (Pv:Nat->St->Hp->Prop) (h0:Pv 0 σ0 (upd H1 D (.lst [])))
 (hs:∀i σ H,i<n->Pv i σ H->g (.int (lo+i)) σ H fun σ2 H2=>tc σ2 H2 fun b H3=>
   if b=true then te σ2 H3 fun y H4=>∃acc,H4 D=some (.lst acc)/\acc.length<sizeLine/\Pv (i+1) σ2 (upd H4 D (.lst (acc++[y]))) else Pv (i+1) σ2 H3)
 (hd:∀σ H,Pv n σ H->Q (.ref D) H):oM (Rj lo n) g tc te Q D σ0 H1:=by
 refine ⟨fun i m σ H=>m=n - i/\i<=n/\Pv i σ H,⟨n,by simp,Nat.zero_le _,h0⟩, ?_⟩;rintro i m σ H ⟨rfl,hi,p⟩
 by_cases hlt:i<n
 ·refine .inr ⟨hlt,Pv (i+1),fun σ' H' p'=>⟨n - (i+1),by omega,rfl,hlt,p'⟩,fun x H' y=> ?_⟩
  obtain ⟨e,y⟩:=y;subst e y;exact hs i σ _ hlt p
 ·have e:i=n:=by omega
  subst e;exact .inl ⟨Nat.le_refl _,hd σ H p⟩
end
end L2
set_option Elab.async false
set_option linter.all false
set_option maxRecDepth 100000
set_option maxHeartbeats 4000000
namespace L2
open PySem PySem.Spec PyProof.Rows
section
variable {α:Type} (f:α->PyData)
theorem jf:∀(l:List α),(∀x∈l,(f x).canLay0=true)->PyData.canLayAll0 (l.map f)=true
 | [],_=>rfl
 | a::l,h=>by
   show (PyData.canLay0 (f a)&&PyData.canLayAll0 (l.map f))=true;rw [h a List.mem_cons_self,jf l fun x hx=>h x (List.mem_cons_of_mem _ hx)];rfl
theorem gD (k:Nat):∀(l:List α),(∀x∈l,(f x).depth<=k)->PyData.depthAll (l.map f)<=k
 | [],_=>Nat.zero_le _
 | a::l,h=>by
   show max (PyData.depth (f a)) (PyData.depthAll (l.map f))<=k;exact Nat.max_le.mpr ⟨h a List.mem_cons_self,gD k l fun x hx=>h x (List.mem_cons_of_mem _ hx)⟩
theorem Bv {l:List α} (k:Nat) (hk:k<64) (h1:∀x∈l,(f x).canLay0=true) (h2:∀x∈l,(f x).depth<=k):SeqAt.shaped (.list (l.map f))=true:=by
 unfold SeqAt.shaped;have e1:PyData.canLay0 (.list (l.map f))=true:=jf f l h1
 have e2:PyData.depth (.list (l.map f))<=64:=by
  show PyData.depthAll (l.map f)+1<=64;have:=gD f k l h2;omega
 rw [e1,decide_eq_true e2];rfl
theorem wJ [DecidableEq α] (h:∀x y,PyData.eqv (f x) (f y)=decide (x=y)):∀(l m:List α),PyData.eqvAll (l.map f) (m.map f)=decide (l=m)
 | [],[]=>rfl
 | [],_::_=>by simp only [List.map_nil,List.map_cons,PyData.eqvAll];exact (decide_eq_false (by intro z;cases z)).symm
 | _::_,[]=>by simp only [List.map_nil,List.map_cons,PyData.eqvAll];exact (decide_eq_false (by intro z;cases z)).symm
 | a::l,b::m=>by
   simp only [List.map_cons,PyData.eqvAll];rw [h a b,wJ h l m]
   by_cases e1:a=b
   ·subst e1
    by_cases e2:l=m
    ·subst e2;simp
    ·simp [e2]
   ·simp [e1]
theorem wI [DecidableEq α] (h:∀x y,PyData.eqv (f x) (f y)=decide (x=y)) (l m:List α):PyData.eqv (.list (l.map f)) (.list (m.map f))=decide (l=m):=by
 simp only [PyData.eqv];exact wJ f h l m
end
theorem wL {H:Hp} {a:Addr} {vs:List V} {ds:List PyData} (h:H a=some (.lst vs)) (d:aO H vs ds):Dat H (.ref a) (.list ds):=by
 simp only [Dat];exact ⟨a,vs,rfl,h,d⟩
theorem C_ (K:PySem.W.Frag):PySem.W.kitOne K (.type "int") (.type "int")=some true:=rfl
theorem mY (K:PySem.W.Frag):PySem.W.kitOne K (.type "int") (.type "bool")=some false:=by kernel_rfl
theorem gP (K:PySem.W.Frag):PySem.W.kitOne K (.type "list") (.type "list")=some true:=rfl
theorem nF (K:PySem.W.Frag):PySem.W.kitOne K (.type "tuple") (.type "tuple")=some true:=rfl
end L2
namespace L2
open PySem
theorem N8 (xs:List V) (k:Nat):yc xs (some (k:Int)) none=xs.drop k:=by
 unfold yc;rw [HT.BL,HT.G5]
 by_cases h:k<=xs.length
 ·rw [Nat.min_eq_left h,List.take_of_length_le (by rw [List.length_drop];exact Nat.le_refl _)]
 ·rw [Nat.min_eq_right (by omega),Nat.sub_self,List.take_zero,List.drop_of_length_le (by omega)]
end L2
set_option Elab.async false
set_option linter.all false
set_option maxRecDepth 100000
set_option maxHeartbeats 4000000
namespace PySem.W
open PySem PySem.Spec PySem.Calls PyProof.Rows
section
variable {prog:Program} {w:World} {A:Around} {E:Value->Shared->Prop} {s:Shared} {K:Frag} {x D:Addr} {ox:Obj} {odo:Option Obj} {name:Str}
end
structure ahv (K:Frag) (D:Addr):Prop where
 hga:findIn K (.ref D) "__getattribute__" = some (some (.builtin "BaseException.__getattribute__"))
 hk:findIn K (.ref D) "__getattr__" = some none
 hB:mroIn K D (.type "BaseException")=some true
 hc:(clsIn K D).isSome=true
 ha:findIn K (.ref D) "__class__" = some (some (.builtin "object.__class__"))
 hn:specialIn K (.builtin "object.__class__") "__get__" = some (some (.builtin "getset_descriptor.__get__"))
 htk:takesIn K (.builtin "object.__class__")=some true
 hm:mroIn K D (.type "object")=some true
end PySem.W
set_option Elab.async false
set_option linter.all false
set_option maxRecDepth 100000
set_option maxHeartbeats 4000000
namespace L2
open PySem PySem.Spec PyProof.Rows
def yh (h:Heap) (e:Addr) (cls:Value) (dx:Option Addr) (lo:Addr->Prop):Option Value->Prop
 | none=>∃oe vs,h.get? e=some oe/\oe.cls=cls/\oe.dict=dx/\oe.data = .fields vs/\vs[1]? = some .none
 | some f=>∃oe vs T oT ts,h.get? e=some oe/\oe.cls=cls/\oe.dict=dx/\oe.data = .fields vs/\vs[1]? = some (.ref T)/\lo T/\T≠e/\h.get? T=some oT/\oT.data = .fields ts/\ts[3]? = some f
section
variable {M:Model} {A:Around} {E:Value->Shared->Prop} {s:Shared} {base:Heap} {env:Env} {outer:List Env} {L e:Addr}
structure qZ (fr:List Addr) (e:Addr) (lo:Addr->Prop) (h h':Heap):Prop where
 keep:∀b o,h.get? b=some o->b∉fr->b≠e -> ¬lo b->h'.get? b=some o
 slot:∀b o,h.get? b=some o->b∈fr->b≠e -> ¬lo b -> ∃sl,h'.get? b=some {o with slots:=sl}
 there:∀b o,h.get? b=some o -> ∃o',h'.get? b=some o'
theorem qZ.trans {fr:List Addr} {lo:Addr->Prop} {h h1 h2:Heap} (a:qZ fr e lo h h1) (b:qZ fr e lo h1 h2):qZ fr e lo h h2 where
 keep:=fun c o q n1 n2 n3=>b.keep c o (a.keep c o q n1 n2 n3) n1 n2 n3
 slot:=fun c o q n1 n2 n3=>by
  obtain ⟨sl,q1⟩:=a.slot c o q n1 n2 n3;obtain ⟨sl2,q2⟩:=b.slot c _ q1 n1 n2 n3;exact ⟨sl2,q2⟩
 there:=fun c o q=>by
  obtain ⟨o1,q1⟩:=a.there c o q;exact b.there c o1 q1
theorem mL {h:Heap} {a:Addr} {o:Obj} {vs:Array Value} (q:h.get? a=some o) (d:o.data = .fields vs) (i:Nat) (v:Value):
 (h.update a (Obj.mapFields (·.setIfInBounds i v))).get? a=some (Obj.mapFields (·.setIfInBounds i v) o)/\(Obj.mapFields (·.setIfInBounds i v) o).data = .fields (vs.setIfInBounds i v) /\
   (Obj.mapFields (·.setIfInBounds i v) o).cls=o.cls/\(Obj.mapFields (·.setIfInBounds i v) o).dict=o.dict:=by
 have d2:=Obj.data_mapFields d (·.setIfInBounds i v);refine ⟨Heap.get?_update_self _ q (Obj.isFreed_of_fields d2),d2,Obj.cls_mapFields _ _, ?_⟩;obtain ⟨c,dd,dt,sl⟩:=o;simp only at d;subst d;rfl
theorem KN {oe:Obj} {vs:Array Value} {head:Value} {hadNext:Bool} {cls:Value} {dx:Option Addr} {lo:Addr->Prop} {Q:Unit->Shared->Prop} (hfr:A.frames=some (env::outer)) (hl:s.heap.FunFrames base (env::outer)) (hf:env.frame=some L)
 (he:s.heap.get? e=some oe) (hd:oe.data = .fields vs) (hsz:1<vs.size) (hc:oe.cls=cls) (hdx:oe.dict=dx) (hlo:∀T,s.heap.get? T=none->lo T)
 (h:∀h',qZ (frs (env::outer)) e lo s.heap h'->yh h' e cls dx lo (some (rawInt L))->Q () {s with heap:=h'}):
 wpAny M A (do let a ←frameOf env;let pl ←entryPlaceOf L hadNext;let b ←EntryCells.newEntry head a .none (rawInt L) .none pl;setField (.ref e) 1 b) Q E s:=by
 have XD:e∉frs (env::outer):=fun hm=>by
  obtain ⟨_,o,q,nf⟩:=hl.mem hm;rw [he] at q;cases q;exact nf vs hd
 refine wpAny_bind (wpAny_frameOf_fun hfr hl hf fun h1 hs1=> ?_);refine wpAny_bind (wpAny_entryPlaceOf fun pl hpl=> ?_);unfold EntryCells.newEntry newFields;refine wpAny_bind (wpAny_newObj_type ?_ (hpl.sizeOk5 _ _ _ _ _));generalize hob:({cls:= .type "traceback",dict:=none,data:= .fields ([head,.ref L,.none,rawInt L,.none]++(if pl.isEmpty then List.replicate 6 Value.none else pl)).toArray}:Obj)=ob;have q1:h1.get? e=some oe:=(hs1.2.1 e XD).trans he;have q2:=Heap.get?_push_of_some (h:=h1) ob q1;have nTe:h1.objs.size≠e:=Nat.ne_of_gt (Heap.lt_size q1);have sizes:h1.objs.size=s.heap.objs.size:=hs1.1;have newT:s.heap.get? h1.objs.size=none:=Heap.get?_none_of_le (by rw [sizes];exact Nat.le_refl _);refine wpAny_setField q2 hd hsz (h _ ⟨fun b o q n1 n2 n3=> ?_,fun b o q n1 n2 n3=> ?_,fun b o q=> ?_⟩ ?_)
 ·rw [Heap.get?_update_other _ _ (Ne.symm n2)]
  exact Heap.get?_push_of_some _ ((hs1.2.1 b n1).trans q)
 ·obtain ⟨sl,q3⟩:=hs1.2.2 b o q
  refine ⟨sl, ?_⟩;rw [Heap.get?_update_other _ _ (Ne.symm n2)];exact Heap.get?_push_of_some _ q3
 ·obtain ⟨sl,q3⟩:=hs1.2.2 b o q
  by_cases hb:b=e
  ·subst hb
   exact ⟨_,(mL q2 hd 1 _).1⟩
  ·refine ⟨{o with slots:=sl}, ?_⟩
   rw [Heap.get?_update_other _ _ (Ne.symm hb)];exact Heap.get?_push_of_some _ q3
 ·obtain ⟨u1,u2,u3,u4⟩:=mL q2 hd 1 (Value.ref h1.objs.size)
  refine ⟨_,_,h1.objs.size,ob,_,u1,u3.trans hc,u4.trans hdx,u2,by simp [hsz],hlo _ newT,nTe, ?_,by rw [←hob], ?_⟩
  ·rw [Heap.get?_update_other _ _ (Ne.symm nTe)]
   exact Heap.get?_push_size _ (by rw [←hob];rfl)
  ·first |(simp;done)|(rcases hpl with rfl|⟨_,_,_,_,_,_,_,rfl⟩<;>simp)
theorem Ws {cls:Value} {dx:Option Addr} {lo:Addr->Prop} {Q:Unit->Shared->Prop} {fl:Option Value} (hfl:fl=none\/fl=some .none) (hfr:A.frames=some (env::outer)) (hl:s.heap.FunFrames base (env::outer)) (hf:env.frame=some L)
 (x:yh s.heap e cls dx lo fl) (hlo:∀T,s.heap.get? T=none->lo T)
 (h:∀h',qZ (frs (env::outer)) e lo s.heap h'->yh h' e cls dx lo (some (rawInt L))->Q () {s with heap:=h'}):wpAny M A (noteFrame (.ref e) env) Q E s:=by
 unfold noteFrame;simp only [hf];rcases hfl with rfl|rfl
 ·obtain ⟨oe,vs,he,hc,hdx,hd,h1⟩:=x
  refine wpAny_bind (wpAny_field he hd h1 ?_);rw [if_neg (by decide)];exact KN hfr hl hf he hd (Array.getElem?_eq_some_iff.mp h1).1 hc hdx hlo h
 ·obtain ⟨oe,vs,T,oT,ts,he,hc,hdx,hd,h1,hT,nT,Pa,hdT,h3⟩:=x
  refine wpAny_bind (wpAny_field he hd h1 ?_);rw [if_pos (show (Value.ref T != Value.none)=true from by simp)];refine wpAny_bind (wpAny_field Pa hdT h3 ?_);rw [if_neg (show ¬((Value.none==rawInt L)=true) from by simp [rawInt])];have hs3:3<ts.size:=(Array.getElem?_eq_some_iff.mp h3).1;refine wpAny_bind (wpAny_setField Pa hdT hs3 ?_);have oth:∀b,b≠T->(s.heap.update T (Obj.mapFields (·.setIfInBounds 3 Value.none))).get? b=s.heap.get? b:=fun b hb=>Heap.get?_update_other _ _ (Ne.symm hb);obtain ⟨u1,u2,u3,u4⟩:=mL Pa hdT 3 Value.none
  have n0:qZ (frs (env::outer)) e lo s.heap (s.heap.update T (Obj.mapFields (·.setIfInBounds 3 Value.none))):=by
   have nb:∀b,¬lo b->b≠T:=fun b hb z=>hb (by rw [z];exact hT);refine ⟨fun b o q _ _ n3=>(oth b (nb b n3)).trans q,fun b o q _ _ n3=>⟨o.slots,(oth b (nb b n3)).trans q⟩,fun b o q=> ?_⟩
   by_cases hb:b=T
   ·subst hb;exact ⟨_,u1⟩
   ·exact ⟨o,(oth b hb).trans q⟩
  have ffs:(s.heap.update T (Obj.mapFields (·.setIfInBounds 3 Value.none))).FunFrames base (env::outer):=hl.of_keeps fun b o q nf=>by
   by_cases hb:b=T
   ·subst hb;rw [Pa] at q;cases q;exact absurd hdT (nf ts)
   ·exact ⟨o,(oth b hb).trans q,rfl⟩
  refine KN (s:={s with heap:=s.heap.update T (Obj.mapFields (·.setIfInBounds 3 Value.none))}) hfr ffs hf ((oth e (Ne.symm nT)).trans he) hd (Array.getElem?_eq_some_iff.mp h1).1 hc hdx (fun T' z=> ?_) fun h' n1 x1=>h h' (n0.trans n1) x1
  by_cases hb:T'=T
  ·rw [hb];exact hT
  ·exact hlo T' ((oth T' hb).symm.trans z)
theorem Wt {cls:Value} {dx:Option Addr} {lo:Addr->Prop} {Q:Unit->Shared->Prop} {fr:List Addr} {f:Value} (x:yh s.heap e cls dx lo (some f))
 (h:∀h',qZ fr e lo s.heap h'->yh h' e cls dx lo (some .none)->Q () {s with heap:=h'}):wpAny M A (setFlight (.ref e) none) Q E s:=by
 obtain ⟨oe,vs,T,oT,ts,he,hc,hdx,hd,h1,hT,nT,Pa,hdT,h3⟩:=x;have hs3:3<ts.size:=(Array.getElem?_eq_some_iff.mp h3).1;unfold setFlight;refine wpAny_bind (wpAny_field he hd h1 ?_);rw [if_pos (show (Value.ref T != Value.none)=true from by simp)];have oth:∀b,b≠T->(s.heap.update T (Obj.mapFields (·.setIfInBounds 3 Value.none))).get? b=s.heap.get? b:=fun b hb=>Heap.get?_update_other _ _ (Ne.symm hb);obtain ⟨u1,u2,u3,u4⟩:=mL Pa hdT 3 Value.none;have nb:∀b,¬lo b->b≠T:=fun b hb z=>hb (by rw [z];exact hT);refine wpAny_setField Pa hdT hs3 (h _ ⟨fun b o q _ _ n3=>(oth b (nb b n3)).trans q,fun b o q _ _ n3=>⟨o.slots,(oth b (nb b n3)).trans q⟩,fun b o q=> ?_⟩ ?_)
 ·by_cases hb:b=T
  ·subst hb;exact ⟨_,u1⟩
  ·exact ⟨o,(oth b hb).trans q⟩
 ·exact ⟨oe,vs,T,_,_,(oth e (Ne.symm nT)).trans he,hc,hdx,hd,h1,hT,nT,u1,u2,by simp [hs3]⟩
end
section
variable {X:Cx} {pins:List (Addr×Obj)} {σ:St} {H:Hp} {s:Shared} {e:Addr}
theorem fM.there {P:Program} {w:World} {H:Hp} {h:Heap} {a:Addr} {o:HO} (x:fM P w H h a o):∃ob,h.get? a=some ob:=by
 induction o with
 | lst xs=>obtain ⟨_,_,_,_,q⟩:=x;exact ⟨_,q⟩
 | tup xs=>obtain ⟨_,_,_,ob,q,_⟩:=x;exact ⟨ob,q⟩
 | dK kvs=>obtain ⟨_,_,_,_,ob,_,_,q,_⟩:=x;exact ⟨ob,q⟩
 | dT kvs=>obtain ⟨_,_,_,_,ob,_,_,q,_⟩:=x;exact ⟨ob,q⟩
 | set S n=>obtain ⟨ob,_,_,_,q,_⟩:=x;exact ⟨ob,q⟩
 | ins C dx fs=>obtain ⟨_,_,_,q,_⟩:=x;exact ⟨_,q⟩
 | own y=>exact x
 | xd fs=>obtain ⟨_,⟨ob,_,_,q,_⟩,_⟩:=x;exact ⟨ob,q⟩
 | rng lo hi=>obtain ⟨_,_,_,q⟩:=x;exact ⟨_,q⟩
 | Ai ob u ih=>exact ⟨ob,x.1⟩
 | Rn ps=>exact ⟨_,x⟩
 | met f y=>exact ⟨_,x⟩
 | ext φ=>exact x.2.1
def Kg (X:Cx) (pins:List (Addr×Obj)) (H:Hp) (b:Addr):Prop:=
 H b=none/\b≠X.env.locals/\b∉X.fs/\X.s₀.heap.get? b=none/\(∀x c,X.env.cells.lookup x=some c->c≠b) /\ ∀p∈X.pn++pins,p.1≠b
theorem Inv.xfp (I:Inv X pins σ H s) (hx:X.ex=[]) {b:Addr} (hb:s.heap.get? b=none):Kg X pins H b:=by
 refine ⟨?_,fun z=> ?_,fun z=> ?_, ?_,fun x c q z=> ?_,fun p hp z=> ?_⟩
 ·cases q:H b with
  | none=>rfl
  | some o=>
    obtain ⟨ob,r⟩:=(I.hok b o q).there;rw [hb] at r;cases r
 ·obtain ⟨m,⟨o,_,_,r,_⟩,_⟩:=I.loc
  rw [←z,hb] at r;cases r
 ·obtain ⟨_,o,r,_⟩:=I.qP.mem z
  rw [hb] at r;cases r
 ·cases q:X.s₀.heap.get? b with
  | none=>rfl
  | some o=>
    obtain ⟨o',r⟩:=I.base.there b o q (by rw [hx];simp);rw [hb] at r;cases r
 ·obtain ⟨v,o,r,_⟩:=I.cell x c q
  rw [z,hb] at r;cases r
 ·obtain ⟨r,_⟩:=I.pin p hp
  rw [z,hb] at r;cases r
theorem Inv.noted {lo:Addr->Prop} {h':Heap} (I:Inv X pins σ H s) (n:qZ (frs X.stack) e lo s.heap h') (hlo:∀b,(b=e\/lo b)->Kg X pins H b\/s.heap.get? b=none):Inv X pins σ H {s with heap:=h'}:=by
 have off:∀b o,s.heap.get? b=some o->(¬Kg X pins H b)->b≠e /\ ¬lo b:=fun b o q nx=>
  ⟨fun z=>(hlo b (.inl z)).elim nx fun r=>(by rw [r] at q;cases q),fun z=>(hlo b (.inr z)).elim nx fun r=>(by rw [r] at q;cases q)⟩
 have any:∀b o,s.heap.get? b=some o->(¬Kg X pins H b) -> ∃sl,h'.get? b=some {o with slots:=sl}:=fun b o q nx=>by
  obtain ⟨n1,n2⟩:=off b o q nx
  by_cases hb:b∈frs X.stack
  ·exact n.slot b o q hb n1 n2
  ·exact ⟨o.slots,n.keep b o q hb n1 n2⟩
 have s0:∀b o,X.s₀.heap.get? b=some o -> ¬Kg X pins H b:=fun b o q x=>by rw [x.2.2.2.1] at q;cases q
 have Z8:∀b o,X.s₀.heap.get? b=some o->b≠X.env.locals:=fun b o q=>Nat.ne_of_lt (Nat.lt_of_lt_of_le (Heap.lt_size q) I.ok.above);have nst:∀b,b≠X.env.locals->b∉X.fs->b∉frs X.stack:=fun b n1 n2 z=>(List.mem_cons.mp (I.pL b z)).elim n1 n2;have Te:∀b o,H b=some o -> ¬Kg X pins H b:=fun b o q x=>by rw [x.1] at q;cases q
 have Wz:∀b o,H b=some o->b∉frs X.stack:=fun b o q z=>by rw [I.uQ b z] at q;cases q
 have cl:∀x c,X.env.cells.lookup x=some c -> ∀v,s.heap.IsCell c v->h'.IsCell c v:=fun x c q v ⟨o,ho,hd⟩=>by
  obtain ⟨sl,r⟩:=any c o ho fun z=>z.2.2.2.2.1 x c q rfl;exact ⟨_,r,hd⟩
 refine ⟨I.ok,I.os,I.bare,⟨fun b o q nn hb hx=> ?_,fun b o q nn hb hx=> ?_,I.base.free,fun b o q hx=> ?_,I.base.tups,I.base.uE,I.base.vK⟩, ?_,fun x c q=> ?_,I.free,I.nG,fun p hp=> ?_,fun a o q=> ?_,I.len⟩
 ·have q1:=I.base.keep b o q nn hb hx
  obtain ⟨n1,n2⟩:=off b o q1 (s0 b o q);exact n.keep b o q1 (nst b (Z8 b o q) hb) n1 n2
 ·obtain ⟨sl,q1⟩:=I.base.slot b o q nn hb hx
  obtain ⟨sl2,q2⟩:=any b _ q1 (s0 b o q);exact ⟨sl2,q2⟩
 ·obtain ⟨o1,q1⟩:=I.base.there b o q hx
  exact n.there b o1 q1
 ·obtain ⟨m,⟨ob,es,ep,ho,r⟩,hl⟩:=I.loc
  obtain ⟨sl,q1⟩:=any _ ob ho fun z=>z.2.1 rfl;refine ⟨m,⟨_,es,ep,q1,r⟩,fun i x v e1 e2 e3=> ?_⟩;obtain ⟨u,ru,l⟩:=hl i x v e1 e2 e3;refine ⟨u,ru, ?_⟩;rcases l with l|⟨k,c,hc,z⟩
  ·exact .inl l
  ·exact .inr ⟨k,c,hc,cl x c hc _ z⟩
 ·obtain ⟨v,z⟩:=I.cell x c q
  exact ⟨v,cl x c q v z⟩
 ·obtain ⟨q,nn,n1,n2,d⟩:=I.pin p hp
  obtain ⟨m1,m2⟩:=off p.1 p.2 q fun z=>z.2.2.2.2.2 p hp rfl;exact ⟨n.keep p.1 p.2 q (nst p.1 n1 n2) m1 m2,nn,n1,n2,d⟩
 ·refine (I.hok a o q).stay (fun b u hb r=> ?_) (fun _ z=>z) fun _ _ z=>z
  rcases hb with rfl|hb
  ·obtain ⟨m1,m2⟩:=off b u r (Te b o q)
   exact n.keep b u r (Wz b o q) m1 m2
  ·obtain ⟨m1,m2⟩:=off b u r (Te b _ hb)
   exact n.keep b u r (Wz b _ hb) m1 m2
def um (P:Program) (w:World):Kq:=fun outer H s E ev s'=>∃(e:Addr) (cls:Value) (dx:Option Addr) (H':Hp),ev = .ref e/\s'.os=s.os/\AllBare s'.gens/\Un (frs outer) [] H H' s.heap s'.heap/\q_ P w H' s'.heap /\
 s.heap.get? e=none/\H' e=none/\yh s'.heap e cls dx (fun T=>s.heap.get? T=none/\H' T=none) (some .none)/\E cls dx H'
def Rz (X:Cx) (E:St->XK):Prop:=∀(pins:List (Addr×Obj)) (σ:St) (H:Hp) (s:Shared) (e:Addr) (cls:Value) (dx:Option Addr) (fl:Option Value),(fl=none\/fl=some .none)->Inv X pins σ H s->Kg X pins H e ->
 yh s.heap e cls dx (Kg X pins H) fl->E σ cls dx H->X.xe (.ref e) s
theorem yh.imp {h:Heap} {e:Addr} {cls:Value} {dx:Option Addr} {lo lo':Addr->Prop} {f:Option Value} (x:yh h e cls dx lo f) (k:∀T,(∃o,h.get? T=some o)->lo T->lo' T):yh h e cls dx lo' f:=by
 cases f with
 | none=>exact x
 | some f=>
   obtain ⟨oe,vs,T,oT,ts,he,hc,hdx,hd,h1,hT,nT,Pa,r⟩:=x;exact ⟨oe,vs,T,oT,ts,he,hc,hdx,hd,h1,k T ⟨oT,Pa⟩ hT,nT,Pa,r⟩
theorem Hx {E:St->XK} {σ:St} (hx:X.ex=[]) (R:Rz X E) {pins:List (Addr×Obj)} {H:Hp} {s s':Shared} {ev:Value} (I:Inv X pins σ H s) (c:um X.prog X.w X.stack H s (E σ) ev s'):X.xe ev s':=by
 obtain ⟨e,cls,dx,H',rfl,ho,hg,u,hok,ne,he,x,q⟩:=c;have I':Inv X pins σ H' s':=I.call' (ch:=[]) ho u hok hg (fun b hb=>by cases hb)
 have fp:∀T,s.heap.get? T=none->H' T=none->Kg X pins H' T:=fun T h1 h2=>by
  obtain ⟨_,a2,a3,a4,a5,a6⟩:=I.xfp hx h1;exact ⟨h2,a2,a3,a4,a5,a6⟩
 exact R pins σ H' s' e cls dx _ (.inr rfl) I' (fp e ne he) (x.imp fun T _ z=>fp T z.1 z.2) q
theorem BR {P:Program} {w:World} {K:PySem.W.Frag} {mg:Str->Option Value} {base:Heap} {N:List Str} {qual:Str} {scope:Scope} {f:Addr} {cd:Value} {A:Around} {outer:List Env} {s:Shared} {H:Hp} {E:XK}:
 Rz (m5 (um P w) P w K mg base N qual scope f cd A outer s H E) (fun _=>E):=by
 intro pins σ H1 s1 e cls dx fl hfl I fe x q;show wpAny (model P w) _ (leaving _ (.ref e)) _ _ s1;unfold leaving;have lo1:∀b,(b=e\/(Kg (m5 (um P w) P w K mg base N qual scope f cd A outer s H E) pins H1 b\/s1.heap.get? b=none))->Kg (m5 (um P w) P w K mg base N qual scope f cd A outer s H E) pins H1 b\/s1.heap.get? b=none:=fun b z=>z.elim (fun z=> .inl (by rw [z];exact fe)) fun z=>z;have stk:(m5 (um P w) P w K mg base N qual scope f cd A outer s H E).A.frames=some ((m5 (um P w) P w K mg base N qual scope f cd A outer s H E).env::outer):=I.ok.frames;refine wpAny_bind (Ws (base:=base) (lo:=fun T=>Kg (m5 (um P w) P w K mg base N qual scope f cd A outer s H E) pins H1 T\/s1.heap.get? T=none) hfl stk I.stack rfl (x.imp fun T _ z=> .inl z) (fun T z=> .inr z) fun h1 n1 x1=> ?_);refine Wt (fr:=frs ((m5 (um P w) P w K mg base N qual scope f cd A outer s H E).env::outer)) x1 fun h2 n2 x2=> ?_;have I2:Inv (m5 (um P w) P w K mg base N qual scope f cd A outer s H E) pins σ H1 {s1 with heap:=h2}:=I.noted (n1.trans n2) lo1;refine ⟨e,cls,dx,H1,rfl,I2.os,I2.bare,I2.base,I2.hok,fe.2.2.2.1,fe.1,x2.imp fun T _ z=> ?_,q⟩;rcases z with z|z
 ·exact ⟨z.2.2.2.1,z.1⟩
 ·have y:=I.xfp rfl z
  exact ⟨y.2.2.2.1,y.1⟩
end
end L2
set_option Elab.async false
set_option linter.all false
set_option maxRecDepth 100000
set_option maxHeartbeats 4000000
namespace L2
open PySem PySem.Spec PyProof.Rows
def Ov (P:Program) (w:World) (K:PySem.W.Frag) (mg:Str->Option Value) (base:Heap) (k:Nat) (x:Str) (ps:List Str) (sp:Sp):Prop:=
 ∃f fd,cj P w K mg base (um P w) k f fd ps sp/\mg x=some (.ref f)/\PySem.W.keepIn K (.ref f)=true/\Binds K fd ps []
def Tw (sp:Sp) (E:St->XK) (t:TA):TE:=fun σ H Q=>t σ H fun vs H1=>sp vs H1 Q (E σ)
section
variable {X:Cx} {k:Nat} {x:Str} {ps:List Str} {sp:Sp} {e:Expr} {es:List Expr} {t:TA} {p pos:Pos} {E:St->XK}
theorem Uj (F:Ov X.prog X.w X.K X.mg X.base k x ps sp) (hx:X.ex=[]) (R:Rz X E) (hr:eV k X.A) (hg:Gl X x) (ha:PA X (e::es) t) (hd:(x==("__debug__" :Str))=false:=by decide)
 (he:starEach (e::es) X.env=(false,eval e X.env)::starEach es X.env:=by rfl) (hpl:(backTo pos (starEach es X.env)).any (·.1)=false:=by rfl):
 PE X (.Call (.Name x p) (e::es) [] pos) (Tw sp E t):=by
 obtain ⟨f,fd,G,hm,hk,hb⟩:=F;intro pins s σ H Q I h;refine wpAny_Call_Name_kw (qJ I hg hm ?_ hd);refine PySem.W.callWith_K (h₀:=X.base) I.ok.mod.O_ hk (dH (ha pos pins s σ H _ I h) fun us s1 ⟨vs,H1,I1,r,q⟩=>⟨I1.oA, ?_⟩) he hpl;have hlen:us.length=ps.length:=by rw [←r.length];exact G.len _ _ _ _ q
 have hbd:=hb s1 us I1.oA (by rw [List.append_nil];exact hlen);rw [List.append_nil] at hbd;refine wpAny_call (codeAny_mono (G.run X.A X.stack s1 H1 ⟨us,[]⟩ us vs Q (E σ) hr I1.env0 hbd r q) fun res s' hq=> ?_)
 match res,hq with
 | .error ev,hq=>exact Hx hx R I1 hq
 | .ok (.ret u),hq=>exact I1.after hq
end
section
variable {P:Program} {w:World} {K:PySem.W.Frag} {mg:Str->Option Value} {base:Heap}
theorem jX.V4 {x qual:Str} {st:Stmt} {f:Addr} {fd:FuncData} {N ps:List Str} {k:Nat} {sp:Sp} (F:jX K x qual st f fd) (S:bf N ps (ao st)) (len:∀vs H Q E,sp vs H Q E->vs.length=ps.length)
 (hbody:∀(cdv:Value) (A:Around) (outer:List Env) (s:Shared) (H:Hp) (vs:List V) (Q:VK) (E:XK),eV k (A.deeper (envOfC qual (ao st) s.heap.objs.size f cdv))->sp vs H Q E ->
   Rz (m5 (um P w) P w K mg base N qual (ao st) f cdv A outer s H E) (fun _=>E) ->
   ∃t,Eb (m5 (um P w) P w K mg base N qual (ao st) f cdv A outer s H E) (aH st) t/\t {nx:=fun _ H'=>Q .non H',rt:=Q} (start N vs) H):cj P w K mg base (um P w) (k+1) f fd ps sp:=by
 obtain ⟨oc,od,kV,doc,pm,an,cdv,ct,osl,rfl,lk,hcd⟩:=F.ex;exact Ii lk hcd S len fun A outer s H vs Q E hr hsp=>hbody cdv A outer s H vs Q E hr hsp BR
end
theorem QW {K:PySem.W.Frag} {h:Heap} {C:Addr} {bmB:List Value} {newId:String} (X:K.In h) (q:PySem.W.excIn K C bmB newId=true):
 ∃bm N nm qn bs hdct sn sub ab col dd k0 k1 k2 k3 k5 mN,h.get? C=some (excClassObj nm qn C N bs bm hdct sn sub ab col dd k0 k1 k2 k3 k5 newId)/\h.Ns N mN/\mN "__init__" = none/\OwnTail h bmB bm:=by
 unfold PySem.W.excIn at q;split at q
 ·rename_i d0 c0 s0 lk
  split at q
  ·rename_i C1 tl a0 a1 a2 a3 nn a5 em es
   simp only [Bool.and_eq_true,beq_iff_eq,Bool.not_eq_true'] at q;obtain ⟨⟨⟨⟨⟨e1,e2⟩,e3⟩,e4⟩,e5⟩,e6⟩:=q;subst e1 e2;obtain ⟨f1,f2,f3,f4,f5,f6,f7,f8,f9,Wh,f11⟩:=c0;dsimp only at em e3 e5 e6;subst em e3
   have ez:s0 = #[a0,a1,a2,a3,some (.builtin nn),a5]:=by
    obtain ⟨l⟩:=s0;simp only at es;rw [es]
   subst ez;exact ⟨tl,f4,_,_,_,_,_,_,_,_,_,_,_,_,_,_,_,X _ _ lk,.of_isNs (PySem.W.isNs_of_in X e5),PySem.W.nsMap_none_of_in X e5 e6,PySem.W.tail_of_in X e4⟩
  ·cases q
 ·cases q
def Tq (cls:Value) (E:St->XK) (ta:TA):TS:=fun _ σ H=>ta σ H fun vs H1=>vs.length<=sizeLine/\E σ cls none H1
section
variable {X:Cx} {E:St->XK} {x:Str} {C:Addr} {B newId initId:String} {bmB:List Value} {e0:Expr} {rest:List Expr} {ta:TA} {np cpos pos:Pos}
theorem qG (FB:ExcBaseFacts B newId initId bmB) (q:PySem.W.excIn X.K C bmB newId=true) (hm:X.mg x=some (.ref C)) (hg:Gl X x) (hc:X.calm=true) (hx:X.ex=[]) (R:Rz X E) (ha:PA X (e0::rest) ta)
 (he:starEach (e0::rest) X.env=(false,eval e0 X.env)::starEach rest X.env:=by rfl) (hplain:(backTo cpos (starEach rest X.env)).any (·.1)=false:=by rfl) (hd:(x==("__debug__" :Str))=false:=by decide):
 PS X (.Raise (some (.Call (.Name x np) (e0::rest) [] cpos)) none pos) (Tq (.ref C) E ta):=by
 intro pins s σ H D I h;obtain ⟨bm,N,nm,qn,bs,hdct,sn,sub,ab,col,dd,k0,k1,k2,k3,k5,mN,hC,hN,hni,T⟩:=QW I.ok.mod.O_ q
 refine wpAny_Raise_call_subT (k5:=k5) (k3:=k3) (k2:=k2) (k1:=k1) (k0:=k0) (dd:=dd) (col:=col) (ab:=ab) (sub:=sub) (sn:=sn) (hdct:=hdct) (bs:=bs) (q:=qn) (nm:=nm)
  (C:=C) (N:=N) (bm:=bm) (mN:=mN) FB (T.hasType FB.hasBase) (I.ok.hd hc) (by rw [he];show (false||(backTo cpos (starEach rest X.env)).any (·.1))=false;rw [hplain];rfl) hni (qJ I hg hm ⟨rfl, ?_⟩ hd)
 have h2:=ha cpos pins s σ H _ I h;rw [he] at h2 ⊢;refine Calls.evalArgs_plain (dH h2 fun us s1 ⟨vs,H1,I1,r,hl,hE⟩=>⟨rfl,by rw [←r.length];exact hl,I1.bk _ _ hC,hN.keeps I1.bk,T.keeps I1.bk,fun h' e mk=> ?_⟩);obtain ⟨t,ht,_,_⟩:=mk.there;have I2:Inv X pins σ H1 {s1 with heap:=h'}:=I1.kept (t':=s1.toks) mk.keeps;exact R pins σ H1 _ e (.ref C) none none (.inl rfl) I2 (I1.xfp hx mk.new) ⟨_,_,ht,rfl,rfl,rfl,rfl⟩ hE
end
section
variable {X:Cx} {pins:List (Addr×Obj)} {σ:St} {H:Hp} {s:Shared}
end
section
variable {M:Model} {A:Around} {Er:Value->Shared->Prop} {s:Shared} {K:PySem.W.Frag} {e C D:Addr}
end
end L2
set_option Elab.async false
set_option linter.all false
set_option maxRecDepth 100000
set_option maxHeartbeats 4000000
namespace L2
open PySem PySem.Spec PyProof.Rows
section
variable {X:Cx} {pins:List (Addr×Obj)} {σ:St} {H:Hp} {s:Shared}
end
structure XHd (K:PySem.W.Frag) (D:Addr):Prop where
 cl:(PySem.W.clsIn K D).isSome=true
 ty:PySem.W.typeIn K (.ref D)=some (.type "type")
 bs:PySem.W.subIn K (.ref D) (.type "BaseException")=some true
section
variable {X:Cx} {body suite:List Stmt} {b0:Stmt} {n cn:Str} {i:Nat} {Dc:Addr} {tb:(St->XK)->TS} {th:TS} {cp hpos pos:Pos}
end
section
variable {X:Cx} {K:PySem.W.Frag}
end
end L2
set_option Elab.async false
set_option linter.all false
set_option maxRecDepth 100000
set_option maxHeartbeats 4000000
namespace L2
open PySem PySem.Spec PyProof.Rows
section
variable {X:Cx} {K:PySem.W.Frag}
end
end L2
namespace L2
open PySem
structure Xr (K:PySem.W.Frag) (mg:Str->Option Value) (C:Addr) (nm:Str):Prop where
 bd:mg nm=some (.ref C)
 hd:XHd K C
 xc:PySem.W.ahv K C
 ex:PySem.W.excIn K C [.type "ValueError",.type "Exception",.type "BaseException",.type "object"] "ValueError.__new__" = true
 ve:PySem.W.subIn K (.ref C) (.type "ValueError")=some true
end L2
set_option Elab.async false
set_option linter.all false
set_option maxRecDepth 100000
set_option maxHeartbeats 4000000
namespace L2
open PySem PySem.Spec PyProof.Rows
section
variable {X:Cx} {pins:List (Addr×Obj)} {σ:St} {H:Hp} {s:Shared} {h':Heap}
theorem Inv.oO {t':Nat} {fp:List Addr} (I:Inv X pins σ H s) (hf:∀b∈fp,kY X pins H b) (k:∀b o,b∉fp->s.heap.get? b=some o->h'.get? b=some o):Inv X pins σ H {s with heap:=h',toks:=t'}:=by
 have XC:∀b u,H b=some u->b∉fp:=fun b u e z=>by rw [(hf b z).1] at e;cases e
 refine I.step (g':=s.gens) (d':=s.drawn) (ch:=fp) (fun b hb=> ?_) (fun b o _ _ hc e _=>k b o hc e) (fun b o _ _ hc e _=>⟨o.slots,k b o hc e⟩) (fun _ _ _ _ n=>n)
  (fun b o hc e=>⟨o,k b o hc e⟩) (fun _ _ e=>e) (fun _ _ _ e=>e) (fun b ps e=>⟨#[],by rw [e];simp⟩) (fun m hm=> ?_) (fun b u e=> ?_) I.bare
 ·obtain ⟨f0,f1,f2,f3,f4,f5⟩:=hf b hb
  exact ⟨f3,f1,f4,f5⟩
 ·obtain ⟨o,es,ep,ho,r⟩:=hm
  exact ⟨o,es,ep,k _ o (fun z=>(hf _ z).2.1 rfl) ho,r⟩
 ·refine (I.hok b u e).stay (fun c v hc q=>k c v ?_ q) (fun _ q=>q) fun _ _ q=>q
  rcases hc with z|z
  ·rw [z];exact XC b u e
  ·exact XC c _ z
theorem kY.upd {b p:Addr} {o:HO} (h:kY X pins H b) (n:b≠p):kY X pins (upd H p o) b:=by
 obtain ⟨f0,r⟩:=h;exact ⟨by rw [aF n];exact f0,r⟩
theorem wC {h:Heap} {o u:Obj} {b:Addr} (ho:o.isFreed=false) (e:(h.push o).get? b=some u):(b=h.objs.size/\u=o)\/h.get? b=some u:=by
 by_cases hb:b=h.objs.size
 ·subst hb
  rw [Heap.get?_push_size _ ho] at e;exact .inl ⟨rfl,(Option.some.inj e).symm⟩
 ·refine .inr ?_
  have lt:=Heap.lt_size e
  have V9:b<h.objs.size:=by
   have:(h.push o).objs.size=h.objs.size+1:=by simp [Heap.push]
   rw [this] at lt;exact Nat.lt_of_le_of_ne (Nat.le_of_lt_succ lt) hb
  have:(h.push o).get? b=h.get? b:=by
   simp only [Heap.get?,Heap.push];rw [Array.getElem?_push_lt V9,Array.getElem?_eq_getElem V9]
  rw [←this];exact e
end
def Ite (K:PySem.W.Frag) (l:Addr):It:=
 ⟨fun i H=>∃xs x,bH K H l xs/\xs[i]? = some x,fun i H x H'=>∃(p:Addr) (y:V),x = .ref p/\H p=none/\(∀xs,bH K H l xs->xs[i]? = some y)/\H'=upd H p (.tup [.int i,y]),fun i H=>∃xs,bH K H l xs/\xs.length<=i⟩
theorem Je {P:Program} {w:World} {K:PySem.W.Frag} {elts:List Expr} {x1:Nat} {pos:Pos} (l e it:Addr) (hne:e≠it):Turn P w K (.Tuple elts x1 pos) (Ite K l) [e,it] e (fun i h=>(∃old,IsEnum h e it i old)/\h.IsListIter it l i) where
 mem:=by simp
 obj:=fun i h st b hb=>by
  obtain ⟨⟨old,he⟩,o,ho,c,d⟩:=st;have hb':b=e\/b=it:=by simpa using hb
  rcases hb' with rfl|rfl
  ·exact ⟨_,he,fun v z=>by cases z⟩
  ·exact ⟨o,ho,fun v z=>by rw [d] at z;cases z⟩
 keep:=fun i h h' st k=>by
  obtain ⟨⟨old,he⟩,o,ho,c,d⟩:=st;exact ⟨⟨old,k e (by simp) _ he⟩,o,k it (by simp) _ ho,c,d⟩
 item:=by
  intro X hP hw hK hc i pins s σ H E I hf st hg;subst hP hw hK;obtain ⟨xs,x,hq,hx⟩:=hg;obtain ⟨its,rv,p,hz⟩:=I.list hq;obtain ⟨u,hu,ru⟩:=rv.get hx;obtain ⟨⟨old,he⟩,hi⟩:=st;have elt:=Heap.lt_size he;have ilt:it<s.heap.objs.size:=by obtain ⟨o,ho,_⟩:=id hi;exact Heap.lt_size ho
  refine wpAny_pyNext_enum_item he hi p.isList (x:=u) (by simpa using hu) hne fun h' hout hit htup hsz hk=> ?_;refine ⟨_,rfl, ?_⟩;refine wpAny_letOwnedTupleGo_enum hout fun h2 he2 sb=> ?_;have hfr:H s.heap.objs.size=none:=I.hok.fresh (Nat.le_refl _)
  have I0:Inv X pins σ (upd H s.heap.objs.size (.tup [.int i,x])) {s with heap:=s.heap.push {cls:= .type "tuple",data:= .seq #[.int i s.toks,u]}}:=
   I.laid (t':=s.toks) (fun b u e=>Heap.get?_push_of_some _ e) (Nat.le_refl _) ⟨by show 2<=sizeLine;decide,[.int i s.toks,u],.cons ⟨_,rfl⟩ (.cons ru .nil),⟨_,Heap.get?_push_size _ rfl,rfl,_,rfl⟩⟩
  have ne1:e≠s.heap.objs.size:=Nat.ne_of_lt elt;have ne2:it≠s.heap.objs.size:=Nat.ne_of_lt ilt
  have RT:∀b∈[e,it],kY X pins (upd H s.heap.objs.size (.tup [.int i,x])) b:=fun b hb=>by
   have hb':b=e\/b=it:=by simpa using hb
   rcases hb' with rfl|rfl
   ·exact (hf _ (by simp)).upd ne1
   ·exact (hf _ (by simp)).upd ne2
  have I1:=I0.oO (h':=h2) (t':=s.toks+1) RT (fun b o hb eb=>by
   have b1:b≠e:=fun z=>hb (by simp [z]);have b2:b≠it:=fun z=>hb (by simp [z]);rw [sb.2 b b1];rcases wC rfl eb with ⟨rfl,rfl⟩|eb
   ·exact htup
   ·exact hk b o b1 b2 eb)
  refine ⟨.ref s.heap.objs.size,_,I1,rfl,⟨s.heap.objs.size,x,rfl,hfr,fun ys hy=>by rw [I.qI hy hq];exact hx,rfl⟩,⟨⟨u,he2⟩, ?_⟩,fun b hb=>(RT b hb).1⟩;obtain ⟨o,ho,c,d⟩:=hit;exact ⟨o,(sb.2 it (Ne.symm hne)).trans ho,c,d⟩
 done:=by
  intro X hP hw hK hc i pins s σ H E I hf st hg;subst hP hw hK;obtain ⟨xs,hq,hx⟩:=hg;obtain ⟨its,rv,p,hz⟩:=I.list hq;obtain ⟨⟨old,he⟩,hi⟩:=st;have hl:=rv.length;exact wpAny_pyNext_enum_end (I.ok.hd hc) he hi p.isList (by simp;omega) fun h' eb=>⟨rfl,I.oO (t':=s.toks) hf (fun b o hb e=>eb b o (fun z=>hb (by simp [z])) e)⟩
 self:=fun _ _ _ _ _ st h=>by
  obtain ⟨⟨old,he⟩,_⟩:=st;exact wpAny_pyIter_enum he h
section
variable {X:Cx}
def X_ (K:PySem.W.Frag) (ta:TA):TI:=fun σ H R=>ta σ H fun vs H1=>∃l xs,vs=[.ref l]/\bH K H1 l xs/\R (Ite K l) H1
theorem Ao:bootBuiltins "enumerate" = some (.type "enumerate"):=by kernel_rfl
theorem LQ {K:PySem.W.Frag} {a:Expr} {ta:TA} {p pos:Pos} {elts:List Expr} {x1:Nat} {tpos:Pos} (hK:X.K=K) (hg:Gl X "enumerate") (hm:X.mg "enumerate" = none) (ha:PA X [a] ta) (hs:starEach [a] X.env=[(false,eval a X.env)]:=by rfl):PI X (.Tuple elts x1 tpos) (.Call (.Name "enumerate" p) [a] [] pos) (X_ K ta):=by
 subst hK;intro pins s σ H R I h;refine Call_ (mX I hg hm Ao (PyProof.Rows.callWith_type1 (dH (ha pos pins s σ H _ I h) fun us s1 ⟨vs,H1,I1,r1,q1⟩=> ?_) hs rfl));obtain ⟨l,xs,e,hq,q⟩:=q1;subst e;cases r1 with
 | cons r rr=>
   cases rr;cases r;obtain ⟨its,rv,pl,hz⟩:=I1.list hq;refine call_enumerate_list pl.isList fun h' hE hI hsz hk=> ?_;refine wpAny_pyIter_enum hE ?_;have I2:Inv X pins σ H1 {s1 with heap:=h'}:=I1.kept (t':=s1.toks) hk;refine ⟨s1.heap.objs.size+1,[s1.heap.objs.size+1,s1.heap.objs.size],_,_,H1,rfl,I2,Je l _ _ (by simp),⟨⟨_,hE⟩,hI⟩,fun b hb=> ?_,q⟩;have hb':b=s1.heap.objs.size+1\/b=s1.heap.objs.size:=by simpa using hb
   rcases hb' with rfl|rfl
   ·exact I1.wD (Nat.le_succ _) (I1.hok.fresh (Nat.le_succ _))
   ·exact I1.wD (Nat.le_refl _) (I1.hok.fresh (Nat.le_refl _))
end
def Itz (K:PySem.W.Frag) (l1 l2:Addr):It:=
 ⟨fun i H=>∃xs ys x y,bH K H l1 xs/\bH K H l2 ys/\xs[i]? = some x/\ys[i]? = some y,
  fun i H x H'=>∃(p:Addr) (y z:V),x = .ref p/\H p=none/\(∀xs,bH K H l1 xs->xs[i]? = some y)/\(∀ys,bH K H l2 ys->ys[i]? = some z)/\H'=upd H p (.tup [y,z]),
  fun i H=>∃xs ys,bH K H l1 xs/\bH K H l2 ys/\(xs.length<=i\/ys.length<=i)⟩
theorem K3 {P:Program} {w:World} {K:PySem.W.Frag} {elts:List Expr} {x1:Nat} {pos:Pos} (z TI TO i1 i2 l1 l2:Addr) (ap:ZipApart z TI TO i1 i2 l1 l2):Turn P w K (.Tuple elts x1 pos) (Itz K l1 l2) [z,TI,TO,i1,i2] z
 (fun i h=>IsZip h z TI TO .none/\IsPair h TI (.ref i1) (.ref i2)/\(∃a b,IsPair h TO a b)/\h.IsListIter i1 l1 i/\h.IsListIter i2 l2 i) where
 mem:=by simp
 obj:=fun i h st b hb=>by
  obtain ⟨hz,hTI,⟨a,c,hTO⟩,⟨o1,h1,c1,d1⟩,⟨o2,h2,c2,d2⟩⟩:=st;have hb':b=z\/b=TI\/b=TO\/b=i1\/b=i2:=by simpa using hb
  rcases hb' with rfl|rfl|rfl|rfl|rfl
  ·exact ⟨_,hz,fun v z=>by cases z⟩
  ·exact ⟨_,hTI,fun v z=>by cases z⟩
  ·exact ⟨_,hTO,fun v z=>by cases z⟩
  ·exact ⟨_,h1,fun v z=>by rw [d1] at z;cases z⟩
  ·exact ⟨_,h2,fun v z=>by rw [d2] at z;cases z⟩
 keep:=fun i h h' st k=>by
  obtain ⟨hz,hTI,⟨a,c,hTO⟩,⟨o1,h1,c1,d1⟩,⟨o2,h2,c2,d2⟩⟩:=st;exact ⟨k z (by simp) _ hz,k TI (by simp) _ hTI,⟨a,c,k TO (by simp) _ hTO⟩,⟨o1,k i1 (by simp) _ h1,c1,d1⟩,⟨o2,k i2 (by simp) _ h2,c2,d2⟩⟩
 item:=by
  intro X hP hw hK hc i pins s σ H E I hf st hg;subst hP hw hK;obtain ⟨xs,ys,x,y,hq1,hq2,hx,hy⟩:=hg;obtain ⟨CZ,PB,p1,hz1⟩:=I.list hq1;obtain ⟨its2,Rq,p2,hz2⟩:=I.list hq2;obtain ⟨u1,hu1,ru1⟩:=PB.get hx;obtain ⟨u2,hu2,ru2⟩:=Rq.get hy;obtain ⟨hz,hTI,⟨a,c,hTO⟩,hi1,hi2⟩:=st;have V1:=Heap.lt_size hz;have VD:=Heap.lt_size hTI;have VB:=Heap.lt_size hTO;have U7:i1<s.heap.objs.size:=by obtain ⟨o,ho,_⟩:=id hi1;exact Heap.lt_size ho
  have U6:i2<s.heap.objs.size:=by obtain ⟨o,ho,_⟩:=id hi2;exact Heap.lt_size ho
  refine wpAny_pyNext_zip_item ap hz hTI hTO hi1 hi2 p1.isList p2.isList (x:=u1) (y:=u2) (by simpa using hu1) (by simpa using hu2) fun h' hz' Vd Vb hi2' hnew hsz hk=> ?_;refine ⟨_,rfl, ?_⟩;refine wpAny_letOwnedTupleGo_zip hz' fun h2 U8 sb=> ?_;have hfr:H s.heap.objs.size=none:=I.hok.fresh (Nat.le_refl _)
  have I0:Inv X pins σ (upd H s.heap.objs.size (.tup [x,y])) {s with heap:=s.heap.push {cls:= .type "tuple",data:= .seq #[u1,u2]}}:=
   I.laid (t':=s.toks) (fun b u e=>Heap.get?_push_of_some _ e) (Nat.le_refl _) ⟨by show 2<=sizeLine;decide,[u1,u2],.cons ru1 (.cons ru2 .nil),⟨_,Heap.get?_push_size _ rfl,rfl,_,rfl⟩⟩
  have RT:∀b∈[z,TI,TO,i1,i2],kY X pins (upd H s.heap.objs.size (.tup [x,y])) b:=fun b hb=>by
   refine (hf b hb).upd ?_;have hb':b=z\/b=TI\/b=TO\/b=i1\/b=i2:=by simpa using hb
   rcases hb' with rfl|rfl|rfl|rfl|rfl
   ·exact Nat.ne_of_lt V1
   ·exact Nat.ne_of_lt VD
   ·exact Nat.ne_of_lt VB
   ·exact Nat.ne_of_lt U7
   ·exact Nat.ne_of_lt U6
  have I1:=I0.oO (h':=h2) (t':=s.toks) RT (fun b o hb eb=>by
   have b1:b≠z:=fun e=>hb (by simp [e]);have b2:b≠TO:=fun e=>hb (by simp [e]);have b3:b≠i1:=fun e=>hb (by simp [e]);have b4:b≠i2:=fun e=>hb (by simp [e]);rw [sb.2 b b1];rcases wC rfl eb with ⟨rfl,rfl⟩|eb
   ·exact hnew
   ·exact hk b o b1 b2 b3 b4 eb)
  refine ⟨.ref s.heap.objs.size,_,I1,rfl,⟨s.heap.objs.size,x,y,rfl,hfr,fun ys hy=>by rw [I.qI hy hq1];exact hx,fun ys' hy'=>by rw [I.qI hy' hq2];exact hy,rfl⟩, ?_,fun b hb=>(RT b hb).1⟩;obtain ⟨o1,ho1,c1,d1⟩:=Vb;obtain ⟨o2,ho2,c2,d2⟩:=hi2';exact ⟨U8,(sb.2 TI ap.TIz).trans (hk TI _ ap.TIz ap.TITO ap.TIi1 ap.TIi2 hTI),⟨_,_,(sb.2 TO ap.TOz).trans Vd⟩,⟨o1,(sb.2 i1 ap.i1z).trans ho1,c1,d1⟩,⟨o2,(sb.2 i2 ap.i2z).trans ho2,c2,d2⟩⟩
 done:=by
  intro X hP hw hK hc i pins s σ H E I hf st hg;subst hP hw hK;obtain ⟨xs,ys,hq1,hq2,hx⟩:=hg;obtain ⟨CZ,PB,p1,hz1⟩:=I.list hq1;obtain ⟨its2,Rq,p2,hz2⟩:=I.list hq2;obtain ⟨hz,hTI,⟨a,c,hTO⟩,hi1,hi2⟩:=st;have hl1:=PB.length;have hl2:=Rq.length;refine wpAny_pyNext_zip_end (I.ok.hd hc) ap hz hTI hTO hi1 hi2 p1.isList p2.isList ?_ fun h' eb=>⟨rfl,I.oO (t':=s.toks) hf (fun b o hb e=>eb b o (fun z=>hb (by simp [z])) (fun z=>hb (by simp [z])) (fun z=>hb (by simp [z])) (fun z=>hb (by simp [z])) e)⟩;rcases hx with hx|hx
  ·exact .inl (by simp;omega)
  ·exact .inr (by simp;omega)
 self:=fun _ _ _ _ _ st h=>wpAny_pyIter_zip st.1 h
section
variable {X:Cx}
end
end L2
set_option Elab.async false
set_option linter.all false
set_option maxRecDepth 100000
set_option maxHeartbeats 4000000
namespace L2
open PySem PySem.Spec PyProof.Rows
section
variable {K:PySem.W.Frag} {a l1 l2 D:Addr} {xs ys:List V} {g:TG} {tc:TT} {te:TE} {Q:VK} {σ0:St} {H1:Hp}
theorem N_ {n:Nat} (hn1:xs.length=n) (hn2:ys.length=n) (Pv:Nat->St->Hp->Prop) (h0:Pv 0 σ0 (upd H1 D (.lst []))) (hl:∀i σ H,i<=n->Pv i σ H->bH K H l1 xs/\bH K H l2 ys)
 (hs:∀i x y σ H p,xs[i]? = some x->ys[i]? = some y->Pv i σ H->H p=none->g (.ref p) σ (upd H p (.tup [x,y])) fun σ2 H2=>tc σ2 H2 fun b H3=>
   if b=true then te σ2 H3 fun y H4=>∃acc,H4 D=some (.lst acc)/\acc.length<sizeLine/\Pv (i+1) σ2 (upd H4 D (.lst (acc++[y]))) else Pv (i+1) σ2 H3)
 (hd:∀σ H,Pv n σ H->Q (.ref D) H):oM (Itz K l1 l2) g tc te Q D σ0 H1:=by
 refine ⟨fun i m σ H=>m=n - i/\i<=n/\Pv i σ H,⟨n,by simp,Nat.zero_le _,h0⟩, ?_⟩;rintro i m σ H ⟨rfl,hi,p⟩;obtain ⟨q1,q2⟩:=hl i σ H hi p
 by_cases hlt:i<n
 ·refine .inr ⟨⟨xs,ys,xs[i],ys[i],q1,q2,by simp [hn1,hlt],by simp [hn2,hlt]⟩,Pv (i+1),fun σ' H' p'=>⟨n - (i+1),by omega,rfl,hlt,p'⟩,fun x H' y=> ?_⟩
  obtain ⟨t,z,u,rfl,ht,hz,hu,rfl⟩:=y;exact hs i z u σ _ t (hz xs q1) (hu ys q2) p ht
 ·have e:i=n:=by omega
  subst e;exact .inl ⟨⟨xs,ys,q1,q2,.inl (by omega)⟩,hd σ H p⟩
end
section
variable {K:PySem.W.Frag} {a l1 l2:Addr} {xs ys:List V} {g:TG} {tb:TS} {D:Ends} {σ:St} {H:Hp}
theorem NK (Pv:Nat->St->Hp->Prop) (h0:Pv 0 σ H) (hl:∀i σ H,i<=xs.length->Pv i σ H->bH K H a xs)
 (hs:∀i x σ H p,xs[i]? = some x->Pv i σ H->H p=none->g (.ref p) σ (upd H p (.tup [.int i,x])) fun σ2 H2=>tb {D with nx:=Pv (i+1),ct:=Pv (i+1),bk:=D.nx} σ2 H2) (hd:∀σ H,Pv xs.length σ H->D.nx σ H):
 ∃W:Nat->Nat->St->Hp->Prop,(∃m,W 0 m σ H) /\ ∀i m σ H,W i m σ H ->
  ((Ite K a).stop i H/\D.nx σ H)\/((Ite K a).go i H /\ ∃N:St->Hp->Prop,(∀σ' H',N σ' H' -> ∃m',m'<m/\W (i+1) m' σ' H') /\ ∀x H',(Ite K a).V2 i H x H'->g x σ H' fun σ2 H2=>tb {D with nx:=N,ct:=N,bk:=D.nx} σ2 H2):=by
 refine ⟨fun i m σ H=>m=xs.length - i/\i<=xs.length/\Pv i σ H,⟨xs.length,by simp,Nat.zero_le _,h0⟩, ?_⟩;rintro i m σ H ⟨rfl,hi,p⟩;have q:=hl i σ H hi p
 by_cases hlt:i<xs.length
 ·refine .inr ⟨⟨xs,xs[i],q,by simp [hlt]⟩,Pv (i+1),fun σ' H' p'=>⟨xs.length - (i+1),by omega,rfl,hlt,p'⟩,fun x H' y=> ?_⟩
  obtain ⟨t,z,rfl,ht,hz,rfl⟩:=y;exact hs i z σ _ t (hz xs q) p ht
 ·have e:i=xs.length:=by omega
  subst e;exact .inl ⟨⟨xs,q,Nat.le_refl _⟩,hd σ H p⟩
end
section
variable {X:Cx}
theorem Bo:∀{ns:List Int} {us:List Value},Vals (ns.map V.int) us->IntsAre us ns
 | [],us,r=>by cases r;exact .nil
 | n::ns,us,r=>by
   cases r with
   | cons r rs=>
     obtain ⟨t,rfl⟩:=r;exact .cons n t (Bo rs)
def P_:V->List V->Hp->VK->Prop:=fun x vs H Q=>∃(l:Addr) (ns:List Int) (i:Int),x = .ref l/\vs=[.int i]/\bH X.K H l (ns.map V.int)/\Q (.int (ns.count i)) H
theorem M_:Zy X "list.count" (P_ (X:=X)):=by
 intro pins s σ H x vs v us Q I rx rv h;obtain ⟨l,ns,i,rfl,rfl,hq,q⟩:=h;cases rx;obtain ⟨u,rfl,ru⟩:=rv.one;obtain ⟨t,rfl⟩:=ru;obtain ⟨its,r',pl,hz⟩:=I.list hq;exact count_list_ints pl.isList (Bo r') ⟨.int _,H,I.tok _,⟨_,rfl⟩,q⟩
theorem zU {K:PySem.W.Frag} {T name id:String} {r:V->List V->Hp->VK->Prop} {o e:Expr} {es:List Expr} {to:TE} {t:TA} {apos cpos:Pos} (h:X.K=K) (pa:PlainAttrs T) (slot:Slot T name id) (hty:typeOf (.builtin id)=pure (.type "method_descriptor")) (hm:Zy X id r) (ho:PE X o to) (ha:PA X (e::es) t)
 (hbase:attributeBase o name X.env (eval o X.env)=eval o X.env:=by rfl)
 (hfew:((backTo cpos (starEach (e::es) X.env)).all (fun x=> !x.1)&&(backToKw cpos (keywordEach [] X.env)).all (fun x=>x.1.isSome)
   && decide ((e::es).length+([]:List Keyword).length+(if ([]:List Keyword).isEmpty then 0 else 1)<30))=true:=by rfl)
 (hline:(apos.endLine==cpos.line)=true:=by rfl) (hs:starEach (e::es) X.env=(false,eval e X.env)::starEach es X.env:=by rfl) (hplain:(backTo cpos (starEach es X.env)).any (·.1)=false:=by rfl):
 PE X (.Call (.Attribute o name apos) (e::es) [] cpos) (tBM K T r to t):=by
 subst h;exact Ru pa slot hty hm ho ha hbase hfew hline hs hplain
def T_ (K:PySem.W.Frag):V->List V->Hp->VK->Prop:=fun x vs H Q=>∃(l:Addr) (ns:List Int) (i:Int),x = .ref l/\vs=[.int i]/\bH K H l (ns.map V.int)/\Q (.int (ns.count i)) H
theorem JC {K:PySem.W.Frag} (h:X.K=K):Zy X "list.count" (T_ K):=by subst h;exact M_
theorem Hv {K:PySem.W.Frag} {es:List Expr} {k:Nat} {t:Sv} {n:Nat} {pos:Pos} (hK:X.K=K) (hc:X.calm=true) (h:Zx X es t)
 (hn:(assignEach es X.env).length=n:=by rfl) (hst:(assignEach es X.env).findIdx? (·.1)=none:=by rfl):PG X (.Tuple es k pos) (QM K n t):=by subst hK;exact Ug hc h hn hst
end
end L2
set_option Elab.async false
set_option linter.all false
set_option maxRecDepth 100000
set_option maxHeartbeats 4000000
namespace L2
open PySem
section
variable {K:PySem.W.Frag} {a D:Addr} {xs:List V} {tc:TT} {te:TE} {Q:VK} {rest:St} {H1:Hp}
theorem eY {α:Type} (f:Nat->Option α) (n:Nat):(List.range (n+1)).filterMap f=(List.range n).filterMap f++(f n).toList:=by
 rw [List.range_succ,List.filterMap_append];cases h:f n<;>simp [h]
theorem wG {α:Type} (f:Nat->Option α) (n:Nat):((List.range n).filterMap f).length<=n:=by
 have:=List.length_filterMap_le f (List.range n);simpa using this
theorem Same.newly {H H1:Hp} {D:Addr} {o:HO} (h:Same H H1) (n:H D=none):Same H (upd H1 D o):=fun b u e=>by rw [aF (aD e n)];exact h b u e
theorem lN (f:Nat->Option V) (hD:H1 D=none) (hq:bH K H1 a xs) (hx:xs.length<=100000)
 (hs:∀i x H (G:Hp->Prop) (F:VK),xs[i]? = some x->Same H1 H->(∀H',Same H H'->f i=none->G H')->(∀y H',Same H H'->f i=some y->F y H')->tc (some x::rest) H fun b H3=>if b=true then te (some x::rest) H3 F else G H3)
 (hd:∀H,Same H1 H->H D=some (.lst ((List.range xs.length).filterMap f))->Q (.ref D) H):oM (Sx K a) (iV 0) tc te Q D (none::rest) H1:=by
 refine lO (K:=K) (xs:=xs) (fun i σ H=>(∃v,σ=v::rest)/\Same H1 H/\H D=some (.lst ((List.range i).filterMap f))) ⟨⟨none,rfl⟩,aL hD,aq⟩ (fun i σ H _ ⟨_,sm,_⟩=>sm.ZQ _ _ hq) ?_ (fun σ H ⟨_,sm,e⟩=>hd H sm e);rintro i x σ H hi ⟨⟨v,rfl⟩,sm,e⟩;have hil:i<xs.length:=(List.getElem?_eq_some_iff.mp hi).1;refine hs i x H _ _ hi sm (fun H3 s3 ef=>⟨⟨_,rfl⟩,sm.trans s3,by rw [s3 _ _ e,eY,ef];simp⟩) (fun y H4 s4 ef=> ?_);refine ⟨_,s4 _ _ e, ?_,⟨_,rfl⟩,(sm.trans s4).newly hD, ?_⟩
 ·have:=wG f i
  rw [sizeLine_eq];omega
 ·rw [aq,eY,ef];rfl
theorem jM {n:Nat} (f:Nat->Option V) (hD:H1 D=none) (hx:n<=100000)
 (hs:∀i H (G:Hp->Prop) (F:VK),i<n->Same H1 H->(∀H',Same H H'->f i=none->G H')->(∀y H',Same H H'->f i=some y->F y H')->tc (some (.int (0+i))::rest) H fun b H3=>if b=true then te (some (.int (0+i))::rest) H3 F else G H3)
 (hd:∀H,Same H1 H->H D=some (.lst ((List.range n).filterMap f))->Q (.ref D) H):oM (Rj 0 n) (iV 0) tc te Q D (none::rest) H1:=by
 refine p7 (lo:=0) (n:=n) (fun i σ H=>(∃v,σ=v::rest)/\Same H1 H/\H D=some (.lst ((List.range i).filterMap f))) ⟨⟨none,rfl⟩,aL hD,aq⟩ ?_ (fun σ H ⟨_,sm,e⟩=>hd H sm e);rintro i σ H hi ⟨⟨v,rfl⟩,sm,e⟩;refine hs i H _ _ hi sm (fun H3 s3 ef=>⟨⟨_,rfl⟩,sm.trans s3,by rw [s3 _ _ e,eY,ef];simp⟩) (fun y H4 s4 ef=> ?_);refine ⟨_,s4 _ _ e, ?_,⟨_,rfl⟩,(sm.trans s4).newly hD, ?_⟩
 ·have:=wG f i
  rw [sizeLine_eq];omega
 ·rw [aq,eY,ef];rfl
theorem JV {l1 l2:Addr} {ys:List V} {n:Nat} (hn1:xs.length=n) (hn2:ys.length=n) (f:Nat->Option V) (hD:H1 D=none) (hq1:bH K H1 l1 xs) (hq2:bH K H1 l2 ys) (hx:n<=100000)
 (hs:∀i x y H (G:Hp->Prop) (F:VK),xs[i]? = some x->ys[i]? = some y->Same H1 H->(∀H',Same H H'->f i=none->G H')->(∀y H',Same H H'->f i=some y->F y H')->tc (some x::some y::rest) H fun b H3=>if b=true then te (some x::some y::rest) H3 F else G H3)
 (hd:∀H,Same H1 H->H D=some (.lst ((List.range n).filterMap f))->Q (.ref D) H):oM (Itz K l1 l2) (QM K 2 (Dg (iV 0) (Dg (iV 1) Ve))) tc te Q D (none::none::rest) H1:=by
 refine N_ (K:=K) (xs:=xs) (ys:=ys) hn1 hn2 (fun i σ H=>(∃u v,σ=u::v::rest)/\Same H1 H/\H D=some (.lst ((List.range i).filterMap f))) ⟨⟨none,none,rfl⟩,aL hD,aq⟩ (fun i σ H _ ⟨_,sm,_⟩=>⟨sm.ZQ _ _ hq1,sm.ZQ _ _ hq2⟩) ?_ (fun σ H ⟨_,sm,e⟩=>hd H sm e);rintro i x y σ H p hix hiy ⟨⟨u,v,rfl⟩,sm,e⟩ hp;have sp:=aL (o:=HO.tup [x,y]) hp;refine ⟨p,[x,y],rfl,dg.of aq,rfl,_,_,rfl,_,_,rfl,rfl, ?_⟩;have hil:i<xs.length:=(List.getElem?_eq_some_iff.mp hix).1;refine hs i x y _ _ _ hix hiy (sm.trans sp) (fun H3 s3 ef=>⟨⟨_,_,rfl⟩,(sm.trans sp).trans s3,by rw [s3 _ _ (sp _ _ e),eY,ef];simp⟩) (fun y H4 s4 ef=> ?_);refine ⟨_,s4 _ _ (sp _ _ e), ?_,⟨_,_,rfl⟩,((sm.trans sp).trans s4).newly hD, ?_⟩
 ·have:=wG f i
  rw [sizeLine_eq];omega
 ·rw [aq,eY,ef];rfl
theorem wH {α β:Type} {f g:α->Option β}:∀(l:List α) (_:True) (h:∀x∈l,f x=g x),l.filterMap f=l.filterMap g
 | [],_,_=>rfl
 | x::l,_,h=>by
   rw [List.filterMap_cons,List.filterMap_cons,h x (by simp),wH l trivial fun y hy=>h y (by simp [hy])]
theorem snocInd {α:Type} {P:List α->Prop} (h0:P []) (hs:∀xs x,P xs->P (xs++[x])) (xs:List α):P xs:=by
 rw [←List.reverse_reverse xs]
 induction xs.reverse with
 | nil=>exact h0
 | cons x l ih=>rw [List.reverse_cons];exact hs _ _ ih
theorem qQ {α β:Type} (xs:List α) (g:α->β):(List.range xs.length).filterMap (fun i=>(xs[i]?).map g)=xs.map g:=by
 refine snocInd (P:=fun xs=>(List.range xs.length).filterMap (fun i=>(xs[i]?).map g)=xs.map g) rfl (fun xs x ih=> ?_) xs
 ·show (List.range (xs++[x]).length).filterMap (fun i=>((xs++[x])[i]?).map g)=(xs++[x]).map g
  rw [List.length_append,List.length_singleton,eY,List.map_append];congr 1
  ·rw [←ih]
   refine wH _ trivial fun i hi=> ?_;have:i<xs.length:=by simpa using hi
   rw [List.getElem?_append_left this]
  ·simp
end
end L2
namespace L2
open PySem
section
variable {X:Cx} {K:PySem.W.Frag}
end
end L2
namespace L2
open PySem
theorem qC {a b:TS} {D:Ends} {σ:St} {H:Hp} (h:∀R:St->Hp->Prop,(∀σ' H',b D σ' H'->R σ' H')->a {D with nx:=R} σ H):Pn a b D σ H:=h _ (fun _ _ x=>x)
theorem uR {a b:TS} {D:Ends} {σ:St} {H:Hp} (P:St->Hp->Prop) (h1:∀D':Ends,(∀σ' H',P σ' H'->D'.nx σ' H')->D'.rt=D.rt->a D' σ H) (h2:∀σ' H',P σ' H'->b D σ' H'):Pn a b D σ H:=h1 _ h2 rfl
end L2
namespace L2
open PySem PySem.Spec PyProof.Rows
section
variable {X:Cx} {K:PySem.W.Frag} {a:Expr} {ta:TE} {pos:Pos}
end
end L2
set_option Elab.async false
set_option linter.all false
set_option maxRecDepth 100000
set_option maxHeartbeats 4000000
namespace L2
open PySem PySem.Spec PyProof.Rows
section
variable {X:Cx} {K:PySem.W.Frag}
def Xe:R2:=fun x y H Q=>∃a b,x = .bl a/\y = .bl b/\Q (.bl (!(a==b))) H
theorem Qk:qe X (compareOp .IsNot) Xe:=by
 intro pins s σ H x y v u Q I rx ry h;obtain ⟨a,b,rfl,rfl,q⟩:=h;cases rx;cases ry;exact isnot_bool (cu I q rfl)
end
section
variable {K:PySem.W.Frag} {a D:Addr} {xs:List V} {te:TE} {Q:VK} {rest:St} {H1:Hp}
theorem jL {H:Hp} {vs:List V} {ds:List PyData} {v:V} {d:PyData} (h:aO H vs ds) (hd:Dat H v d):aO H (vs++[v]) (ds++[d]):=aO.append h (by simp only [aO,and_true];exact hd)
end
end L2
set_option Elab.async false
set_option linter.all false
namespace L2
open PySem
def Gv (mg:Str->Option Value) (x:Str) (v:V):Prop:=∃u,mg x=some u/\RelV v u
end L2
set_option Elab.async false
set_option linter.all false
set_option maxRecDepth 100000
set_option maxHeartbeats 4000000
namespace L2
open PySem PySem.Spec PyProof.Rows
section
variable {prog:Program} {w:World} {K:Type} [DecidableEq K] {knd:HeapKind prog w K}
end
section
variable {X:Cx} {o e f:Expr} {td ty tx:TE} {apos cpos:Pos}
end
end L2
namespace L2
open PySem PySem.Spec PyProof.Rows
section
variable {X:Cx} {K:PySem.W.Frag}
end
end L2
namespace L2
open PySem
end L2
set_option Elab.async false
set_option linter.all false
set_option maxRecDepth 100000
set_option maxHeartbeats 4000000
namespace L2
open PySem PySem.Spec PyProof.Rows
section
variable {X:Cx} {K:PySem.W.Frag}
end
def cat:List Str->Str
 | []=>Str.empty
 | x::xs=>x++cat xs
end L2
set_option Elab.async false
set_option linter.all false
set_option maxRecDepth 100000
set_option maxHeartbeats 4000000
namespace L2
open PySem PySem.Spec PyProof.Rows
section
variable {X:Cx} {body suite:List Stmt} {b0:Stmt} {cn:Str} {Dc:Addr} {tb:(St->XK)->TS} {th:TS} {cp hpos pos:Pos}
end
end L2
namespace L2
open PySem PySem.Spec PyProof.Rows
section
variable {X:Cx}
end
end L2
set_option Elab.async false
set_option linter.all false
set_option maxRecDepth 100000
set_option maxHeartbeats 4000000
namespace L2
open PySem PySem.Spec PyProof.Rows
section
variable {X:Cx} {pins:List (Addr×Obj)} {σ:St} {H:Hp} {s:Shared} {d:Addr} {u u':HO}
end
section
variable {X:Cx} {tg:Expr}
end
section
variable {d D:Addr} {o:Obj} {kvs:List (Key×V)} {tc:TT} {te:TE} {Q:VK} {rest:St} {H1:Hp}
end
end L2
set_option Elab.async false
set_option linter.all false
set_option maxRecDepth 100000
set_option maxHeartbeats 4000000
namespace L2
open PySem PySem.Spec PyProof.Rows
section
variable {X:Cx} {tg:Expr}
end
end L2
set_option Elab.async false
set_option linter.all false
set_option maxRecDepth 100000
set_option maxHeartbeats 4000000
namespace L2
open PySem PySem.Spec PyProof.Rows
section
variable {X:Cx} {tg:Expr}
theorem Bm:∀(f:Nat->Int) (l:List Value) (n:Nat),l.length=n->(∀k v,l[k]? = some v -> ∃t,v=Value.int (f k) t)->Vals ((List.range n).map fun k=>V.int (f k)) l
 | f,[],n,hn,_=>by
   have:n=0:=by simpa using hn.symm
   subst this;exact .nil
 | f,v::l,n,hn,h=>by
   have:n=l.length+1:=by simpa using hn.symm
   subst this;rw [List.range_succ_eq_map,List.map_cons,List.map_map];obtain ⟨t,e⟩:=h 0 v rfl;exact .cons ⟨t,e⟩ (Bm (fun k=>f (k+1)) l _ rfl fun k u hu=>h (k+1) u hu)
end
end L2
set_option Elab.async false
set_option linter.all false
set_option maxRecDepth 100000
set_option maxHeartbeats 4000000
namespace L2
open PySem PySem.Spec PyProof.Rows
section
variable {X:Cx}
end
end L2
set_option Elab.async false
set_option linter.all false
set_option maxRecDepth 100000
set_option maxHeartbeats 4000000
namespace L2
open PySem PySem.Spec PyProof.Rows
section
variable {H H':Hp}
mutual
theorem Dat.same (k:Same H H'):∀(d:PyData) {v:V},Dat H v d->Dat H' v d
 | .none,_,h=>by simp only [Dat] at h ⊢;exact h
 | .bool _,_,h=>by simp only [Dat] at h ⊢;exact h
 | .int _,_,h=>by simp only [Dat] at h ⊢;exact h
 | .str _,_,h=>by simp only [Dat] at h ⊢;exact h
 | .list ds,_,h=>by simp only [Dat] at h ⊢;obtain ⟨a,vs,e,q,r⟩:=h;exact ⟨a,vs,e,k _ _ q,aO.same k ds r⟩
 | .tuple ds,_,h=>by simp only [Dat] at h ⊢;obtain ⟨a,vs,e,q,r⟩:=h;exact ⟨a,vs,e,k _ _ q,aO.same k ds r⟩
 | .dict _,_,h=>by simp only [Dat] at h
theorem aO.same (k:Same H H'):∀(ds:List PyData) {vs:List V},aO H vs ds->aO H' vs ds
 | [],[],_=>by simp only [aO]
 | d::ds,v::vs,h=>by simp only [aO] at h ⊢;exact ⟨Dat.same k d h.1,aO.same k ds h.2⟩
 | _::_,[],h=>by simp only [aO] at h
 | [],_::_,h=>by simp only [aO] at h
end
end
section
variable {X:Cx} {K:PySem.W.Frag}
inductive Zu (H:Hp):V->Value->Prop where
 | int (i:Int):Zu H (.int i) (.type "int")
 | lst {a:Addr} {xs:List V} (e:H a=some (.lst xs)):Zu H (.ref a) (.type "list")
 | tup {a:Addr} {xs:List V} (e:H a=some (.tup xs)):Zu H (.ref a) (.type "tuple")
def Xi (K:PySem.W.Frag):List V->Hp->VK->Prop:=fun xs H Q=>∃(x:V) (t:Value) (p:Addr) (ns:List String) (b:Bool),xs=[x,.ref p]/\Zu H x t/\H p=some (.tup (ns.map V.ty))/\PySem.W.kitAny K t (ns.map Value.type)=some b/\Q (.bl b) H
theorem pK {ns:List String}:∀{us:List Value},Vals (ns.map V.ty) us->us=ns.map Value.type:=by
 induction ns with
 | nil=>intro us r;cases r;rfl
 | cons c cs ih=>
   intro us r;cases r with
   | cons r rs=>cases (show _=Value.type c from r);rw [ih rs];rfl
theorem Gh (hk:X.K=K):iw X (.builtin "isinstance") (Xi K):=by
 subst hk;intro pins s σ H xs us Q I r h;obtain ⟨x,t,p,ns,b,rfl,ty,hp,e,q⟩:=h;obtain ⟨u,w',rfl,r1,r2⟩:=vals2 r;cases (show w'=Value.ref p from r2);obtain ⟨its,rv,⟨o,ho,hc,m,hd⟩,hz⟩:=I.tuple (dg.of hp);have ei:=pK rv;subst ei;obtain ⟨c0,d0,dt,sl⟩:=o;simp only at hc hd;subst hc hd;cases ty with
 | int i=>obtain ⟨t,q1⟩:=(show ∃t,u=Value.int i t from r1);cases q1;exact PySem.W.kia_tup PySem.W.kitx_int I.oA True.intro ho e (fun z=>nomatch z) fun tk=>⟨.bl b,H,I.tok _,rfl,q⟩
 | @lst a xs ea=>
   cases (show u=Value.ref a from r1);obtain ⟨_,_,n,_,h1⟩:=(show fM X.prog X.w H s.heap a (.lst xs) from I.hok a _ ea);exact PySem.W.kia_tup PySem.W.kitx_list I.oA ⟨_,h1,rfl⟩ ho e (fun z=>nomatch z) fun tk=>⟨.bl b,H,I.tok _,rfl,q⟩
 | @tup a xs ea=>
   cases (show u=Value.ref a from r1);obtain ⟨_,_,_,p⟩:=(show fM X.prog X.w H s.heap a (.tup xs) from I.hok a _ ea);obtain ⟨o,h1,h2,_⟩:=p;exact PySem.W.kia_tup PySem.W.kitx_tuple I.oA ⟨o,h1,h2⟩ ho e (fun z=>nomatch z) fun tk=>⟨.bl b,H,I.tok _,rfl,q⟩
theorem DN (K:PySem.W.Frag):PySem.W.kitAny K (.type "list") (["list","tuple"].map Value.type)=some true:=by kernel_rfl
theorem Az (K:PySem.W.Frag):PySem.W.kitAny K (.type "tuple") (["list","tuple"].map Value.type)=some true:=by kernel_rfl
theorem Gx (K:PySem.W.Frag):PySem.W.kitAny K (.type "int") (["list","tuple"].map Value.type)=some false:=by kernel_rfl
theorem oE (K:PySem.W.Frag):PySem.W.kitOne K (.type "tuple") (.type "list")=some false:=by kernel_rfl
theorem oF (K:PySem.W.Frag):PySem.W.kitOne K (.type "list") (.type "tuple")=some false:=by kernel_rfl
end
section
variable {K:PySem.W.Frag} {a D:Addr} {xs:List V} {tc:TT} {te:TE} {Q:VK} {rest:St} {H1:Hp}
end
section
variable {X:Cx}
end
end L2
set_option Elab.async false
set_option linter.all false
set_option maxRecDepth 100000
set_option maxHeartbeats 4000000
namespace L2
open PySem PySem.Spec PyProof.Rows
section
variable {X:Cx} {K:PySem.W.Frag} {e st:Expr} {te tk:TE} {pos p2:Pos}
end
end L2
set_option Elab.async false
set_option linter.all false
set_option maxRecDepth 100000
set_option maxHeartbeats 4000000
namespace L2
open PySem PySem.Spec PyProof.Rows
section
variable {H:Hp}
mutual
theorem Dat.fn:∀(d e:PyData) {v:V},Dat H v d->Dat H v e->d=e
 | .none,e,v,h,g=>by cases e<;>simp only [Dat] at h g<;>first |rfl|(subst h;first |(obtain ⟨_,_,z,_⟩:=g;cases z;done)|(cases g;done))
 | .bool _,e,v,h,g=>by cases e<;>simp only [Dat] at h g<;>first |(subst h;first |(injection g with g;rw [g];done)|(obtain ⟨_,_,z,_⟩:=g;cases z;done)|(cases g;done))
 | .int _,e,v,h,g=>by cases e<;>simp only [Dat] at h g<;>first |(subst h;first |(injection g with g;rw [g];done)|(obtain ⟨_,_,z,_⟩:=g;cases z;done)|(cases g;done))
 | .str _,e,v,h,g=>by cases e<;>simp only [Dat] at h g<;>first |(subst h;first |(injection g with g;rw [g];done)|(obtain ⟨_,_,z,_⟩:=g;cases z;done)|(cases g;done))
 | .list ds,.list es,v,h,g=>by
   simp only [Dat] at h g;obtain ⟨a,vs,rfl,ha,da⟩:=h;obtain ⟨b,ws,e,hb,db⟩:=g;injection e with e
   subst e;rw [ha] at hb;injection hb with hb
   injection hb with hb
   subst hb;rw [aO.fn ds es da db]
 | .tuple ds,.tuple es,v,h,g=>by
   simp only [Dat] at h g;obtain ⟨a,vs,rfl,ha,da⟩:=h;obtain ⟨b,ws,e,hb,db⟩:=g;injection e with e
   subst e;rw [ha] at hb;injection hb with hb
   injection hb with hb
   subst hb;rw [aO.fn ds es da db]
 | .list ds,.tuple es,v,h,g=>by
   simp only [Dat] at h g;obtain ⟨a,vs,rfl,ha,da⟩:=h;obtain ⟨b,ws,e,hb,db⟩:=g;injection e with e
   subst e;rw [ha] at hb;injection hb with hb
   cases hb
 | .tuple ds,.list es,v,h,g=>by
   simp only [Dat] at h g;obtain ⟨a,vs,rfl,ha,da⟩:=h;obtain ⟨b,ws,e,hb,db⟩:=g;injection e with e
   subst e;rw [ha] at hb;injection hb with hb
   cases hb
 | .list ds,.none,v,h,g=>by simp only [Dat] at h g;obtain ⟨a,vs,rfl,_⟩:=h;cases g
 | .list ds,.bool _,v,h,g=>by simp only [Dat] at h g;obtain ⟨a,vs,rfl,_⟩:=h;cases g
 | .list ds,.int _,v,h,g=>by simp only [Dat] at h g;obtain ⟨a,vs,rfl,_⟩:=h;cases g
 | .list ds,.str _,v,h,g=>by simp only [Dat] at h g;obtain ⟨a,vs,rfl,_⟩:=h;cases g
 | .tuple ds,.none,v,h,g=>by simp only [Dat] at h g;obtain ⟨a,vs,rfl,_⟩:=h;cases g
 | .tuple ds,.bool _,v,h,g=>by simp only [Dat] at h g;obtain ⟨a,vs,rfl,_⟩:=h;cases g
 | .tuple ds,.int _,v,h,g=>by simp only [Dat] at h g;obtain ⟨a,vs,rfl,_⟩:=h;cases g
 | .tuple ds,.str _,v,h,g=>by simp only [Dat] at h g;obtain ⟨a,vs,rfl,_⟩:=h;cases g
 | .list ds,.dict _,v,h,g=>by simp only [Dat] at g
 | .tuple ds,.dict _,v,h,g=>by simp only [Dat] at g
 | .dict _,_,v,h,g=>by simp only [Dat] at h
theorem aO.fn:∀(ds es:List PyData) {vs:List V},aO H vs ds->aO H vs es->ds=es
 | [],[],_,_,_=>rfl
 | d::ds,e::es,v::vs,h,g=>by
   simp only [aO] at h g;rw [Dat.fn d e h.1 g.1,aO.fn ds es h.2 g.2]
 | [],_::_,[],_,g=>by simp only [aO] at g
 | [],_::_,_::_,h,_=>by simp only [aO] at h
 | _::_,[],[],h,_=>by simp only [aO] at h
 | _::_,[],_::_,_,g=>by simp only [aO] at g
 | _::_,_::_,[],h,_=>by simp only [aO] at h
end
end
section
variable {X:Cx}
end
end L2
set_option Elab.async false
set_option linter.all false
set_option maxRecDepth 100000
set_option maxHeartbeats 4000000
namespace L2
open PySem PySem.Spec PyProof.Rows
section
variable {X:Cx} {K:PySem.W.Frag} {e e1 e2 l:Expr} {te t1 t2 tl:TE} {pos:Pos} {tg:Expr}
end
section
variable {X:Cx}
end
end L2
set_option Elab.async false
set_option linter.all false
set_option maxRecDepth 100000
set_option maxHeartbeats 4000000
namespace L2
open PySem PySem.Spec PyProof.Rows PySem.Builtin PySem.Builtin.Str
section
variable {X:Cx} {K:PySem.W.Frag}
def Its (x:Str):It:=⟨fun i _=>i<x.cps.size,fun i H v H'=>H'=H /\ ∃c,x.cps[i]? = some c/\v = .str ⟨#[c]⟩,fun i _=>x.cps.size<=i⟩
theorem K4 {P:Program} {w:World} {K:PySem.W.Frag} {tg:Expr} (x:Str) (t:Tok) (it:Addr):Turn P w K tg (Its x) [it] it (fun i h=>i<=x.cps.size/\(h.IsStrIter it "str_ascii_iterator" x t i\/h.IsStrIter it "str_iterator" x t i)) where
 mem:=by simp
 obj:=fun i h st b hb=>by
  have e:b=it:=by simpa using hb
  subst e;rcases st.2 with ⟨o,e,c,d⟩|⟨o,e,c,d⟩
  ·exact ⟨o,e,fun v z=>by rw [d] at z;cases z⟩
  ·exact ⟨o,e,fun v z=>by rw [d] at z;cases z⟩
 keep:=fun i h h' st k=>⟨st.1,st.2.imp (fun ⟨o,e,r⟩=>⟨o,k it (by simp) o e,r⟩) (fun ⟨o,e,r⟩=>⟨o,k it (by simp) o e,r⟩)⟩
 item:=by
  intro X hP hw hK hc i pins s σ H E I hf st hg;subst hP hw hK;have hi:i<x.cps.size:=hg;have hx:x.cps[i]? = some x.cps[i]:=by simp [hi]
  obtain ⟨f0,f1,f2,f3,f4,f5⟩:=hf it (by simp);rcases st.2 with st|st
  ·refine wpAny_pyNext_ascii_item st hx fun h' st' sb=> ?_
   have I1:Inv X pins σ H {s with heap:=h',toks:=s.toks+1}:=I.turned (t':=s.toks+1) (fun b o hb e=>(sb.2 b hb).trans e) f0 f1 f3 f4 f5;obtain ⟨o,e,c,d⟩:=id st';exact ⟨_,rfl,Ih (s:={s with heap:=h',toks:=s.toks+1}) e c d (by decide) ⟨.str ⟨#[x.cps[i]]⟩,H,I1,⟨_,rfl⟩,⟨rfl,_,hx,rfl⟩,⟨hi,.inl st'⟩,fun b hb=>(hf b hb).1⟩⟩
  ·refine wpAny_pyNext_wide_item st hx fun h' st' sb=> ?_
   have I1:Inv X pins σ H {s with heap:=h',toks:=s.toks+1}:=I.turned (t':=s.toks+1) (fun b o hb e=>(sb.2 b hb).trans e) f0 f1 f3 f4 f5;obtain ⟨o,e,c,d⟩:=id st';exact ⟨_,rfl,Ih (s:={s with heap:=h',toks:=s.toks+1}) e c d (by decide) ⟨.str ⟨#[x.cps[i]]⟩,H,I1,⟨_,rfl⟩,⟨rfl,_,hx,rfl⟩,⟨hi,.inr st'⟩,fun b hb=>(hf b hb).1⟩⟩
 done:=by
  intro X hP hw hK hc i pins s σ H E I hf st hg;subst hP hw hK;have hx:x.cps[i]? = none:=by simpa using (show x.cps.size<=i from hg)
  obtain ⟨f0,f1,f2,f3,f4,f5⟩:=hf it (by simp);rcases st.2 with st|st
  ·exact wpAny_pyNext_ascii_end (I.ok.hd hc) st hx fun h' eb=>⟨rfl,I.turned (t':=s.toks) (fun b o hb e=>eb b o hb e) f0 f1 f3 f4 f5⟩
  ·exact wpAny_pyNext_wide_end (I.ok.hd hc) st hx fun h' eb=>⟨rfl,I.turned (t':=s.toks) (fun b o hb e=>eb b o hb e) f0 f1 f3 f4 f5⟩
 self:=fun _ _ _ _ _ st h=>st.2.elim (fun st=>wpAny_pyIter_striter_ascii st h) (fun st=>wpAny_pyIter_striter_wide st h)
def afe (tl:TE):TI:=fun σ H R=>tl σ H fun x H1=>∃a,x = .str a/\R (Its a) H1
theorem Ue {tg l:Expr} {tl:TE} (hl:PE X l tl):PI X tg l (afe tl):=by
 intro pins s σ H R I h;refine dH (hl pins s σ H _ I h) fun v s1 ⟨x,H1,I1,r1,q1⟩=> ?_;obtain ⟨a,rfl,q⟩:=q1;obtain ⟨t,rfl⟩:=r1
 have fin:∀o,(s1.heap.push o).IsStrIter s1.heap.objs.size "str_ascii_iterator" a t 0\/(s1.heap.push o).IsStrIter s1.heap.objs.size "str_iterator" a t 0->PIE X pins σ tg R (.ref s1.heap.objs.size) {s1 with heap:=s1.heap.push o}:=by
  intro o st;refine ⟨s1.heap.objs.size,[s1.heap.objs.size],_,_,H1,rfl,I1.kept (t':=s1.toks) fun b o e=>Heap.get?_push_of_some _ e,K4 a t _,⟨Nat.zero_le _,st⟩,fun b hb=> ?_,q⟩;have e:b=s1.heap.objs.size:=by simpa using hb
  subst e;exact I1.wD (Nat.le_refl _) (I1.hok.fresh (Nat.le_refl _))
 cases ha:a.cps.all (· < 128)
 ·exact wpAny_pyIter_wide ha (fin _ (.inr ⟨_,Heap.get?_push_size _ rfl,rfl,rfl⟩))
 ·exact wpAny_pyIter_ascii ha (fin _ (.inl ⟨_,Heap.get?_push_size _ rfl,rfl,rfl⟩))
end
section
variable {K:PySem.W.Frag} {D:Addr} {tc:TT} {te:TE} {Q:VK} {rest:St} {H1:Hp}
theorem JX {x:Str} {g:TG} {σ0:St} (Pv:Nat->St->Hp->Prop) (h0:Pv 0 σ0 (upd H1 D (.lst [])))
 (hs:∀i c σ H,x.cps[i]? = some c->Pv i σ H->g (.str ⟨#[c]⟩) σ H fun σ2 H2=>tc σ2 H2 fun b H3=>
   if b=true then te σ2 H3 fun y H4=>∃acc,H4 D=some (.lst acc)/\acc.length<sizeLine/\Pv (i+1) σ2 (upd H4 D (.lst (acc++[y]))) else Pv (i+1) σ2 H3)
 (hd:∀σ H,Pv x.cps.size σ H->Q (.ref D) H):oM (Its x) g tc te Q D σ0 H1:=by
 refine ⟨fun i m σ H=>m=x.cps.size - i/\i<=x.cps.size/\Pv i σ H,⟨x.cps.size,by simp,Nat.zero_le _,h0⟩, ?_⟩;rintro i m σ H ⟨rfl,hi,p⟩
 by_cases hlt:i<x.cps.size
 ·refine .inr ⟨hlt,Pv (i+1),fun σ' H' p'=>⟨x.cps.size - (i+1),by omega,rfl,hlt,p'⟩,fun y H' e=> ?_⟩
  obtain ⟨e,c,hc,rfl⟩:=e;subst e;exact hs i c σ _ hc p
 ·have e:i=x.cps.size:=by omega
  subst e;exact .inl ⟨Nat.le_refl _,hd σ H p⟩
theorem JW {x:Str} (f:Nat->Option V) (hD:H1 D=none) (hx:x.cps.size<=100000)
 (hs:∀i c H (G:Hp->Prop) (F:VK),x.cps[i]? = some c->Same H1 H->(∀H',Same H H'->f i=none->G H')->(∀y H',Same H H'->f i=some y->F y H')->tc (some (.str ⟨#[c]⟩)::rest) H fun b H3=>if b=true then te (some (.str ⟨#[c]⟩)::rest) H3 F else G H3)
 (hd:∀H,Same H1 H->H D=some (.lst ((List.range x.cps.size).filterMap f))->Q (.ref D) H):oM (Its x) (iV 0) tc te Q D (none::rest) H1:=by
 refine JX (fun i σ H=>(∃v,σ=v::rest)/\Same H1 H/\H D=some (.lst ((List.range i).filterMap f))) ⟨⟨none,rfl⟩,aL hD,aq⟩ ?_ (fun σ H ⟨_,sm,e⟩=>hd H sm e);rintro i c σ H hi ⟨⟨v,rfl⟩,sm,e⟩;have hil:i<x.cps.size:=(Array.getElem?_eq_some_iff.mp hi).1;refine hs i c H _ _ hi sm (fun H3 s3 ef=>⟨⟨_,rfl⟩,sm.trans s3,by rw [s3 _ _ e,eY,ef];simp⟩) (fun y H4 s4 ef=> ?_);refine ⟨_,s4 _ _ e, ?_,⟨_,rfl⟩,(sm.trans s4).newly hD, ?_⟩
 ·have:=wG f i
  rw [sizeLine_eq];omega
 ·rw [aq,eY,ef];rfl
end
section
variable {X:Cx}
end
end L2
set_option Elab.async false
set_option linter.all false
set_option maxRecDepth 100000
set_option maxHeartbeats 4000000
namespace L2
open PySem PySem.Spec PyProof.Rows PySem.Builtin PySem.Builtin.Str
end L2
set_option Elab.async false
set_option linter.all false
set_option maxRecDepth 100000
set_option maxHeartbeats 4000000
namespace L2
open PySem PySem.Spec PyProof.Rows
section
variable (P:Program) (w:World) (K:PySem.W.Frag) (mg:Str->Option Value) (base:Heap)
def MethAt (k:Nat) (C:Addr) (m:Str) (ps:List Str) (sp:Sp):Prop:=∃f fd,cj P w K mg base jA k f fd ps sp/\Meth K C m f/\Binds K fd ps []
def j_ (k:Nat) (C:Addr) (m:Str) (ps:List Str) (sp:Sp):Prop:=∃f fd,cj P w K mg base (um P w) k f fd ps sp/\Meth K C m f/\Binds K fd ps []
def oJ (k:Nat) (C:Addr) (x:Str) (ps:List Str) (o7:List V) (sp:Sp):Prop:=∃f fd ds,cj P w K mg base jA k f fd ps sp/\Mk K C f/\mg x=some (.ref C)/\Binds K fd ps ds/\Vals o7 ds
def u0 (k:Nat) (C:Addr) (x:Str) (ps:List Str) (o7:List V) (sp:Sp):Prop:=∃f fd ds,cj P w K mg base (um P w) k f fd ps sp/\Mk K C f/\mg x=some (.ref C)/\Binds K fd ps ds/\Vals o7 ds
def Ri (k:Nat) (C:Addr) (x:Str) (ps:List Str) (kn:Str) (sp:Sp):Prop:=∃f fd,cj P w K mg base (um P w) k f fd ps sp/\Mk K C f/\mg x=some (.ref C) /\
 ∀(s:Shared) (us:List Value) (z:Value),K.In s.heap->(us++[z]).length=ps.length->BindsTo s fd ⟨us,[(kn,z)]⟩ (ps.zip (us++[z]))
end
section
variable {P:Program} {w:World} {K:PySem.W.Frag} {mg:Str->Option Value} {base:Heap} {k:Nat} {C:Addr} {m x:Str} {ps:List Str} {sp:Sp} {o7:List V}
theorem cj.calm {f:Addr} {fd:FuncData} (G:cj P w K mg base (um P w) k f fd ps sp):cj P w K mg base jA k f fd ps (fun vs H Q _=>sp vs H Q fun _ _ _=>False):=by
 refine ⟨fun vs H Q E q=>G.len vs H Q _ q,fun A outer s H args us vs Q E hr he hbd hv hs=> ?_⟩;refine codeAny_mono (G.run A outer s H args us vs Q (fun _ _ _=>False) hr he hbd hv hs) fun res s' hq=> ?_
 match res,hq with
 | .error ev,hq=>
   obtain ⟨e,cls,dx,H',_,_,_,_,_,_,_,_,z⟩:=hq;exact z.elim
 | .ok (.ret u),hq=>exact hq
theorem j_.calm (F:j_ P w K mg base k C m ps sp):MethAt P w K mg base k C m ps (fun vs H Q _=>sp vs H Q fun _ _ _=>False):=by
 obtain ⟨f,fd,G,r⟩:=F;exact ⟨f,fd,G.calm,r⟩
theorem u0.calm (F:u0 P w K mg base k C x ps o7 sp):oJ P w K mg base k C x ps o7 (fun vs H Q _=>sp vs H Q fun _ _ _=>False):=by
 obtain ⟨f,fd,ds,G,r⟩:=F;exact ⟨f,fd,ds,G.calm,r⟩
end
section
variable {X:Cx} {k:Nat} {C:Addr} {x m:Str} {ps:List Str} {sp:Sp} {o7:List V} {e o:Expr} {es:List Expr} {ta:TE} {t:TA} {p pos apos:Pos} {E:St->XK}
theorem cT {pl:Sem Bool} (M:MethAt X.prog X.w X.K X.mg X.base k C m ps sp) (c:Cls X.K C) (hr:eV k X.A) (he:PE X o ta) (ha:PA X (e::es) t)
 (hst:starEach (e::es) X.env=(false,eval e X.env)::starEach es X.env:=by rfl) (hpl:(backTo pos (starEach es X.env)).any (·.1)=false:=by rfl)
 (ht:eval (.Call (.Attribute o m apos) (e::es) [] pos) X.env=(do
   let ov ←eval o X.env
   standAt apos.atName
   let (f,first) ←holding [ov] (getMethod ov m pl)
   callWith pos f first (backTo pos (starEach (e::es) X.env)) (backToKw pos (keywordEach [] X.env))):=by rfl):
 PE X (.Call (.Attribute o m apos) (e::es) [] pos) (GX C m sp [] E0 ta t):=by
 obtain ⟨f,fd,G,hm,hb⟩:=M;exact Qg he c hm G hr hb .nil Ck ha hst hpl ht
theorem ig {pl:Sem Bool} (M:MethAt X.prog X.w X.K X.mg X.base k C m ps sp) (c:Cls X.K C) (hr:eV k X.A) (he:PE X o ta)
 (ht:eval (.Call (.Attribute o m apos) [] [] pos) X.env=(do
   let ov ←eval o X.env
   standAt apos.atName
   let (f,first) ←holding [ov] (getMethod ov m pl)
   callWith pos f first (backTo pos (starEach [] X.env)) (backToKw pos (keywordEach [] X.env))):=by rfl):
 PE X (.Call (.Attribute o m apos) [] [] pos) (GX C m sp [] E0 ta vL):=by
 obtain ⟨f,fd,G,hm,hb⟩:=M;exact L_ he c hm G hr hb .nil Ck ht
def Tt (C:Addr) (m:Str) (sp:Sp) (E:St->XK) (ta:TE) (t:TA):TE:=fun σ H Q=>ta σ H fun x H1=>∃a dx fs,x = .ref a/\H1 a=some (.ins C dx fs)/\fs.lookup m=none/\t σ H1 fun vs H2=>sp (x::vs) H2 Q (E σ)
theorem PK {pins:List (Addr×Obj)} {σ:St} {H:Hp} {s:Shared} {Q:VK} {us:List Value} {vs:List V} {f:Addr} {fd:FuncData} (G:cj X.prog X.w X.K X.mg X.base (um X.prog X.w) k f fd ps sp) (hx:X.ex=[]) (R:Rz X E) (hr:eV k X.A) (hb:Binds X.K fd ps [])
 (I:Inv X pins σ H s) (r:Vals vs us) (q:sp vs H Q (E σ)):wpAny (model X.prog X.w) X.A (call (.ref f) us) (EP X pins σ Q) X.xe s:=by
 have hlen:us.length=ps.length:=by rw [←r.length];exact G.len _ _ _ _ q
 have hbd:=hb s us I.oA (by rw [List.append_nil];exact hlen);rw [List.append_nil] at hbd;refine wpAny_call (codeAny_mono (G.run X.A X.stack s H ⟨us,[]⟩ us vs Q (E σ) hr I.env0 hbd r q) fun res s' hq=> ?_)
 match res,hq with
 | .error ev,hq=>exact Hx hx R I hq
 | .ok (.ret u),hq=>exact I.after hq
theorem Ci {pl:Sem Bool} (M:j_ X.prog X.w X.K X.mg X.base k C m ps sp) (c:Cls X.K C) (hx:X.ex=[]) (R:Rz X E) (hr:eV k X.A) (he:PE X o ta) (ha:PA X (e::es) t)
 (hst:starEach (e::es) X.env=(false,eval e X.env)::starEach es X.env:=by rfl) (hpl:(backTo pos (starEach es X.env)).any (·.1)=false:=by rfl)
 (ht:eval (.Call (.Attribute o m apos) (e::es) [] pos) X.env=(do
   let ov ←eval o X.env
   standAt apos.atName
   let (f,first) ←holding [ov] (getMethod ov m pl)
   callWith pos f first (backTo pos (starEach (e::es) X.env)) (backToKw pos (keywordEach [] X.env))):=by rfl):
 PE X (.Call (.Attribute o m apos) (e::es) [] pos) (Tt C m sp E ta t):=by
 obtain ⟨f,fd,G,hm,hb⟩:=M;intro pins s σ H Q I h;refine PySem.W.methodCall_KW (pl:=pl) (dH (he pins s σ H _ I h) fun u s1 ⟨x,H1,I1,rx,a,dx,fs,ex,ea,l,q⟩=> ?_) ht;subst ex;obtain rfl:u=Value.ref a:=rx;refine pZ I1 ea c hm l ?_;refine PySem.W.callWith_K (first:=[.ref a]) (h₀:=X.base) I.ok.mod.O_ hm.kp (dH (ha pos pins s1 σ H1 _ I1 q) fun us s2 ⟨vs,H2,I2,r,q2⟩=>⟨I2.oA, ?_⟩) hst hpl;exact PK (us:= .ref a::us) (vs:= .ref a::vs) G hx R hr hb I2 (.cons rfl r) q2
theorem n_ (M:oJ X.prog X.w X.K X.mg X.base k C x ps o7 sp) (hr:eV (k+1) X.A) (hg:Gl X x) (ha:PA X (e::es) t) (hdb:(x==("__debug__" :Str))=false:=by decide)
 (he:starEach (e::es) X.env=(false,eval e X.env)::starEach es X.env:=by rfl) (hpl:(backTo pos (starEach es X.env)).any (·.1)=false:=by rfl):
 PE X (.Call (.Name x p) (e::es) [] pos) (Ro C sp o7 E0 t):=by
 obtain ⟨f,fd,ds,G,mk,hm,hb,hd⟩:=M;exact Qh mk G hr hg hm hb hd Ck ha hdb he hpl
end
end L2
namespace L2
open PySem PySem.Spec PyProof.Rows PySem.Builtin PySem.Builtin.Str
section
variable {X:Cx} {K:PySem.W.Frag} {o e value:Expr} {f:Str} {pos pos' tpos:Pos} {ta tv:TE}
theorem bK (hK:X.K=K) (he:PE X e ta) (hb:attributeBase e f X.env (eval e X.env)=eval e X.env):PE X (.Attribute e f pos) (WW K ta f):=by subst hK;exact Uk he hb
theorem gY (hK:X.K=K) (ha:PE X o ta) (hv:PE X value tv) (hs:swapsWith value (some (.Attribute o f pos')) pos.line X.env=pure false):PS X (.Assign [.Attribute o f pos'] value pos) (Xb K ta tv f):=by subst hK;exact Ub ha hv hs
theorem vY {op:Operator} {rd:V->V->Hp->VK->Prop} (hK:X.K=K) (ha:PE X o ta) (hv:PE X value tv) (hop:Zz X op rd):PS X (.AugAssign (.Attribute o f tpos) op value pos) (G6 K ta tv rd f):=by subst hK;exact Jl ha hv hop
def Xj:V->List V->Hp->VK->Prop:=fun x vs H Q=>∃(a y:Str) (i:Nat) (r:List Nat),x = .str a/\vs=[.str y]/\occurrences a y 0 a.length 1=i::r/\Q (.int i) H
theorem yL:Zy X "str.index" Xj:=by
 intro pins s σ H x vs v us Q I rx rv h;obtain ⟨a,y,i,r,rfl,rfl,ho,q⟩:=h;obtain ⟨t,rfl⟩:=rx;obtain ⟨u,rfl,ru⟩:=rv.one;obtain ⟨t2,rfl⟩:=ru;exact call_meets PySem.F.slot_str_index (typeIs_str _ _ _) PySem.F.entry_str_index (PySem.F.args_str_index_2 _ _) (gives_str_index a y t t2 i r ho).meets ⟨.int i,H,I.tok _,⟨_,rfl⟩,q⟩
end
structure yt (K:PySem.W.Frag) (x qual:Str) (st:Stmt) (ds:List Value) (f:Addr) (fd:FuncData):Prop where
 ex:∃(oc:Value) (od:Option Addr) (T:Addr) (kV doc pm:Value) (an:Option Addr) (cdv ct:Value) (osl:Array (Option Value)) (tc:Value) (td:Option Addr) (tn:Nat) (Ek:Array (Option Value)),
  fd=PySem.W.fnOf x qual (aJ st) (aH st) (ao st) (.ref T) kV doc pm an cdv ct/\K.lookup f=some ⟨oc,od,.func fd,osl⟩/\PySem.W.codeIn K cdv qual=true/\K.lookup T=some ⟨tc,td,.seq ds.toArray tn,Ek⟩
 kp:PySem.W.keepIn K (.ref f)=true
section
variable {P:Program} {w:World} {K:PySem.W.Frag} {mg:Str->Option Value} {base:Heap}
theorem yt.V4 {x qual:Str} {st:Stmt} {ds:List Value} {f:Addr} {fd:FuncData} {N ps:List Str} {k:Nat} {sp:Sp} (F:yt K x qual st ds f fd) (S:bf N ps (ao st)) (len:∀vs H Q E,sp vs H Q E->vs.length=ps.length)
 (hbody:∀(cdv:Value) (A:Around) (outer:List Env) (s:Shared) (H:Hp) (vs:List V) (Q:VK) (E:XK),eV k (A.deeper (envOfC qual (ao st) s.heap.objs.size f cdv))->sp vs H Q E ->
   Rz (m5 (um P w) P w K mg base N qual (ao st) f cdv A outer s H E) (fun _=>E) ->
   ∃t,Eb (m5 (um P w) P w K mg base N qual (ao st) f cdv A outer s H E) (aH st) t/\t {nx:=fun _ H'=>Q .non H',rt:=Q} (start N vs) H):cj P w K mg base (um P w) (k+1) f fd ps sp:=by
 obtain ⟨oc,od,T,kV,doc,pm,an,cdv,ct,osl,tc,td,tn,Ek,rfl,lk,hcd,_⟩:=F.ex;exact Ii lk hcd S len fun A outer s H vs Q E hr hsp=>hbody cdv A outer s H vs Q E hr hsp BR
end
section
variable {X:Cx} {k:Nat} {C:Addr} {x kn:Str} {ps:List Str} {sp:Sp} {e ke:Expr} {es:List Expr} {te:TE} {t:TA} {p pos kpos:Pos} {E:St->XK}
end
end L2
set_option Elab.async false
set_option linter.all false
set_option maxRecDepth 100000
set_option maxHeartbeats 4000000
namespace L2
open PySem PySem.Spec PyProof.Rows
theorem Cq {xc:Str}:∀(pre post:List (Str×NameKind)) (n:Nat) (acc:List (Str×Addr)) (h:Heap),(∀y∈pre++post,y.2 ≠ .cell) ->
 cellsFrom n (pre++(xc,.cell)::post) acc=(xc,n)::acc/\pushCells h (pre++(xc,.cell)::post)=h.push {cls:= .type "cell",data:= .cell none}
 | (m,k)::pre,post,n,acc,h,hn=>by
   have hk:(k==NameKind.cell)=false:=by simpa using hn (m,k) (by simp)
   have ih:=Cq (xc:=xc) pre post n acc h fun y hy=>hn y (by simp only [List.cons_append,List.mem_cons];exact .inr hy);rw [List.cons_append];unfold cellsFrom pushCells;simp only [hk,Bool.false_eq_true,if_false];exact ih
 | [],post,n,acc,h,hn=>by
   have Jz:∀(post:List (Str×NameKind)) (n:Nat) (acc:List (Str×Addr)) (h:Heap),(∀y∈post,y.2 ≠ .cell)->cellsFrom n post acc=acc/\pushCells h post=h:=by
    intro post
    induction post with
    | nil=>intro n acc h _;exact ⟨rfl,rfl⟩
    | cons y r ih=>
      intro n acc h hh;obtain ⟨m,k⟩:=y;have hk:(k==NameKind.cell)=false:=by simpa using hh (m,k) (by simp)
      unfold cellsFrom pushCells;simp only [hk,Bool.false_eq_true,if_false];exact ih n acc h fun y hy=>hh y (List.mem_cons_of_mem _ hy)
   rw [List.nil_append];unfold cellsFrom pushCells;simp only [beq_self_eq_true,if_true];exact Jz post (n+1) ((xc,n)::acc) _ fun y hy=>hn y (by simpa using hy)
structure bW (N own:List Str) (caps:List Nat) (XN:List Str) (outer scope:Scope) (xc:Str):Prop where
 kind:scope.kind = .function
 one:∃pre post,scope.names=pre++(xc,.cell)::post /\ ∀y∈pre++post,y.2 ≠ .cell
 xcl:scope.names.lookup xc=some .cell
 nof:(xc,NameKind.free)∉scope.names
 names:∀y∈scope.names,y.2 = .local->scope.names.lookup y.1=some .local
 free:∀y∈scope.names,y.2 = .free->outer.names.lookup y.1=some .cell\/outer.names.lookup y.1=some .free
 nd:N.Nodup
 len:N.length=own.length+caps.length
 cap:∀(j:Nat),j<caps.length->N[own.length+j]? = XN[caps.getD j 0]? /\ ∃x,N[own.length+j]? = some x/\(x,NameKind.free)∈scope.names/\scope.names.lookup x=some .free
def eZ (X:Cx) (scope:Scope) (xc:Str) (C:Addr) (N:List Str) (s:Shared) (H:Hp) (fp:List Addr):Cx:=
 {X with N:=N,s₀:=s,H₀:=H,env:=compEnvC scope ((xc,Nat.succ C)::jT X.env scope.names []) C X.env,outer:=X.stack,ex:=fp,fn:=fun y=>decide (y=xc),pn:=[],xe:=fun _ _=>False}
section
variable {X:Cx} {pins:List (Addr×Obj)} {σ:St} {H:Hp} {s:Shared} {scope:Scope} {N own:List Str} {caps:List Nat} {fp:List Addr} {C:Nat} {xc:Str}
theorem bW.wM (S:bW N own caps X.N X.env.scope scope xc) (ok:X.Ok):∀y∈scope.names,y.2 = .free->(X.env.cells.lookup y.1).isSome=true:=fun y hy hf=>by
 obtain ⟨c,e⟩:=ok.has y.1 (S.free y hy hf);rw [e];rfl
theorem bW.csub (S:bW N own caps X.N X.env.scope scope xc) (ok:X.Ok) {x:Str} {c:Addr} (h:(jT X.env scope.names []).lookup x=some c):X.env.cells.lookup x=some c:=by
 rw [fu _ _ _ (S.wM ok)] at h;split at h
 ·exact h
 ·simp at h
theorem bW.look (S:bW N own caps X.N X.env.scope scope xc) (ok:X.Ok) {x:Str} {c:Addr} (h:((xc,Nat.succ C)::jT X.env scope.names []).lookup x=some c):(x=xc/\c=Nat.succ C)\/(x≠xc/\X.env.cells.lookup x=some c):=by
 rw [List.lookup_cons] at h;cases q:x==xc with
 | true=>rw [q] at h;exact .inl ⟨by simpa using q,(Option.some.inj h).symm⟩
 | false=>rw [q] at h;exact .inr ⟨by simpa using q,S.csub ok h⟩
theorem bW.YC (S:bW N own caps X.N X.env.scope scope xc) {x:Str} (h:(x,NameKind.cell)∈scope.names):x=xc:=by
 obtain ⟨pre,post,e,no⟩:=S.one;rw [e] at h;rcases List.mem_append.mp h with h|h
 ·exact absurd rfl (no _ (List.mem_append_left _ h))
 ·rcases List.mem_cons.mp h with h|h
  ·exact congrArg Prod.fst h
  ·exact absurd rfl (no _ (List.mem_append_right _ h))
theorem bW.wj {S:bW N own caps X.N X.env.scope scope xc} {x:Str} (h:(relabel scope X.env).names.lookup x=some .cell\/(relabel scope X.env).names.lookup x=some .free):x=xc\/(x,NameKind.free)∈scope.names:=by
 have e:=gj X.env scope.names x;have e':(relabel scope X.env).names.lookup x=(scope.names.lookup x).map fun k=>if (k == .free&&X.env.scope.kind == .function&&X.env.kindOf x==some .cell)=true then NameKind.cell else k:=e;rw [e'] at h;cases q:scope.names.lookup x with
 | none=>rw [q] at h;simp at h
 | some k=>
   have hm:=PySem.mem_of_lookup q
   by_cases hk:k = .free
   ·subst hk;exact .inr hm
   ·rw [q] at h
    have hb:(k==NameKind.free)=false:=by simpa using hk
    simp only [Option.map_some,hb,Bool.false_and,Bool.false_eq_true,if_false] at h;rcases h with h|h
    ·have hc:=Option.some.inj h
     subst hc;exact .inl (S.YC hm)
    ·exact absurd (Option.some.inj h) hk
theorem Inv.YB {h1:Heap} {D:Nat} (I:Inv X pins σ H s) (S:bW N own caps X.N X.env.scope scope xc) (hfp:∀b∈fp,kY X pins H b) (hfo:∀b∈fp,∃o,s.heap.get? b=some o)
 (hD:D=s.heap.objs.size) (hC:C=s.heap.objs.size+1) (old:∀b o,s.heap.get? b=some o->h1.get? b=some o) (hns:h1.Ns C (fun _=>none)) (hl:h1.get? D=some {cls:= .type "list",data:= .seq #[]}) (hce:h1.IsCell (Nat.succ C) none) {t:Nat}:
 Inv (eZ X scope xc C N s H fp) [] (st0 own caps σ) (upd H D (.lst [])) {s with heap:=h1,toks:=t}:=by
 have some':=S.wM I.ok;have look:∀{x c},((xc,Nat.succ C)::jT X.env scope.names []).lookup x=some c->(x=xc/\c=Nat.succ C)\/(x≠xc/\X.env.cells.lookup x=some c):=fun h=>S.look I.ok h;have freshD:H D=none:=I.hok.fresh (by rw [hD];exact Nat.le_refl _);have FW:H C=none:=I.hok.fresh (by rw [hC];exact Nat.le_succ _);have Vg:H (Nat.succ C)=none:=I.hok.fresh (by show s.heap.objs.size<=Nat.succ C;omega)
 have wO:∀x c,X.env.cells.lookup x=some c->c<s.heap.objs.size:=fun x c e=>by
  obtain ⟨v,z⟩:=I.cell x c e;exact z.lt
 have QS:∀b∈fp,b<s.heap.objs.size:=fun b hb=>by
  obtain ⟨o,e⟩:=hfo b hb;exact Heap.lt_size e
 have DC:D≠C:=by omega
 refine ⟨⟨I.ok.mod,S.kind,I.ok.glob,I.ok.blt,by show s.heap.objs.size<=C;omega,fun x y c e1 e2=> ?inj,fun x h=> ?_,fun x c h e=> ?cab,I.ok.hd,I.ok.frames,Or.inl rfl,fun b hb=>⟨?_,fun x c e=> ?_⟩,I.bs,Nat.le_trans I.ok.J7 I.sz,fun b o e hb=> ?_,fun b hb z=> ?_,I.stack,I.uQ⟩,
  rfl,I.bare,Un.laid old (by show s.heap.objs.size<=D;omega) freshD,⟨_,hns,fun j x v e1 e2 e3=> ?_⟩,fun x c e=> ?_, ?_,fun x c e=> ?_,fun p hp=> ?_,I.hok.laid old (by omega) ?_, ?_⟩
 case inj=>
  rcases look e1 with ⟨a1,a2⟩|⟨a1,a2⟩
  ·rcases look e2 with ⟨b1,b2⟩|⟨b1,b2⟩
   ·exact a1.trans b1.symm
   ·have:=j5 (wO y c b2);omega
  ·rcases look e2 with ⟨b1,b2⟩|⟨b1,b2⟩
   ·have:=j5 (wO x c a2);omega
   ·exact I.ok.inj x y c a2 b2
 case cab=>
  rcases look e with ⟨a1,a2⟩|⟨a1,a2⟩
  ·show s.heap.objs.size<=c;omega
  ·exact absurd (of_decide_eq_true h) a1
 ·show ∃c,((xc,Nat.succ C)::jT X.env scope.names []).lookup x=some c
  by_cases ex:x=xc
  ·subst ex;exact ⟨Nat.succ C,by simp [List.lookup_cons]⟩
  ·have hm:=(bW.wj (S:=S) (X:=X) h).resolve_left ex
   obtain ⟨c,e⟩:=Option.isSome_iff_exists.mp (some' _ hm rfl);have q:(x==xc)=false:=by simpa using ex
   exact ⟨c,by rw [List.lookup_cons,q,fu _ _ _ some',if_pos hm];exact e⟩
 ·exact Nat.ne_of_lt (show @LT.lt Nat _ b C by have:=j5 (QS b hb);omega)
 ·rcases look e with ⟨a1,a2⟩|⟨a1,a2⟩
  ·have:=j5 (QS b hb)
   subst a2;exact Nat.ne_of_gt (show @LT.lt Nat _ b (Nat.succ C) by omega)
  ·exact (hfp b hb).2.2.2.2.1 x c a2
 ·rcases (hfp b hb).2.2.2.1 with z|z
  ·exact I.ok.JB b o e z
  ·exact absurd (Nat.lt_of_lt_of_le (Heap.lt_size e) (Nat.le_trans I.ok.J7 z)) (Nat.lt_irrefl _)
 ·rcases List.mem_cons.mp (I.pL b z) with q|q
  ·exact (hfp b hb).2.1 q
  ·exact (hfp b hb).2.2.1 q
 ·have e1:N[j]? = some x:=e1
  have hj:own.length<=j:=by
   by_cases q:own.length<=j
   ·exact q
   ·exfalso
    unfold st0 at e2;rw [List.getElem?_append_left (by simp;omega),List.getElem?_map] at e2;cases r:own[j]? with
    | none=>rw [r] at e2;cases e2
    | some a=>rw [r] at e2;cases e2
  have hjl:j<N.length:=(List.getElem?_eq_some_iff.mp e1).1;have hjc:j - own.length<caps.length:=by have:=S.len;omega
  obtain ⟨c1,x',c2,c3,c4⟩:=S.cap (j - own.length) hjc;rw [show own.length+(j - own.length)=j by omega] at c1 c2;rw [e1] at c2;cases c2
  have e2':(σ[caps.getD (j - own.length) 0]?).join=some v:=by
   unfold st0 at e2;rw [List.getElem?_append_right (by simp;omega),List.getElem?_map,List.length_map] at e2;rw [List.getD_eq_getElem?_getD];cases r:caps[j - own.length]? with
   | none=>rw [r] at e2;cases e2
   | some a=>rw [r] at e2;exact Option.some.inj e2
  have Vn:σ[caps.getD (j - own.length) 0]? = some (some v):=by
   cases r:σ[caps.getD (j - own.length) 0]? with
   | none=>rw [r] at e2';cases e2'
   | some a=>rw [r] at e2';exact congrArg Option.some e2'
  have kx:X.env.kindOf x=some .cell\/X.env.kindOf x=some .free:=S.free _ c3 rfl;obtain ⟨m,hn,hl'⟩:=I.loc;obtain ⟨u,r,l⟩:=hl' _ x v (by rw [←c1];exact e1) Vn (by rcases kx with z|z;exact .inr (.inl z);exact .inr (.inr z));refine ⟨u,r,.inr ⟨?_, ?_⟩⟩
  ·show (relabel scope X.env).names.lookup x=some .cell\/(relabel scope X.env).names.lookup x=some .free
   have e:(relabel scope X.env).names.lookup x=(scope.names.lookup x).map fun k=>if (k == .free&&X.env.scope.kind == .function&&X.env.kindOf x==some .cell)=true then NameKind.cell else k:=gj X.env scope.names x;rw [e,c4,Option.map_some];split
   ·exact .inl rfl
   ·exact .inr rfl
  ·rcases l with ⟨hk,_⟩|⟨_,c,hc,z⟩
   ·rcases kx with q|q<;>rw [hk] at q<;>cases q
   ·refine ⟨c, ?_, ?_⟩
    ·show ((xc,Nat.succ C)::jT X.env scope.names []).lookup x=_
     have nx:x≠xc:=fun z=>S.nof (z▸c3);have q:(x==xc)=false:=by simpa using nx
     rw [List.lookup_cons,q,fu _ _ _ some',if_pos c3];exact hc
    ·obtain ⟨o,ho,hd⟩:=z
     exact ⟨o,old c o ho,hd⟩
 ·rcases look e with ⟨a1,a2⟩|⟨a1,a2⟩
  ·subst a2;exact ⟨none,hce⟩
  ·obtain ⟨v,o,ho,hd⟩:=I.cell x c a2
   exact ⟨v,o,old c o ho,hd⟩
 ·show upd H D (.lst []) C=none
  rw [aF DC.symm];exact FW
 ·show upd H D (.lst []) c=none
  rcases look e with ⟨a1,a2⟩|⟨a1,a2⟩
  ·subst a2
   rw [aF (show Nat.succ C≠D by omega)];exact Vg
  ·rw [aF (Nat.ne_of_lt (by have:=j5 (wO x c a2);omega))];exact I.nG x c a2
 ·cases hp
 ·exact ⟨Nat.zero_le _,[],0,.nil,hl⟩
 ·show (own.map (fun _=>none)++caps.map _).length=N.length
  rw [List.length_append,List.length_map,List.length_map,S.len]
theorem Inv.GQ {yI:List (Addr×Obj)} {σ':St} {H':Hp} {s':Shared} {h':Heap} (I:Inv X pins σ H s) (hfp:∀b∈fp,kY X pins H b) (hC:s.heap.objs.size<=C) (J:Inv (eZ X scope xc C N s H fp) yI σ' H' s') (hs:Heap.SameBut C s'.heap h'):
 Inv X pins σ H' {s' with heap:=h'}:=by
 have nC:∀b o,s.heap.get? b=some o->b≠C:=fun b o e=>Nat.ne_of_lt (by have:=j5 (Heap.lt_size e);omega);have u:=J.base;have frC:H' C=none:=J.free;refine I.call' (ch:=fp) (s':={s' with heap:=h'}) J.os ⟨fun b o e n hb hx=> ?_,fun b o e n hb hx=> ?_,u.free,fun b o e hx=> ?_,u.tups,u.uE,u.vK⟩ (fun a o e=>(J.hok a o e).stay (fun b v hb q=> ?_) (fun _ q=>q) fun _ _ q=>q) J.bare fun b hb=> ?_
 ·exact (hs.2 b (nC b o e)).trans (u.keep b o e n hb hx)
 ·obtain ⟨sl,q⟩:=u.slot b o e n hb hx
  exact ⟨sl,(hs.2 b (nC b o e)).trans q⟩
 ·obtain ⟨o',q⟩:=u.there b o e hx
  exact ⟨o',(hs.2 b (nC b o e)).trans q⟩
 ·refine (hs.2 b ?_).trans q
  intro z;subst z;rcases hb with z|z
  ·subst z;rw [frC] at e;cases e
  ·rw [frC] at z;cases z
 ·exact ⟨(hfp b hb).2.2.2.1,(hfp b hb).2.1,(hfp b hb).2.2.2.2.1,(hfp b hb).2.2.2.2.2⟩
end
section
variable {M:Model} {A:Around} {E:Value->Shared->Prop} {s:Shared}
theorem Fv {scope:Scope} {globals:Addr} {cl:List (Str×Addr)} {qual:Str} {env:Env} {xc:Str} {Q:Env->Shared->Prop} (one:∃pre post,scope.names=pre++(xc,.cell)::post /\ ∀y∈pre++post,y.2 ≠ .cell)
 (h:Q (newEnv scope s.heap.objs.size globals ((xc,Nat.succ s.heap.objs.size)::cl) qual none .none (some env) builtinsNs) {s with heap:=(s.heap.push {cls:= .type "dict",data:= .dict #[]}).push {cls:= .type "cell",data:= .cell none}}):
 wpAny M A (newFunctionEnv scope globals cl [] qual none .none (some env)) Q E s:=by
 obtain ⟨pre,post,e,no⟩:=one;simp only [newFunctionEnv,Option.isSome_some,if_true];refine wpAny_bind (wpAny_alloc ?_);refine wpAny_bind (wpAny_layCells _ (fun name kind cells=>by cases hkc:kind==NameKind.cell<;>simp [hkc]) _ _ _ _ ?_);rw [e];have sz:(s.heap.push {cls:= .type "dict",data:= .dict #[]}).objs.size=Nat.succ s.heap.objs.size:=Heap.size_push ..;obtain ⟨e1,e2⟩:=Cq (xc:=xc) pre post (s.heap.push {cls:= .type "dict",data:= .dict #[]}).objs.size cl (s.heap.push {cls:= .type "dict",data:= .dict #[]}) no;show wpAny M A _ Q E _;dsimp only;rw [e1,e2,sz];rw [List.forIn_nil];exact wpAny_bind (wpAny_pure (wpAny_pure h))
end
section
variable {X:Cx} {elt tg iter:Expr} {ifs:List Expr} {scope:Scope} {pos:Pos} {N own:List Str} {caps:List Nat} {wi:TI} {g:TG} {tc:TT} {te:TE} {xc:Str}
theorem JZ {use:Option (Value->Sem Unit)} {Qv:Value->Shared->Prop} {pins:List (Addr×Obj)} {σ:St} {H:Hp} {s:Shared} {Q:VK} (hc:X.calm=true) (S:bW N own caps X.N X.env.scope scope xc)
 (hg:∀C s H fp,PG (eZ X scope xc C N s H fp) tg g) (hcs:∀C s H fp,VF (eZ X scope xc C N s H fp) ifs tc) (he:∀C s H fp,PE (eZ X scope xc C N s H fp) elt te)
 (hi:PI X tg iter wi) (hs:∀x,foldedSetIterable iter X.env x=pure x)
 (I:Inv X pins σ H s) (h:Bq own caps wi g tc te σ H Q)
 (fin:∀(D C:Addr) (H':Hp) (s':Shared),(∃m,s'.heap.Ns C m)->Inv X pins σ H' s'->(∀h',Heap.SameBut C s'.heap h'->Inv X pins σ H' {s' with heap:=h'})->kY X pins H' C->Q (.ref D) H' ->
   compPost (model X.prog X.w) X.A X.xe use Qv (.ref D) C (.ok .next) s'):
 wpAny (model X.prog X.w) X.A (comprehension (.ListComp elt [⟨tg,iter,ifs,0⟩] scope pos) scope X.env (firstIterPos [⟨tg,iter,ifs,0⟩] pos) (newList []) false (eval iter X.env) use) Qv X.xe s:=by
 refine wpAny_comprehension_free (use:=use) rfl hs (wN (S.wM I.ok)) S.kind S.names (dH (hi pins s σ H _ I h) fun xv s1 h1=>dH h1 fun itv s2 h2=> ?_);obtain ⟨it,fp,tn,J,H2,e,I2,T,st2,f2,q2⟩:=h2;subst e;refine wpAny_newList ?_;refine Fv S.one ?_;have hD:H2 s2.heap.objs.size=none:=I2.hok.fresh (Nat.le_refl _);have hsz:(s2.heap.push {cls:= .type "list",data:= .seq ([]:List Value).toArray}).objs.size=s2.heap.objs.size+1:=Heap.size_push ..;obtain ⟨h1,hh1⟩:∃h1,h1=((s2.heap.push {cls:= .type "list",data:= .seq ([]:List Value).toArray}).push {cls:= .type "dict",data:= .dict #[]}).push {cls:= .type "cell",data:= .cell none}:=⟨_,rfl⟩
 have old:∀b o,s2.heap.get? b=some o->h1.get? b=some o:=fun b o e=>by
  rw [hh1];exact Heap.get?_push_of_some _ (Heap.get?_push_of_some _ (Heap.get?_push_of_some _ e))
 have hl:h1.get? s2.heap.objs.size=some {cls:= .type "list",data:= .seq #[]}:=by
  rw [hh1];exact Heap.get?_push_of_some _ (Heap.get?_push_of_some _ (Heap.get?_push_size _ rfl))
 have QL:h1.Ns (s2.heap.push {cls:= .type "list",data:= .seq ([]:List Value).toArray}).objs.size (fun _=>none):=by
  rw [hh1];exact (Heap.Ns.new _ (.type "dict")).keeps fun b o e=>Heap.get?_push_of_some _ e
 have hce:h1.IsCell (Nat.succ (s2.heap.push {cls:= .type "list",data:= .seq ([]:List Value).toArray}).objs.size) none:=by
  rw [hh1];refine ⟨{cls:= .type "cell",data:= .cell none}, ?_,rfl⟩;have e:Nat.succ (s2.heap.push {cls:= .type "list",data:= .seq ([]:List Value).toArray}).objs.size=((s2.heap.push {cls:= .type "list",data:= .seq ([]:List Value).toArray}).push {cls:= .type "dict",data:= .dict #[]}).objs.size:=(Heap.size_push ..).symm;rw [e];exact Heap.get?_push_size _ rfl
 rw [←hh1];have hfo:∀b∈fp,∃o,s2.heap.get? b=some o:=fun b hb=>let ⟨o,e,_⟩:=T.obj _ _ st2 b hb;⟨o,e⟩
 have I4:=Inv.YB (C:=(s2.heap.push {cls:= .type "list",data:= .seq ([]:List Value).toArray}).objs.size) (t:=s2.toks) I2 S f2 hfo rfl hsz old QL hl hce;obtain ⟨W,⟨m0,w0⟩,turn⟩:=q2 _ hD;generalize hCe:(s2.heap.push {cls:= .type "list",data:= .seq ([]:List Value).toArray}).objs.size=C at *;generalize hDe:s2.heap.objs.size=D at *;have hDC:D≠C:=by omega
 have loop:∀s3:Shared,s3={s2 with heap:=h1} ->
  codeAny (model X.prog X.w) X.A (.compLoop (.ListComp elt [⟨tg,iter,ifs,0⟩] scope pos) 0 (.ref it) (.ref D) (eZ X scope xc C N s2 H2 fp).env) (compPost (model X.prog X.w) X.A X.xe use Qv (.ref D) C) s3:=by
  rintro s3 rfl
  have Ai:∀b∈fp,(upd H2 D (.lst [])) b=none:=fun b hb=>by
   obtain ⟨o,e⟩:=hfo b hb;rw [aF (Nat.ne_of_lt (by have:=j5 (Heap.lt_size e);omega))];exact (f2 b hb).1
  have stat:∀{H':Hp},(∀b∈fp,H' b=none) -> ∀b∈fp,kY (eZ X scope xc C N s2 H2 fp) [] H' b:=fun hn b hb=>by
   obtain ⟨o,e⟩:=hfo b hb;have hlt:=j5 (Heap.lt_size e);refine ⟨hn b hb, ?_,fun z=> ?_,.inl hb,fun x c e'=> ?_,fun p hp=>(by cases hp)⟩
   ·exact Nat.ne_of_lt (show @LT.lt Nat _ b C by omega)
   ·rcases List.mem_cons.mp (I2.pL b z) with q|q
    ·exact (f2 b hb).2.1 q
    ·exact (f2 b hb).2.2.1 q
   ·rcases S.look (C:=C) I2.ok e' with ⟨_,a2⟩|⟨_,a2⟩
    ·subst a2
     exact Nat.ne_of_gt (show @LT.lt Nat _ b (Nat.succ C) by omega)
    ·exact (f2 b hb).2.2.2.2.1 x c a2
  refine qT (fun n s'=>∃i σ' H',Inv (eZ X scope xc C N s2 H2 fp) [] σ' H' s'/\tn i s'.heap/\(∀b∈fp,H' b=none)/\W i n σ' H') ?_ m0
   ⟨0,_,_,I4,T.keep _ _ _ st2 fun b _ o e=>old b o e,Ai,w0⟩
  rintro n s3 ⟨i,σ3,H3,I3,st3,RX,w3⟩;rcases turn i n σ3 H3 w3 with ⟨stop,qn⟩|⟨go,Nx,hNx,step⟩
  ·refine dH (T.done (eZ X scope xc C N s2 H2 fp) rfl rfl rfl hc i [] s3 σ3 H3 _ I3 (stat RX) st3 stop) fun r s4 ⟨hr,J4⟩=> ?_
   subst hr;obtain ⟨m4,hn4,_⟩:=J4.loc;exact fin D C H3 s4 ⟨m4,hn4⟩ (I2.GQ f2 (by omega) J4 (Heap.SameBut.refl _ _)) (fun h' hs'=>I2.GQ f2 (by omega) J4 hs') (I2.wD (show s2.heap.objs.size<=C by omega) J4.free) qn
  ·refine dH (T.item (eZ X scope xc C N s2 H2 fp) rfl rfl rfl hc i [] s3 σ3 H3 _ I3 (stat RX) st3 go) fun r s4 ⟨u,hr,h4⟩=> ?_
   subst hr;refine dH h4 fun _ s5 ⟨x,H5,I5,r5,y5,xR,Yn⟩=> ?_;have ZC:=I5.pinned (stat Yn) (T.obj _ _ xR);refine dH (hg C s2 H2 fp _ s5 σ3 H5 x u _ ZC r5 (step x H5 y5)) fun _ s6 ⟨σ6,H6,I6,q6⟩=> ?_;refine dH (hcs C s2 H2 fp _ s6 σ6 H6 _ I6 q6) fun ok s7 ⟨H7,I7,q7⟩=> ?_
   have again:∀{σ8:St} {H8:Hp} {s8:Shared},Inv (eZ X scope xc C N s2 H2 fp) ([]++rZ fp s5.heap) σ8 H8 s8->Nx σ8 H8 -> ∃m,m<n /\ ∃i σ' H',Inv (eZ X scope xc C N s2 H2 fp) [] σ' H' s8/\tn i s8.heap/\(∀b∈fp,H' b=none)/\W i m σ' H':=fun {σ8 H8 s8} I8 n8=>by
    obtain ⟨m',hm,w8⟩:=hNx _ _ n8;refine ⟨m',hm,i+1,σ8,H8,I8.nR,T.keep _ _ _ xR fun b hb o e=>(I8.pin (b,o) (List.mem_append_right _ (List.mem_append_right _ (je hb e)))).1,fun b hb=> ?_,w8⟩;obtain ⟨o,e,d⟩:=T.obj _ _ xR b hb;exact (I8.pin (b,o) (List.mem_append_right _ (List.mem_append_right _ (je hb e)))).2.1
   cases ok with
   | false=>
     rw [if_neg (by decide)] at q7;exact again I7 q7
   | true=>
     rw [if_pos rfl] at q7;refine dH (he C s2 H2 fp _ s7 σ6 H7 _ I7 q7) fun y s8 ⟨yv,H8,I8,r8,acc,ha,hlen,q8⟩=> ?_;exact dH (sO _ s8 σ6 H8 (.ref D) [yv] (.ref D) [y] (fun v H9=>Nx σ6 H9) I8 rfl (.cons r8 .nil) ⟨D,acc,yv,rfl,rfl,ha,hlen,q8⟩) fun _ s9 ⟨_,H9,I9,_,q9⟩=>again I9 q9
 exact codeAny_compStart_list (loop _ rfl) (T.self _ 0 _ _ _ (T.keep _ _ _ st2 fun b _ o e=>old b o e) (loop _ rfl))
theorem Ma (hc:X.calm=true) (S:bW N own caps X.N X.env.scope scope xc) (hi:PI X tg iter wi)
 (hg:∀C s H fp,PG (eZ X scope xc C N s H fp) tg g) (hcs:∀C s H fp,VF (eZ X scope xc C N s H fp) ifs tc) (he:∀C s H fp,PE (eZ X scope xc C N s H fp) elt te)
 (hs:∀x,foldedSetIterable iter X.env x=pure x:=by intro _;rfl):PE X (.ListComp elt [⟨tg,iter,ifs,0⟩] scope pos) (Bq own caps wi g tc te):=by
 intro pins s σ H Q I h;rw [eval_ListComp];refine JZ (use:=none) hc S hg hcs he hi hs I h ?_;intro D C H' s' hn I' hk _ q;obtain ⟨m,hn⟩:=hn;exact ⟨m,hn,fun h' hs'=>⟨.ref D,H',hk h' hs',rfl,q⟩⟩
end
def Ip (N own:List Str) (caps:List Nat) (XN:List Str) (outer scope:Scope) (xc:Str):Bool:=
 decide (scope.kind = .function)&&(scope.names.filter fun y=>decide (y.2 = .cell)).length==1&&decide (scope.names.lookup xc=some .cell)&&decide ((xc,NameKind.free)∉scope.names)&&scope.names.all (fun y=>decide (y.2 ≠ .local)||decide (scope.names.lookup y.1=some .local)) &&
 scope.names.all (fun y=>decide (y.2 ≠ .free)||decide (outer.names.lookup y.1=some .cell)||decide (outer.names.lookup y.1=some .free))&&decide N.Nodup&&decide (N.length=own.length+caps.length) &&
 (List.range caps.length).all (fun j=>match N[own.length+j]? with |some x=>decide (XN[caps.getD j 0]? = some x)&&decide ((x,NameKind.free)∈scope.names)&&decide (scope.names.lookup x=some .free)|none=>false)
theorem bW.of {N own:List Str} {caps:List Nat} {XN:List Str} {outer scope:Scope} {xc:Str} (h:Ip N own caps XN outer scope xc=true):bW N own caps XN outer scope xc:=by
 unfold Ip at h;simp only [Bool.and_eq_true,decide_eq_true_eq,List.all_eq_true,Bool.or_eq_true,beq_iff_eq] at h;obtain ⟨⟨⟨⟨⟨⟨⟨⟨h1,h2⟩,h2a⟩,h2b⟩,h3⟩,h4⟩,h5⟩,h6⟩,h7⟩:=h;refine ⟨h1, ?_,h2a,h2b,fun y hy e=> ?_,fun y hy e=> ?_,h5,h6,fun j hj=> ?_⟩
 ·have hm:(xc,NameKind.cell)∈scope.names:=mem_of_lookup h2a
  obtain ⟨pre,post,e⟩:=List.append_of_mem hm;refine ⟨pre,post,e,fun y hy z=> ?_⟩;rw [e,List.filter_append,List.length_append,List.filter_cons] at h2;simp only [decide_true,if_true,List.length_cons] at h2;have l1:(pre.filter fun y=>decide (y.2 = .cell)).length=0:=by omega
  have l2:(post.filter fun y=>decide (y.2 = .cell)).length=0:=by omega
  rcases List.mem_append.mp hy with q|q
  ·have:=List.filter_eq_nil_iff.mp (List.eq_nil_of_length_eq_zero l1) y q
   simp [z] at this
  ·have:=List.filter_eq_nil_iff.mp (List.eq_nil_of_length_eq_zero l2) y q
   simp [z] at this
 ·rcases h3 y hy with z|z
  ·exact absurd e z
  ·exact z
 ·rcases h4 y hy with (z|z)|z
  ·exact absurd e z
  ·exact .inl z
  ·exact .inr z
 ·have q:=h7 j (List.mem_range.mpr hj)
  cases e:N[own.length+j]? with
  | none=>rw [e] at q;cases q
  | some x=>
    rw [e] at q;simp only [Bool.and_eq_true,decide_eq_true_eq] at q;exact ⟨q.1.1.symm,x,rfl,q.1.2,q.2⟩
theorem FZ {X:Cx} {scope:Scope} {xc:Str} {C:Addr} {N:List Str} {s:Shared} {H:Hp} {fp:List Addr}:(eZ X scope xc C N s H fp).fn xc=true:=decide_eq_true (p:=xc=xc) rfl
end L2
set_option Elab.async false
set_option linter.all false
set_option maxRecDepth 100000
set_option maxHeartbeats 4000000
namespace Tim
open PySem PyProof.Rows
def j9:Bool->Keyed->Array Keyed->Nat->Nat->Nat->StateT SortSt Sem (Option Nat):=sortPriv% PySem.Builtin.gallop
def m_ (left:Bool) (key:Keyed) (arr:Array Keyed) (base i:Nat):StateT SortSt Sem (Option Bool):=do
 let x ←elem' arr (base+i)
 if left then lt' x key else return (←lt' key x).map (!·)
theorem FT (left:Bool) (key:Keyed) (arr:Array Keyed) (base n hint:Nat):j9 left key arr base n hint=(do
 let mut lastofs:=0
 let mut ofs:=1
 let mut lo:=0
 let mut hi:=0
 let some right ←m_ left key arr base hint|return none
 if right then
  let maxofs:=n - hint
  for _ in [0:n] do
   if ofs≥maxofs then break
   let some more ←m_ left key arr base (hint+ofs)|return none
   if !more then break
   lastofs:=ofs
   ofs:=2*ofs+1
  lo:=hint+lastofs+1
  hi:=hint+min ofs maxofs
 else
  let maxofs:=hint+1
  for _ in [0:n] do
   if ofs≥maxofs then break
   let some found ←m_ left key arr base (hint - ofs)|return none
   if found then break
   lastofs:=ofs
   ofs:=2*ofs+1
  lo:=hint+1 - min ofs maxofs
  hi:=hint - lastofs
 for _ in [0:n] do
  if lo≥hi then break
  let m:=lo+(hi - lo) / 2
  let some more ←m_ left key arr base m|return none
  if more then lo:=m+1 else hi:=m
 return some hi):=rfl
section
variable {prog:Program} {w:World} {A:Around} {E:Value->Shared->Prop} {s:Shared} {κ:SortKind} {a₀:Array Keyed} {rk:Value->Nat}
structure GJ (prog:Program) (w:World) (A:Around) (s:Shared) (κ:SortKind) (a₀:Array Keyed) (rk:Value->Nat):Prop where
 ask:∀p∈a₀.toList,∀q∈a₀.toList,∀(E:Value->Shared->Prop) (Q:Bool->Shared->Prop),Q (decide (rk p.1<rk q.1)) s->wpAny (model prog w) A (keyLt' κ p.1 q.1) Q E s
def R (rk:Value->Nat) (xs:Array Keyed) (i:Nat):Nat:=match xs[i]? with
 | some p=>rk p.1
 | none=>0
theorem xH {xs:Array Keyed} {i:Nat} {p:Keyed} (h:xs[i]? = some p):R rk xs i=rk p.1:=by unfold R;rw [h]
theorem gF {xs ys:Array Keyed} {i j:Nat} (h:xs[i]? = ys[j]?):R rk xs i=R rk ys j:=by unfold R;rw [h]
theorem vH {st:SortSt} {p q:Keyed} {Q:Option Bool->SortSt->Prop} (C:GJ prog w A s κ a₀ rk) (hk:kindOf st=κ) (hp:p∈a₀.toList) (hq:q∈a₀.toList) (h:Q (some (decide (rk p.1<rk q.1))) st):
 wpS (model prog w) A E s (lt' p q) Q st:=by
 rw [lt'_eq];refine wpS_bind (wpS_get ?_);rw [hk];refine wpS_bind (wpS_lift (wpAny_attempt (C.ask p hp q hq _ _ ⟨rfl, ?_⟩)));exact wpS_pure h
theorem bV {st:SortSt} {arr:Array Keyed} {i:Nat} {p:Keyed} {Q:Keyed->SortSt->Prop} (hi:arr[i]? = some p) (h:Q p st):wpS (model prog w) A E s (elem' arr i) Q st:=by
 rw [elem'_eq,hi];exact wpS_pure h
def By (left:Bool) (k r:Nat):Bool:=if left then decide (r<k) else !decide (k<r)
theorem mK {st:SortSt} {left:Bool} {key:Keyed} {arr:Array Keyed} {base i:Nat} {Q:Option Bool->SortSt->Prop} (C:GJ prog w A s κ a₀ rk) (hk:kindOf st=κ) (hkey:key∈a₀.toList) (qN:∀p∈arr.toList,p∈a₀.toList)
 (hi:base+i<arr.size) (h:Q (some (By left (rk key.1) (R rk arr (base+i)))) st):wpS (model prog w) A E s (m_ left key arr base i) Q st:=by
 unfold m_;have e:arr[base+i]? = some arr[base+i]:=getElem?_pos arr (base+i) hi;have hm:arr[base+i]∈a₀.toList:=qN _ (by simp);rw [xH e] at h;refine wpS_bind (bV e ?_);cases left with
 | true=>exact vH C hk hm hkey h
 | false=>exact wpS_bind (vH C hk hkey hm (wpS_pure h))
theorem Bf {left:Bool} {k r r':Nat} (h:By left k r=true) (le:r'<=r):By left k r'=true:=by
 unfold By at *;cases left<;>simp at * <;> omega
theorem xQ {left:Bool} {k r r':Nat} (h:By left k r=false) (le:r<=r'):By left k r'=false:=by
 unfold By at *;cases left<;>simp at * <;> omega
def Seg (rk:Value->Nat) (xs:Array Keyed) (lo hi:Nat):Prop:=∀i j,lo<=i->i<=j->j<hi->R rk xs i<=R rk xs j
abbrev GSt:=Option (Option Nat)×Nat×Nat
theorem tU {st:SortSt} {left:Bool} {key:Keyed} {arr:Array Keyed} {base n lo hi:Nat} {Q:GSt->SortSt->Prop} (C:GJ prog w A s κ a₀ rk) (hk:kindOf st=κ) (hkey:key∈a₀.toList) (qN:∀p∈arr.toList,p∈a₀.toList)
 (hn:base+n<=arr.size) (hs:Seg rk arr base (base+n)) (hlh:lo<=hi) (hhn:hi<=n)
 (h1:∀i,i<lo->By left (rk key.1) (R rk arr (base+i))=true) (h2:∀i,hi<=i->i<n->By left (rk key.1) (R rk arr (base+i))=false)
 (h:∀k l,k<=n->(∀i,i<k->By left (rk key.1) (R rk arr (base+i))=true)->(∀i,k<=i->i<n->By left (rk key.1) (R rk arr (base+i))=false)->Q (none,l,k) st):
 wpS (model prog w) A E s (forIn [0:n] ((none,lo,hi):GSt) fun _ __s=>
       if __s.snd.fst≥__s.snd.snd then pure (ForInStep.done (none,__s.snd.fst,__s.snd.snd))
       else do
        let __x ←m_ left key arr base (__s.snd.fst+(__s.snd.snd - __s.snd.fst) / 2)
        match __x with
         | some more=>
           if more=true then
            pure (ForInStep.yield (none,__s.snd.fst+(__s.snd.snd - __s.snd.fst) / 2+1,__s.snd.snd))
           else pure (ForInStep.yield (none,__s.snd.fst,__s.snd.fst+(__s.snd.snd - __s.snd.fst) / 2))
         | _=>pure (ForInStep.done (some none,__s.snd.fst,__s.snd.snd))) Q st:=by
 refine wpS_forRange (I:=fun x c st'=>st'=st /\ ∃lo hi,c=(none,lo,hi)/\lo<=hi/\hi<=n/\hi - lo<=n - x/\(∀i,i<lo->By left (rk key.1) (R rk arr (base+i))=true)/\(∀i,hi<=i->i<n->By left (rk key.1) (R rk arr (base+i))=false)) ?step ?fin ⟨rfl,lo,hi,rfl,hlh,hhn,by omega,h1,h2⟩
 case fin=>
  rintro c st' ⟨rfl,lo,hi,rfl,a1,a2,a3,a4,a5⟩;have:lo=hi:=by omega
  subst this;exact h _ _ a2 a4 a5
 case step=>
  rintro x c st' _ hx ⟨rfl,lo,hi,rfl,a1,a2,a3,a4,a5⟩;dsimp only
  by_cases hge:lo≥hi
  ·rw [if_pos hge]
   have:lo=hi:=by omega
   subst this;exact wpS_pure (h _ _ a2 a4 a5)
  ·rw [if_neg hge]
   refine wpS_bind (mK C hk hkey qN (by omega) ?_);dsimp only;cases hb:By left (rk key.1) (R rk arr (base+(lo+(hi - lo) / 2))) with
   | true=>
     simp only [if_true];refine wpS_pure ⟨rfl,_,_,rfl,by omega,a2,by omega,fun i hi'=> ?_,a5⟩;exact Bf hb (hs _ _ (by omega) (by omega) (by omega))
   | false=>
     simp only [Bool.false_eq_true,if_false];refine wpS_pure ⟨rfl,_,_,rfl,by omega,by omega,by omega,a4,fun i hi' hin=> ?_⟩;exact xQ hb (hs _ _ (by omega) (by omega) (by omega))
theorem i_ {st:SortSt} {left:Bool} {key:Keyed} {arr:Array Keyed} {base n hint:Nat} {Q:Option Nat->SortSt->Prop} (C:GJ prog w A s κ a₀ rk) (hk:kindOf st=κ) (hkey:key∈a₀.toList) (qN:∀p∈arr.toList,p∈a₀.toList)
 (hn:base+n<=arr.size) (hh:hint<n) (hs:Seg rk arr base (base+n))
 (h:∀k,k<=n->(∀i,i<k->By left (rk key.1) (R rk arr (base+i))=true)->(∀i,k<=i->i<n->By left (rk key.1) (R rk arr (base+i))=false)->Q (some k) st):
 wpS (model prog w) A E s (j9 left key arr base n hint) Q st:=by
 rw [FT];refine wpS_bind (mK C hk hkey qN (by omega) ?_);dsimp only;cases hr:By left (rk key.1) (R rk arr (base+hint)) with
 | true=>
   simp only [if_true]
   refine wpS_bind (wpS_mono (wpS_forRange (I:=fun x c st'=>st'=st /\ ∃l o,c=(none,l,o)/\l<o/\x<o/\hint+l<n/\By left (rk key.1) (R rk arr (base+(hint+l)))=true)
    (Q:=fun c st'=>st'=st /\ ∃l o,c=(none,l,o)/\l<o/\hint+l<n/\By left (rk key.1) (R rk arr (base+(hint+l)))=true/\(o<n - hint->By left (rk key.1) (R rk arr (base+(hint+o)))=false)) ?step ?fin ⟨rfl,0,1,rfl,by omega,by omega,by omega,hr⟩) ?post)
   case fin=>
    rintro c st' ⟨rfl,l,o,rfl,a1,a2,a3,a4⟩;exact ⟨rfl,l,o,rfl,a1,a3,a4,fun z=>by omega⟩
   case step=>
    rintro x c st' _ hx ⟨rfl,l,o,rfl,a1,a2,a3,a4⟩;dsimp only
    by_cases hge:o≥n - hint
    ·rw [if_pos hge]
     exact wpS_pure ⟨rfl,l,o,rfl,a1,a3,a4,fun z=>by omega⟩
    ·rw [if_neg hge]
     refine wpS_bind (mK C hk hkey qN (by omega) ?_);dsimp only;cases hb:By left (rk key.1) (R rk arr (base+(hint+o))) with
     | true=>
       simp only [Bool.not_true,Bool.false_eq_true,if_false];exact wpS_pure ⟨rfl,o,2*o+1,rfl,by omega,by omega,by omega,hb⟩
     | false=>
       simp only [Bool.not_false,if_true];exact wpS_pure ⟨rfl,l,o,rfl,a1,a3,a4,fun _=>hb⟩
   case post=>
    rintro c st' ⟨rfl,l,o,rfl,a1,a2,a3,a4⟩;dsimp only;refine wpS_bind (tU C hk hkey qN hn hs (by omega) (by omega) (fun i hi=> ?_) (fun i hi hin=> ?_) fun k l' b1 b2 b3=>wpS_pure (h k b1 b2 b3))
    ·exact Bf a3 (hs _ _ (by omega) (by omega) (by omega))
    ·exact xQ (a4 (by omega)) (hs _ _ (by omega) (by omega) (by omega))
 | false=>
   simp only [Bool.false_eq_true,if_false]
   refine wpS_bind (wpS_mono (wpS_forRange (I:=fun x c st'=>st'=st /\ ∃l o,c=(none,l,o)/\l<o/\x<o/\l<=hint/\By left (rk key.1) (R rk arr (base+(hint - l)))=false)
    (Q:=fun c st'=>st'=st /\ ∃l o,c=(none,l,o)/\l<o/\l<=hint/\By left (rk key.1) (R rk arr (base+(hint - l)))=false/\(o<hint+1->By left (rk key.1) (R rk arr (base+(hint - o)))=true)) ?step ?fin ⟨rfl,0,1,rfl,by omega,by omega,by omega,hr⟩) ?post)
   case fin=>
    rintro c st' ⟨rfl,l,o,rfl,a1,a2,a3,a4⟩;exact ⟨rfl,l,o,rfl,a1,a3,a4,fun z=>by omega⟩
   case step=>
    rintro x c st' _ hx ⟨rfl,l,o,rfl,a1,a2,a3,a4⟩;dsimp only
    by_cases hge:o≥hint+1
    ·rw [if_pos hge]
     exact wpS_pure ⟨rfl,l,o,rfl,a1,a3,a4,fun z=>by omega⟩
    ·rw [if_neg hge]
     refine wpS_bind (mK C hk hkey qN (by omega) ?_);dsimp only;cases hb:By left (rk key.1) (R rk arr (base+(hint - o))) with
     | true=>
       simp only [if_true];exact wpS_pure ⟨rfl,l,o,rfl,a1,a3,a4,fun _=>hb⟩
     | false=>
       simp only [Bool.false_eq_true,if_false];exact wpS_pure ⟨rfl,o,2*o+1,rfl,by omega,by omega,by omega,hb⟩
   case post=>
    rintro c st' ⟨rfl,l,o,rfl,a1,a2,a3,a4⟩;dsimp only;refine wpS_bind (tU C hk hkey qN hn hs (by omega) (by omega) (fun i hi=> ?_) (fun i hi hin=> ?_) fun k l' b1 b2 b3=>wpS_pure (h k b1 b2 b3))
    ·exact Bf (a4 (by omega)) (hs _ _ (by omega) (by omega) (by omega))
    ·exact xQ a3 (hs _ _ (by omega) (by omega) (by omega))
end
end Tim
set_option Elab.async false
set_option linter.all false
set_option maxRecDepth 100000
set_option maxHeartbeats 4000000
namespace Tim
open PySem PyProof.Rows
def fO:Nat->StateT SortSt Sem Unit:=sortPriv% PySem.Builtin.setMinGallop
theorem rN (g:Nat):fO g=modify fun s=>SortSt.mk' (kindOf s) (arrOf s) (pendingOf s) g (failedOf s):=rfl
def v8:Array Keyed->Array Keyed->StateT SortSt Sem (Array Keyed):=sortPriv% PySem.Builtin.mergeLo
def v9:Array Keyed->Array Keyed->StateT SortSt Sem (Array Keyed):=sortPriv% PySem.Builtin.mergeHi
abbrev gK (a b out:Array Keyed) (ia ib:Nat):Array Keyed:=out++a.extract ia a.size++b.extract ib b.size
abbrev pW (a b out:Array Keyed) (ia ib:Nat):Array Keyed:=out++b.extract ib b.size++a.extract ia a.size
theorem Cz (a b:Array Keyed):v8 a b=(do
 rule "list.sort.merge-lo"
 let total:=a.size+b.size
 let mut out:Array Keyed:= #[←elem' b 0]
 let mut ia:=0
 let mut ib:=1
 if ib==b.size then return gK a b out ia ib
 if ia+1==a.size then return pW a b out ia ib
 let mut minGallop:=gallopOf (←get)
 for _ in [0:total] do
  let mut acount:=0
  let mut bcount:=0
  for _ in [0:total] do
   let some bWins ←lt' (←elem' b ib) (←elem' a ia)|return gK a b out ia ib
   if bWins then
    out:=out.push (←elem' b ib);ib:=ib+1;bcount:=bcount+1;acount:=0
    if ib==b.size then return gK a b out ia ib
    if bcount≥minGallop then break
   else
    out:=out.push (←elem' a ia);ia:=ia+1;acount:=acount+1;bcount:=0
    if ia+1==a.size then return pW a b out ia ib
    if acount≥minGallop then break
  rule "list.sort.gallop"
  minGallop:=minGallop+1
  for _ in [0:total] do
   if minGallop>1 then minGallop:=minGallop - 1
   fO minGallop
   let some k ←j9 false (←elem' b ib) a ia (a.size - ia) 0|return gK a b out ia ib
   acount:=k
   if k>0 then
    out:=out++a.extract ia (ia+k);ia:=ia+k
    if ia+1==a.size then return pW a b out ia ib
    if ia==a.size then return gK a b out ia ib
   out:=out.push (←elem' b ib);ib:=ib+1
   if ib==b.size then return gK a b out ia ib
   let some k ←j9 true (←elem' a ia) b ib (b.size - ib) 0|return gK a b out ia ib
   bcount:=k
   if k>0 then
    out:=out++b.extract ib (ib+k);ib:=ib+k
    if ib==b.size then return gK a b out ia ib
   out:=out.push (←elem' a ia);ia:=ia+1
   if ia+1==a.size then return pW a b out ia ib
   if acount<7&&bcount<7 then break
  minGallop:=minGallop+1
  fO minGallop
 unsupported "internal:list.sort.merge-bound"):=rfl
section
variable {rk:Value->Nat} {a b out:Array Keyed} {ia ib k:Nat}
def Le (rk:Value->Nat) (x y:Keyed):Prop:=rk x.1<=rk y.1
def Kh (rk:Value->Nat) (l:List Keyed):Prop:=l.Pairwise (Le rk)
structure MI (rk:Value->Nat) (a b out:Array Keyed) (ia ib:Nat):Prop where
 perm:(out.toList++(a.toList.drop ia++b.toList.drop ib)).Perm (a.toList++b.toList)
 sa:Kh rk (out.toList++a.toList.drop ia)
 sb:Kh rk (out.toList++b.toList.drop ib)
structure Mg (rk:Value->Nat) (a b r:Array Keyed):Prop where
 perm:r.toList.Perm (a.toList++b.toList)
 srt:Kh rk r.toList
theorem cV (a:Array Keyed) (i j:Nat):(a.extract i j).toList=(a.toList.drop i).take (j - i):=by
 rw [Array.toList_extract,List.extract_eq_take_drop]
theorem wK (l:List Keyed) (i k:Nat):l.drop i=(l.drop i).take k++l.drop (i+k):=by
 rw [←List.drop_drop,List.take_append_drop]
theorem iR {a:Array Keyed} {i:Nat} (h:i<a.size):R rk a i=rk (a[i]).1:=xH (getElem?_pos a i h)
theorem Ng {a:Array Keyed} {x:Keyed} (h:x∈a.toList.drop ia):∃j,ia<=j/\j<a.size/\R rk a j=rk x.1:=by
 obtain ⟨j,hj,e⟩:=List.getElem_of_mem h;rw [List.length_drop,Array.length_toList] at hj;rw [List.getElem_drop,Array.getElem_toList] at e;exact ⟨ia+j,by (clear e hj;omega),by (clear e;omega),by rw [iR (by (clear e;omega)),e]⟩
theorem jk {a:Array Keyed} {x:Keyed} (h:x∈(a.toList.drop ia).take k):∃j,j<k/\ia+j<a.size/\R rk a (ia+j)=rk x.1:=by
 obtain ⟨j,hj,e⟩:=List.getElem_of_mem h;rw [List.length_take,List.length_drop,Array.length_toList] at hj;rw [List.getElem_take,List.getElem_drop,Array.getElem_toList] at e;exact ⟨j,by (clear e;omega),by (clear e;omega),by rw [iR (by (clear e;omega)),e]⟩
theorem ji {x y:List Keyed}:Kh rk (x++y)↔Kh rk x/\Kh rk y /\ ∀p∈x,∀q∈y,rk p.1<=rk q.1:=List.pairwise_append
theorem MI.sZ (m:MI rk a b out ia ib) (hle:∀i,i<k->ib+i<b.size -> ∀j,ia<=j->j<a.size->R rk b (ib+i)<=R rk a j):MI rk a b (out++b.extract ib (ib+k)) ia (ib+k):=by
 have e:(out++b.extract ib (ib+k)).toList=out.toList++(b.toList.drop ib).take k:=by rw [Array.toList_append,cV];congr 2;omega
 have sp:=wK b.toList ib k;refine ⟨?_, ?_, ?_⟩
 ·rw [e]
  refine List.Perm.trans ?_ m.perm;rw [List.append_assoc];refine List.Perm.append_left _ ?_;refine List.Perm.trans ?_ (List.Perm.of_eq (congrArg (a.toList.drop ia ++ ·) sp.symm));rw [←List.append_assoc];refine List.Perm.trans (List.Perm.append_right _ (List.perm_append_comm)) (List.Perm.of_eq (List.append_assoc _ _ _))
 ·rw [e,List.append_assoc]
  have h1:=ji.mp m.sa;have h2:=m.sb;rw [sp] at h2;have h3:=ji.mp h2;have h4:=ji.mp h3.2.1;refine ji.mpr ⟨h1.1,ji.mpr ⟨h4.1,h1.2.1,fun p hp q hq=> ?_⟩,fun p hp q hq=> ?_⟩
  ·obtain ⟨i,i1,i2,i3⟩:=jk (rk:=rk) hp
   obtain ⟨j,j1,j2,j3⟩:=Ng (rk:=rk) hq;rw [←i3,←j3];exact hle i i1 i2 j j1 j2
  ·rcases List.mem_append.mp hq with hq|hq
   ·exact h3.2.2 p hp q (List.mem_append_left _ hq)
   ·exact h1.2.2 p hp q hq
 ·rw [e,List.append_assoc,←sp]
  exact m.sb
theorem MI.swap (m:MI rk a b out ia ib):MI rk b a out ib ia:=⟨(List.Perm.append_left _ List.perm_append_comm).trans (m.perm.trans List.perm_append_comm),m.sb,m.sa⟩
theorem MI.tE (m:MI rk a b out ia ib) (hle:∀i,i<k->ia+i<a.size -> ∀j,ib<=j->j<b.size->R rk a (ia+i)<=R rk b j):MI rk a b (out++a.extract ia (ia+k)) (ia+k) ib:=(m.swap.sZ hle).swap
theorem Cd (h:ib<b.size):out.push b[ib]=out++b.extract ib (ib+1):=by
 apply Array.toList_inj.mp;rw [Array.toList_push,Array.toList_append,cV];congr 1;rw [show ib+1 - ib=1 by (clear h;omega),List.drop_eq_getElem_cons (by rw [Array.length_toList];exact h)];rfl
theorem MI.vW (m:MI rk a b out ia ib) (h:ib<b.size) (hle:∀j,ia<=j->j<a.size->R rk b ib<=R rk a j):MI rk a b (out.push b[ib]) ia (ib+1):=by
 rw [Cd h];refine m.sZ (k:=1) fun i hi hb j j1 j2=> ?_;have:i=0:=by (clear j2 j1 hb h;omega)
 subst this;exact hle j j1 j2
theorem MI.vX (m:MI rk a b out ia ib) (h:ia<a.size) (hle:∀j,ib<=j->j<b.size->R rk a ia<=R rk b j):MI rk a b (out.push a[ia]) (ia+1) ib:=(m.swap.vW h hle).swap
theorem MI.done (m:MI rk a b out ia ib) (h:ia=a.size\/ib=b.size):Mg rk a b (gK a b out ia ib):=by
 have e:(gK a b out ia ib).toList=out.toList++(a.toList.drop ia++b.toList.drop ib):=by
  unfold gK;rw [Array.toList_append,Array.toList_append,cV,cV,List.append_assoc];congr 2
  ·rw [List.take_of_length_le];rw [List.length_drop,Array.length_toList];exact Nat.le_refl _
  ·rw [List.take_of_length_le];rw [List.length_drop,Array.length_toList];exact Nat.le_refl _
 refine ⟨by rw [e];exact m.perm, ?_⟩;rw [e];rcases h with h|h
 ·rw [h,show a.toList.drop a.size=[] by rw [List.drop_eq_nil_of_le];rw [Array.length_toList];exact Nat.le_refl _,List.nil_append]
  exact m.sb
 ·rw [h,show b.toList.drop b.size=[] by rw [List.drop_eq_nil_of_le];rw [Array.length_toList];exact Nat.le_refl _,List.append_nil]
  exact m.sa
theorem MI.last (m:MI rk a b out ia ib) (h:∀i j,ib<=i->i<b.size->ia<=j->j<a.size->R rk b i<=R rk a j):Mg rk a b (pW a b out ia ib):=by
 have m2:=m.sZ (k:=b.size - ib) fun i hi hb j j1 j2=>h _ _ (by (clear j2 j1 hb hi;omega)) hb j1 j2
 have e:(pW a b out ia ib)=gK a b (out++b.extract ib (ib+(b.size - ib))) ia (ib+(b.size - ib)):=by
  unfold gK pW;apply Array.toList_inj.mp;simp only [Array.toList_append,cV]
  have e1:(b.toList.drop (ib+(b.size - ib))).take (b.size - (ib+(b.size - ib)))=[]:=by
   rw [List.take_eq_nil_iff];left;omega
  rw [e1,List.append_nil];congr 3
  (clear e1;omega)
 rw [e]
 by_cases hb:ib<=b.size
 ·exact m2.done (.inr (by (clear e;omega)))
 ·refine ⟨?_, ?_⟩
  ·have:=m2.perm
   have e2:(gK a b (out++b.extract ib (ib+(b.size - ib))) ia (ib+(b.size - ib))).toList=(out++b.extract ib (ib+(b.size - ib))).toList++(a.toList.drop ia++b.toList.drop (ib+(b.size - ib))):=by
    unfold gK;rw [Array.toList_append,Array.toList_append,cV,cV,List.append_assoc];congr 2
    ·rw [List.take_of_length_le];rw [List.length_drop,Array.length_toList];exact Nat.le_refl _
    ·rw [List.take_of_length_le];rw [List.length_drop,Array.length_toList];exact Nat.le_refl _
   rw [e2];exact this
  ·unfold gK
   rw [Array.toList_append,Array.toList_append,cV (a:=b) (i:=ib+(b.size - ib)),show b.size - (ib+(b.size - ib))=0 by (clear hb e;omega),List.take_zero,List.append_nil,cV (a:=a)];rw [List.take_of_length_le (by rw [List.length_drop,Array.length_toList];exact Nat.le_refl _)];exact m2.sa
end
end Tim
set_option Elab.async false
set_option linter.all false
set_option maxRecDepth 100000
set_option maxHeartbeats 4000000
namespace Tim
open PySem PyProof.Rows
section
variable {prog:Program} {w:World} {A:Around} {E:Value->Shared->Prop} {s:Shared} {κ:SortKind} {a₀:Array Keyed} {rk:Value->Nat}
structure Bh (st st':SortSt):Prop where
 k:kindOf st'=kindOf st
 a:arrOf st'=arrOf st
 p:pendingOf st'=pendingOf st
 f:failedOf st'=failedOf st
theorem Bh.refl (st:SortSt):Bh st st:=⟨rfl,rfl,rfl,rfl⟩
theorem Bh.trans {a b c:SortSt} (h:Bh a b) (g:Bh b c):Bh a c:=⟨g.k.trans h.k,g.a.trans h.a,g.p.trans h.p,g.f.trans h.f⟩
theorem oN {st:SortSt} {g:Nat} {Q:Unit->SortSt->Prop} (h:∀st',Bh st st'->Q () st'):wpS (model prog w) A E s (fO g) Q st:=by
 rw [rN];exact wpS_modify (h _ ⟨rfl,rfl,rfl,rfl⟩)
theorem aU {α:Type} {c:Prop} [Decidable c] {x y:StateT SortSt Sem α} {Q:α->SortSt->Prop} {st:SortSt} (h1:c->wpS (model prog w) A E s x Q st) (h2:¬c->wpS (model prog w) A E s y Q st):wpS (model prog w) A E s (if c then x else y) Q st:=by
 by_cases hc:c
 ·rw [if_pos hc];exact h1 hc
 ·rw [if_neg hc];exact h2 hc
theorem VR {k r:Nat} (h:By true k r=true):r<k:=by simpa [By] using h
theorem Rm {k r:Nat} (h:By false k r=true):r<=k:=by simpa [By] using h
theorem Ea {k r:Nat} (h:By true k r=false):k<=r:=by simpa [By] using h
theorem Oz {k r:Nat} (h:By false k r=false):k<r:=by simpa [By] using h
theorem Bj {st:SortSt} {a b:Array Keyed} {Q:Array Keyed->SortSt->Prop} (C:GJ prog w A s κ a₀ rk) (hk:kindOf st=κ) (ha:∀p∈a.toList,p∈a₀.toList) (hb:∀p∈b.toList,p∈a₀.toList)
 (ha1:1<=a.size) (hb1:1<=b.size) (sa:Seg rk a 0 a.size) (sb:Seg rk b 0 b.size) (h0:R rk b 0<=R rk a 0) (hl:R rk b (b.size - 1)<=R rk a (a.size - 1))
 (h:∀r st',Bh st st'->Mg rk a b r->Q r st'):wpS (model prog w) A E s (v8 a b) Q st:=by
 have X5:∀i,i<b.size -> ∃p,b[i]? = some p/\p∈a₀.toList/\R rk b i=rk p.1:=fun i hi=>⟨b[i],getElem?_pos b i hi,hb _ (by simp),iR hi⟩;have RK:∀i,i<a.size -> ∃p,a[i]? = some p/\p∈a₀.toList/\R rk a i=rk p.1:=fun i hi=>⟨a[i],getElem?_pos a i hi,ha _ (by simp),iR hi⟩
 have mid:∀i j,i<b.size->j+1=a.size->R rk b i<=R rk a j:=fun i j hi hj=>by
  have:=sb i (b.size - 1) (by (clear hj hi hl h0 hb1 ha1 hk;lia)) (by (clear hj hl h0 hb1 ha1 hk;lia)) (by (clear hj hi hl h0 ha1 hk;lia));have e:a.size - 1=j:=by (clear this hi hl h0 hb1 ha1 hk;lia)
  rw [e] at hl
  (clear e hj hi h0 hb1 ha1 hk;lia)
 have m0:MI rk a b #[b[0]] 0 1:=by
  have m:MI rk a b #[] 0 0:=by
   refine ⟨by simp, ?_, ?_⟩
   ·show Kh rk ([]++a.toList.drop 0)
    rw [List.nil_append,List.drop_zero];refine List.pairwise_iff_getElem.mpr fun i j hi hj hij=> ?_;rw [Array.length_toList] at hi hj;have:=sa i j (by (clear hij hj hi hl h0 hb1 ha1 hk;lia)) (by (clear hj hi hl h0 hb1 ha1 hk;lia)) hj;rw [iR hi,iR hj] at this;simpa [Le] using this
   ·show Kh rk ([]++b.toList.drop 0)
    rw [List.nil_append,List.drop_zero];refine List.pairwise_iff_getElem.mpr fun i j hi hj hij=> ?_;rw [Array.length_toList] at hi hj;have:=sb i j (by (clear hij hj hi hl h0 hb1 ha1 hk;lia)) (by (clear hj hi hl h0 hb1 ha1 hk;lia)) hj;rw [iR hi,iR hj] at this;simpa [Le] using this
  exact m.vW (by (clear hl h0 ha1 hk;lia)) fun j _ j2=>Nat.le_trans h0 (sa 0 j (by (clear j2 hl h0 hb1 ha1 hk;lia)) (by (clear j2 hl h0 hb1 ha1 hk;lia)) j2)
 rw [Cz];refine wpS_bind (wpS_lift (wpAny_rule ⟨rfl, ?_⟩));refine wpS_bind (bV (p:=b[0]) (getElem?_pos b 0 (by (clear hl h0 ha1 hk;lia))) ?_);dsimp only;refine aU (fun e=> ?_) (fun e=> ?_)
 ·have e:1=b.size:=by simpa using e
  exact wpS_pure (h _ _ (.refl _) (m0.done (.inr e)))
 have eb:¬1=b.size:=by simpa using e
 refine aU (fun e=> ?_) (fun e=> ?_)
 ·have e:1=a.size:=by simpa using e
  exact wpS_pure (h _ _ (.refl _) (m0.last fun i j _ hi _ hj=>mid i j hi (by (clear hi eb hl h0 ha1 hk;lia))))
 have ea:¬1=a.size:=by simpa using e
 refine wpS_bind (wpS_get ?_)
 refine wpS_bind (wpS_mono (wpS_forRange (I:=fun x c st'=>Bh st st' /\ ∃out ia ib mg,c=(none,out,ia,ib,mg)/\MI rk a b out ia ib/\ia+2<=a.size/\ib+1<=b.size/\(a.size - ia)+(b.size - ib)+x<=a.size+b.size)
  (Q:=fun c st'=>Bh st st' /\ ∃r cc,c=(some r,cc)/\Mg rk a b r) ?step ?fin ⟨.refl _,_,_,_,_,rfl,m0,by (clear e eb hl h0 hk;lia),by (clear ea e hl h0 ha1 hk;lia),by (clear ea e eb hl h0 ha1 hk;lia)⟩) ?post)
 case post=>
  rintro c st' ⟨kp,r,cc,rfl,m⟩;exact wpS_pure (h _ _ kp m)
 case fin=>
  rintro c st' ⟨kp,out,ia,ib,mg,rfl,m,a1,b1,le⟩
  (clear b1 ea e eb hl h0 ha1 hk;lia)
 case step=>
  rintro x c st' _ hx ⟨kp,out,ia,ib,mg,rfl,m,a1,b1,le⟩;dsimp only
  refine wpS_bind (wpS_mono (wpS_forRange (I:=fun y c st2=>st2=st' /\ ∃out ia ib ac bc,c=(none,out,ia,ib,ac,bc)/\MI rk a b out ia ib/\ia+2<=a.size/\ib+1<=b.size/\(a.size - ia)+(b.size - ib)+x+y<=a.size+b.size)
   (Q:=fun c st2=>st2=st'/\((∃r cc,c=(some r,cc)/\Mg rk a b r) \/ ∃out ia ib ac bc,c=(none,out,ia,ib,ac,bc)/\MI rk a b out ia ib/\ia+2<=a.size/\ib+1<=b.size/\(a.size - ia)+(b.size - ib)+x+1<=a.size+b.size)) ?step1 ?Vi ⟨rfl,_,_,_,_,_,rfl,m,a1,b1,by (clear b1 a1 hx ea e eb hl h0 ha1 hk;lia)⟩) ?Lw)
  case Vi=>
   rintro c st2 ⟨rfl,out,ia,ib,ac,bc,rfl,m,a1,b1,le⟩
   (clear b1 hx ea e eb hl h0 ha1 hk;lia)
  case step1=>
   rintro y c st2 _ hy ⟨rfl,out,ia,ib,ac,bc,rfl,m,a1,b1,le⟩;dsimp only;obtain ⟨p,ep,mp,rp⟩:=X5 ib (by (clear le a1 hy hx ea e eb hl h0 ha1 hk;lia));obtain ⟨q,eq,mq,rq⟩:=RK ia (by (clear rp ep le b1 hy hx ea e eb hl h0 ha1 hk;lia));refine wpS_bind (bV ep (wpS_bind (bV eq (wpS_bind (vH C (kp.k.trans hk) mp mq ?_)))));dsimp only;have cI:p=b[ib]:=by rw [getElem?_pos b ib (by (clear rq eq rp ep le a1 hy hx ea e eb hl h0 ha1 hk;lia))] at ep;exact (Option.some.inj ep).symm
   have iz:q=a[ia]:=by rw [getElem?_pos a ia (by (clear cI rq eq rp ep le b1 hy hx ea e eb hl h0 ha1 hk;lia))] at eq;exact (Option.some.inj eq).symm
   refine aU (fun lt=> ?_) (fun lt=> ?_)
   ·have lt:R rk b ib<R rk a ia:=by rw [rp,rq];simpa using lt
    have m2:MI rk a b (out.push p) ia (ib+1):=by
     rw [cI];exact m.vW (by (clear lt iz cI rq eq rp ep le a1 hy hx ea e eb hl h0 ha1 hk;lia)) fun j j1 j2=>by have:=sa ia j (by (clear j2 j1 lt iz cI rq eq rp ep le b1 a1 hy hx ea e eb hl h0 ha1 hk;lia)) j1 j2;(clear j2 j1 iz cI rq eq rp ep le b1 a1 hy hx ea e eb hl h0 ha1 hk;lia)
    refine wpS_bind (bV ep ?_);refine aU (fun e=> ?_) (fun e=> ?_)
    ·exact wpS_pure ⟨rfl,.inl ⟨_,_,rfl,m2.done (.inr (by simpa using e))⟩⟩
    have e:¬ib+1=b.size:=by simpa using e
    refine aU (fun _=> ?_) (fun _=> ?_)
    ·exact wpS_pure ⟨rfl,.inr ⟨_,_,_,_,_,rfl,m2,a1,by (clear lt iz cI rq eq rp ep le a1 hy hx ea eb hl h0 ha1 hk;lia),by (clear e lt iz cI rq eq rp ep a1 hy hx ea eb hl h0 ha1 hk;lia)⟩⟩
    ·exact wpS_pure ⟨rfl,_,_,_,_,_,rfl,m2,a1,by (clear lt iz cI rq eq rp ep le a1 hy hx ea eb hl h0 ha1 hk;lia),by (clear e lt iz cI rq eq rp ep a1 hy hx ea eb hl h0 ha1 hk;lia)⟩
   ·have lt:R rk a ia<=R rk b ib:=by rw [rp,rq];simpa using lt
    have m2:MI rk a b (out.push q) (ia+1) ib:=by
     rw [iz];exact m.vX (by (clear lt iz cI rq eq rp ep le b1 hy hx ea e eb hl h0 ha1 hk;lia)) fun j j1 j2=>by have:=sb ib j (by (clear j2 j1 lt iz cI rq eq rp ep le b1 a1 hy hx ea e eb hl h0 ha1 hk;lia)) j1 j2;(clear j2 j1 iz cI rq eq rp ep le b1 a1 hy hx ea e eb hl h0 ha1 hk;lia)
    refine wpS_bind (bV eq ?_);refine aU (fun e=> ?_) (fun e=> ?_)
    ·have e:ia+1+1=a.size:=by simpa using e
     exact wpS_pure ⟨rfl,.inl ⟨_,_,rfl,m2.last fun i j _ hi _ hj=>mid i j hi (by (clear hi lt iz cI rq eq rp ep le b1 a1 hy hx ea eb hl h0 ha1 hk;lia))⟩⟩
    have e:¬ia+1+1=a.size:=by simpa using e
    refine aU (fun _=> ?_) (fun _=> ?_)
    ·exact wpS_pure ⟨rfl,.inr ⟨_,_,_,_,_,rfl,m2,by (clear lt iz cI rq eq rp ep le b1 hy hx ea eb hl h0 ha1 hk;lia),b1,by (clear e lt iz cI rq eq rp ep b1 hy hx ea eb hl h0 ha1 hk;lia)⟩⟩
    ·exact wpS_pure ⟨rfl,_,_,_,_,_,rfl,m2,by (clear lt iz cI rq eq rp ep le b1 hy hx ea eb hl h0 ha1 hk;lia),b1,by (clear e lt iz cI rq eq rp ep b1 hy hx ea eb hl h0 ha1 hk;lia)⟩
  case Lw=>
   rintro c st2 ⟨rfl,(⟨r,cc,rfl,mr⟩|⟨out,ia,ib,ac,bc,rfl,m,a1,b1,le⟩)⟩
   ·exact wpS_pure ⟨kp,r,_,rfl,mr⟩
   dsimp only;refine wpS_bind (wpS_lift (wpAny_rule ⟨rfl, ?_⟩))
   refine wpS_bind (wpS_mono (wpS_forRange (I:=fun y c st3=>Bh st st3 /\ ∃out ia ib mg ac bc,c=(none,out,ia,ib,mg,ac,bc)/\MI rk a b out ia ib/\ia+2<=a.size/\ib+1<=b.size/\(a.size - ia)+(b.size - ib)+x+1+y<=a.size+b.size)
    (Q:=fun c st3=>Bh st st3/\((∃r cc,c=(some r,cc)/\Mg rk a b r) \/ ∃out ia ib mg ac bc,c=(none,out,ia,ib,mg,ac,bc)/\MI rk a b out ia ib/\ia+2<=a.size/\ib+1<=b.size/\(a.size - ia)+(b.size - ib)+x+1<=a.size+b.size)) ?La ?fin2 ⟨kp,_,_,_,_,_,_,rfl,m,a1,b1,by (clear b1 a1 hx ea e eb hl h0 ha1 hk;lia)⟩) ?post2)
   case fin2=>
    rintro c st3 ⟨H_,out,ia,ib,mg,ac,bc,rfl,m,a1,b1,le⟩
    (clear b1 a1 hx ea e eb hl h0 ha1 hk;lia)
   case post2=>
    rintro c st3 ⟨H_,(⟨r,cc,rfl,mr⟩|⟨out,ia,ib,mg,ac,bc,rfl,m,a1,b1,le⟩)⟩
    ·exact wpS_pure ⟨H_,r,_,rfl,mr⟩
    dsimp only;refine wpS_bind (oN fun nU k4=>wpS_pure ⟨H_.trans k4,_,_,_,_,rfl,m,a1,b1,by (clear b1 a1 hx ea e eb hl h0 ha1 hk;lia)⟩)
   case La=>
    rintro y c st3 _ hy ⟨H_,out,ia,ib,mg,ac,bc,rfl,m,a1,b1,le⟩;dsimp only;refine aU (fun _=> ?_) (fun _=> ?_)
    all_goals
     refine wpS_bind (oN fun nU k4=> ?_);have uz:=H_.trans k4;obtain ⟨p,ep,mp,rp⟩:=X5 ib (by (clear le a1 hy hx ea e eb hl h0 ha1 hk;lia));have cI:p=b[ib]:=by rw [getElem?_pos b ib (by (clear rp ep le a1 hy hx ea e eb hl h0 ha1 hk;lia))] at ep;exact (Option.some.inj ep).symm
     refine wpS_bind (bV ep (wpS_bind (i_ C (uz.k.trans hk) mp ha (by (clear cI rp ep le b1 hy hx ea e eb hl h0 ha1 hk;lia)) (by (clear cI rp ep le b1 hy hx ea e eb hl h0 ha1 hk;lia)) (fun i j h1 h2 h3=>sa i j (by (clear h3 h2 h1 cI rp ep le b1 a1 hy hx ea e eb hl h0 ha1 hk;lia)) h2 (by (clear h2 h1 cI rp ep le b1 hy hx ea e eb hl h0 ha1 hk;lia))) fun k k1 k2 k3=> ?_)));dsimp only
     have mA:MI rk a b (out++a.extract ia (ia+k)) (ia+k) ib:=m.tE (k:=k) fun i hi hs j j1 j2=>by
      have e1:=Rm (k2 i hi);have e2:=sb ib j (by (clear e1 j2 j1 hs hi k1 cI rp ep le b1 a1 hy hx ea e eb hl h0 ha1 hk;lia)) j1 j2;rw [rp] at e2
      (clear j2 j1 hs hi k1 cI rp ep le b1 a1 hy hx ea e eb hl h0 ha1 hk;lia)
     have nxt:∀j,ia+k<=j->j<a.size->R rk b ib<=R rk a j:=fun j j1 j2=>by
      have:=Oz (k3 (j - ia) (by (clear j2 k1 cI rp ep le b1 a1 hy hx ea e eb hl h0 ha1 hk;lia)) (by (clear j1 k1 cI rp ep le b1 hy hx ea e eb hl h0 ha1 hk;lia)));rw [show ia+(j - ia)=j by (clear this j2 k1 cI rp ep le b1 a1 hy hx ea e eb hl h0 ha1 hk;lia)] at this;rw [rp];(clear j2 j1 k1 cI rp ep le b1 a1 hy hx ea e eb hl h0 ha1 hk;lia)
     apply aU
     case' h1=>
      intro kpos;refine aU (fun e=> ?_) (fun e=> ?_)
      ·have e:ia+k+1=a.size:=by simpa using e
       exact wpS_pure ⟨uz,.inl ⟨_,_,rfl,mA.last fun i j _ hi _ hj=>mid i j hi (by (clear hi kpos k1 cI rp ep le b1 a1 hy hx ea eb hl h0 ha1 hk;lia))⟩⟩
      have e1:¬ia+k+1=a.size:=by simpa using e
      refine aU (fun e=> ?_) (fun e=> ?_)
      ·exact wpS_pure ⟨uz,.inl ⟨_,_,rfl,mA.done (.inl (by simpa using e))⟩⟩
      have e2:¬ia+k=a.size:=by simpa using e
      have a3:ia+k+2<=a.size:=by (clear e kpos cI rp ep le b1 hy hx ea eb hl h0 ha1 hk;lia)
      have h_:(a.size - (ia+k))+(b.size - ib)+x+1+y<=a.size+b.size:=by (clear a3 e2 e e1 kpos k1 cI rp ep b1 a1 hy hx ea eb hl h0 ha1 hk;lia)
      generalize out++a.extract ia (ia+k)=ajs at mA ⊢;generalize ia+k=ia3 at mA nxt a3 h_ ⊢
     case' h2=>
      intro kpos;have k0:k=0:=by (clear k1 cI rp ep le b1 a1 hy hx ea e eb hl h0 ha1 hk;lia)
      have a3:ia+2<=a.size:=by (clear k0 kpos k1 cI rp ep le b1 hy hx ea e eb hl h0 ha1 hk;lia)
      have h_:(a.size - ia)+(b.size - ib)+x+1+y<=a.size+b.size:=by (clear a3 k0 kpos k1 cI rp ep b1 a1 hy hx ea e eb hl h0 ha1 hk;lia)
      subst k0
      replace nxt:∀j,ia<=j->j<a.size->R rk b ib<=R rk a j:=nxt
      replace mA:=m
     all_goals
      have mB:=mA.vW (by (clear kpos k1 h_ a3 cI rp ep le a1 hy hx ea e eb hl h0 ha1 hk;lia)) nxt;rw [←cI] at mB;refine wpS_bind (bV ep ?_);refine aU (fun e=> ?_) (fun e=> ?_)
      ·exact wpS_pure ⟨uz,.inl ⟨_,_,rfl,mB.done (.inr (by simpa using e))⟩⟩
      have e3:¬ib+1=b.size:=by simpa using e
      obtain ⟨q,eq,mq,rq⟩:=RK _ (show _<a.size from Nat.lt_of_lt_of_le (Nat.lt_succ_of_lt (Nat.lt_succ_self _)) a3);refine wpS_bind (bV eq (wpS_bind (i_ C (uz.k.trans hk) mq hb (by (clear rq eq e3 e kpos k1 h_ a3 cI rp ep le a1 hy hx ea eb hl h0 ha1 hk;lia)) (by (clear rq eq e kpos k1 h_ a3 cI rp ep le a1 hy hx ea eb hl h0 ha1 hk;lia)) (fun i j h1 h2 h3=>sb i j (by (clear h3 h2 h1 rq eq e3 e kpos k1 h_ a3 cI rp ep le b1 a1 hy hx ea eb hl h0 ha1 hk;lia)) h2 (by (clear h2 h1 rq eq e3 e kpos k1 h_ a3 cI rp ep le a1 hy hx ea eb hl h0 ha1 hk;lia))) fun k' l1 l2 l3=> ?_)));dsimp only
      have mC:=mB.sZ (k:=k') fun i hi hs j j1 j2=>by
       have e1:=VR (l2 i hi);have e2:=sa _ j (by (clear e1 j2 j1 hs hi l1 rq eq e3 e kpos k1 h_ a3 cI rp ep le b1 a1 hy hx ea eb hl h0 ha1 hk;lia)) j1 j2;rw [rq] at e2
       (clear j2 j1 hs hi l1 rq eq e3 e kpos k1 h_ a3 cI rp ep le b1 a1 hy hx ea eb hl h0 ha1 hk;lia)
      apply aU
      case' h1=>
       intro kpos;refine aU (fun e=> ?_) (fun e=> ?_)
       ·exact wpS_pure ⟨uz,.inl ⟨_,_,rfl,mC.done (.inr (by simpa using e))⟩⟩
       have e5:¬ib+1+k'=b.size:=by simpa using e
       have nx:∀j,ib+1+k'<=j->j<b.size->rk q.1<=R rk b j:=fun j j1 j2=>by
        have:=Ea (l3 (j - (ib+1)) (by (clear j2 e5 e kpos l1 rq eq e3 k1 h_ a3 cI rp ep le b1 a1 hy hx ea eb hl h0 ha1 hk;lia)) (by (clear j1 e5 e kpos l1 rq eq k1 h_ a3 cI rp ep le a1 hy hx ea eb hl h0 ha1 hk;lia)));rw [show ib+1+(j - (ib+1))=j by (clear this j2 e5 e kpos l1 rq eq e3 k1 h_ a3 cI rp ep le b1 a1 hy hx ea eb hl h0 ha1 hk;lia)] at this
        (clear j2 j1 e5 e kpos l1 rq eq e3 k1 h_ a3 cI rp ep le b1 a1 hy hx ea eb hl h0 ha1 hk;lia)
       have b3:ib+1+k'+1<=b.size:=by (clear e kpos rq eq e3 k1 h_ a3 cI rp ep le a1 hy hx ea eb hl h0 ha1 hk;lia)
      case' h2=>
       intro kpos;have k0:k'=0:=by (clear l1 rq eq e3 e k1 h_ a3 cI rp ep le b1 a1 hy hx ea eb hl h0 ha1 hk;lia)
       have nx:∀j,ib+1<=j->j<b.size->rk q.1<=R rk b j:=fun j j1 j2=>by
        have:=Ea (l3 (j - (ib+1)) (by (clear j2 j1 k0 l1 rq eq e3 e k1 h_ a3 cI rp ep le b1 a1 hy hx ea eb hl h0 ha1 hk;lia)) (by (clear j1 k0 kpos l1 rq eq e k1 h_ a3 cI rp ep le a1 hy hx ea eb hl h0 ha1 hk;lia)));rw [show ib+1+(j - (ib+1))=j by (clear this j2 k0 kpos l1 rq eq e3 e k1 h_ a3 cI rp ep le b1 a1 hy hx ea eb hl h0 ha1 hk;lia)] at this
        (clear j2 j1 k0 kpos l1 rq eq e3 e k1 h_ a3 cI rp ep le b1 a1 hy hx ea eb hl h0 ha1 hk;lia)
       have b3:ib+1+1<=b.size:=by (clear k0 kpos l1 rq eq e k1 h_ a3 cI rp ep le a1 hy hx ea eb hl h0 ha1 hk;lia)
       replace mC:=mB
      all_goals
       have mD:=mC.vX (by (clear b3 kpos l1 rq eq e3 e k1 h_ cI rp ep le b1 hy hx ea eb hl h0 ha1 hk;lia)) (fun j j1 j2=>by rw [rq];exact nx j j1 j2);have iz:=Option.some.inj ((getElem?_pos a _ (by (clear b3 kpos l1 rq eq e3 e k1 h_ cI rp ep le b1 hy hx ea eb hl h0 ha1 hk;lia))).symm.trans eq);rw [iz] at mD;refine wpS_bind (bV eq ?_);refine aU (fun e=> ?_) (fun e=> ?_)
       ·exact wpS_pure ⟨uz,.inl ⟨_,_,rfl,mD.last fun i j _ hi _ hj=>mid i j hi (by have e:=eq_of_beq e;(clear hi iz b3 kpos l1 rq eq e3 k1 h_ a3 cI rp ep le b1 a1 hy hx ea eb hl h0 ha1 hk;lia))⟩⟩
       have e6:¬_=a.size:=fun z=>e (beq_iff_eq.mpr z);refine aU (fun _=> ?_) (fun _=> ?_)
       ·exact wpS_pure ⟨uz,.inr ⟨_,_,_,_,_,_,rfl,mD,by (clear e iz b3 kpos l1 rq eq e3 k1 h_ cI rp ep le b1 hy hx ea eb hl h0 ha1 hk;lia),by (clear e6 e iz b3 kpos rq eq k1 h_ a3 cI rp ep le a1 hy hx ea eb hl h0 ha1 hk;lia),by (clear e6 e iz b3 kpos l1 rq eq e3 k1 a3 cI rp ep b1 a1 hy hx ea eb hl h0 ha1 hk;lia)⟩⟩
       ·exact wpS_pure ⟨uz,_,_,_,_,_,_,rfl,mD,by (clear e iz b3 kpos l1 rq eq e3 k1 h_ cI rp ep le b1 hy hx ea eb hl h0 ha1 hk;lia),by (clear e6 e iz b3 kpos rq eq k1 h_ a3 cI rp ep le a1 hy hx ea eb hl h0 ha1 hk;lia),by (clear e6 e iz b3 kpos l1 rq eq e3 k1 a3 cI rp ep hy hx ea eb hl h0 ha1 hk;lia)⟩
end
end Tim
set_option Elab.async false
set_option linter.all false
set_option maxRecDepth 100000
set_option maxHeartbeats 4000000
namespace Tim
open PySem PyProof.Rows
abbrev jx (a b out:Array Keyed) (na nb:Nat):Array Keyed:=a.extract 0 na++b.extract 0 nb++out.reverse
abbrev oY (a b out:Array Keyed) (na nb:Nat):Array Keyed:=b.extract 0 nb++a.extract 0 na++out.reverse
theorem CG (a b:Array Keyed):v9 a b=(do
 rule "list.sort.merge-hi"
 let total:=a.size+b.size
 let mut na:=a.size - 1
 let mut nb:=b.size
 let mut out:Array Keyed:= #[←elem' a na]
 if na==0 then return jx a b out na nb
 if nb==1 then return oY a b out na nb
 let mut minGallop:=gallopOf (←get)
 for _ in [0:total] do
  let mut acount:=0
  let mut bcount:=0
  for _ in [0:total] do
   let some aWins ←lt' (←elem' b (nb - 1)) (←elem' a (na - 1))|return jx a b out na nb
   if aWins then
    na:=na - 1;out:=out.push (←elem' a na);acount:=acount+1;bcount:=0
    if na==0 then return jx a b out na nb
    if acount≥minGallop then break
   else
    nb:=nb - 1;out:=out.push (←elem' b nb);bcount:=bcount+1;acount:=0
    if nb==1 then return oY a b out na nb
    if bcount≥minGallop then break
  rule "list.sort.gallop"
  minGallop:=minGallop+1
  for _ in [0:total] do
   if minGallop>1 then minGallop:=minGallop - 1
   fO minGallop
   let some at_ ←j9 false (←elem' b (nb - 1)) a 0 na (na - 1)|return jx a b out na nb
   let k:=na - at_
   acount:=k
   if k>0 then
    out:=out++(a.extract at_ na).reverse;na:=at_
    if na==0 then return jx a b out na nb
   nb:=nb - 1;out:=out.push (←elem' b nb)
   if nb==1 then return oY a b out na nb
   let some at_ ←j9 true (←elem' a (na - 1)) b 0 nb (nb - 1)|return jx a b out na nb
   let k:=nb - at_
   bcount:=k
   if k>0 then
    out:=out++(b.extract at_ nb).reverse;nb:=at_
    if nb==1 then return oY a b out na nb
    if nb==0 then return jx a b out na nb
   na:=na - 1;out:=out.push (←elem' a na)
   if na==0 then return jx a b out na nb
   if acount<7&&bcount<7 then break
  minGallop:=minGallop+1
  fO minGallop
 unsupported "internal:list.sort.merge-bound"):=rfl
section
variable {rk:Value->Nat} {a b out:Array Keyed} {na nb k:Nat}
structure MH (rk:Value->Nat) (a b out:Array Keyed) (na nb:Nat):Prop where
 perm:(a.toList.take na++(b.toList.take nb++out.toList.reverse)).Perm (a.toList++b.toList)
 sa:Kh rk (a.toList.take na++out.toList.reverse)
 sb:Kh rk (b.toList.take nb++out.toList.reverse)
theorem Em (l:List Keyed) {i j:Nat} (h:i<=j):l.take j=l.take i++(l.drop i).take (j - i):=by
 rw [List.take_drop,show i+(j - i)=j by lia];have:=(List.take_append_drop i (l.take j)).symm;rwa [List.take_take,Nat.min_eq_left h] at this
theorem JF {a:Array Keyed} {x:Keyed} (h:x∈a.toList.take na):∃j,j<na/\j<a.size/\R rk a j=rk x.1:=by
 have h':x∈(a.toList.drop 0).take na:=by rw [List.drop_zero];exact h
 obtain ⟨j,j1,j2,j3⟩:=jk (rk:=rk) h';rw [Nat.zero_add] at j2 j3;exact ⟨j,j1,j2,j3⟩
theorem MH.tE (m:MH rk a b out na nb) {at_:Nat} (hat:at_<=na) (hle:∀i,at_<=i->i<na->i<a.size -> ∀j,j<nb->j<b.size->R rk b j<=R rk a i):MH rk a b (out++(a.extract at_ na).reverse) at_ nb:=by
 have e:(out++(a.extract at_ na).reverse).toList.reverse=(a.toList.drop at_).take (na - at_)++out.toList.reverse:=by
  rw [Array.toList_append,List.reverse_append,Array.toList_reverse,List.reverse_reverse,cV]
 have sp:=Em a.toList hat;refine ⟨?_, ?_, ?_⟩
 ·rw [e]
  refine List.Perm.trans ?_ m.perm;rw [sp,List.append_assoc];refine List.Perm.append_left _ ?_;rw [←List.append_assoc,←List.append_assoc];exact List.Perm.append_right _ List.perm_append_comm
 ·rw [e,←List.append_assoc,←sp]
  exact m.sa
 ·rw [e]
  have h1:=m.sa;rw [sp,List.append_assoc] at h1;have h2:=ji.mp (ji.mp h1).2.1;have h3:=ji.mp m.sb;refine ji.mpr ⟨h3.1,ji.mpr ⟨h2.1,h3.2.1,h2.2.2⟩,fun p hp q hq=> ?_⟩;rcases List.mem_append.mp hq with hq|hq
  ·obtain ⟨i,i1,i2,i3⟩:=JF (rk:=rk) hp
   obtain ⟨j,j1,j2,j3⟩:=jk (rk:=rk) hq;rw [←i3,←j3];exact hle _ (by (clear j3 j2 j1 i3 i2 i1 h3 h2 sp e hat;lia)) (by (clear j3 j2 i3 i2 i1 h3 h2 sp e hat;lia)) j2 i i1 i2
  ·exact h3.2.2 p hp q hq
theorem MH.swap (m:MH rk a b out na nb):MH rk b a out nb na:=by
 refine ⟨?_,m.sb,m.sa⟩;refine List.Perm.trans ?_ (m.perm.trans List.perm_append_comm);rw [←List.append_assoc,←List.append_assoc];exact List.Perm.append_right _ List.perm_append_comm
theorem MH.sZ (m:MH rk a b out na nb) {at_:Nat} (hat:at_<=nb) (hle:∀i,at_<=i->i<nb->i<b.size -> ∀j,j<na->j<a.size->R rk a j<=R rk b i):MH rk a b (out++(b.extract at_ nb).reverse) na at_:=(m.swap.tE hat hle).swap
theorem Lq (h1:1<=na) (h:na<=a.size):out.push (a[na - 1]'(by lia))=out++(a.extract (na - 1) na).reverse:=by
 have e:=Cd (out:= #[]) (b:=a) (ib:=na - 1) (by lia);rw [show na - 1+1=na by (clear e h;lia)] at e
 have e2:a.extract (na - 1) na = #[a[na - 1]'(by (clear e;lia))]:=by
  apply Array.toList_inj.mp;have:=congrArg Array.toList e;rw [Array.toList_append] at this;simpa using this.symm
 rw [e2];apply Array.toList_inj.mp;simp
theorem MH.vX (m:MH rk a b out na nb) (h1:1<=na) (h:na<=a.size) (hle:∀j,j<nb->j<b.size->R rk b j<=R rk a (na - 1)):MH rk a b (out.push (a[na - 1]'(by lia))) (na - 1) nb:=by
 rw [Lq h1 h];refine m.tE (by (clear h h1;lia)) fun i i1 i2 i3 j j1 j2=> ?_;have:i=na - 1:=by (clear j2 j1 i3 h h1;lia)
 subst this;exact hle j j1 j2
theorem MH.vW (m:MH rk a b out na nb) (h1:1<=nb) (h:nb<=b.size) (hle:∀j,j<na->j<a.size->R rk a j<=R rk b (nb - 1)):MH rk a b (out.push (b[nb - 1]'(by lia))) na (nb - 1):=(m.swap.vX h1 h hle).swap
theorem uW:(jx a b out na nb).toList=a.toList.take na++(b.toList.take nb++out.toList.reverse):=by
 unfold jx;rw [Array.toList_append,Array.toList_append,cV,cV,Array.toList_reverse,List.append_assoc];rfl
theorem MH.done (m:MH rk a b out na nb) (h:na=0\/nb=0):Mg rk a b (jx a b out na nb):=by
 refine ⟨by rw [uW];exact m.perm, ?_⟩;rw [uW];rcases h with h|h
 ·subst h
  exact m.sb
 ·subst h
  exact m.sa
theorem MH.first (m:MH rk a b out na nb) (h:∀i j,i<nb->i<b.size->j<na->j<a.size->R rk b i<=R rk a j):Mg rk a b (oY a b out na nb):=by
 have m2:=m.tE (at_:=0) (by lia) fun i _ i2 i3 j j1 j2=>h j i j1 j2 i2 i3
 have e:oY a b out na nb=jx a b (out++(a.extract 0 na).reverse) 0 nb:=by
  apply Array.toList_inj.mp;rw [uW,uW,Array.toList_append,List.reverse_append,Array.toList_reverse,List.reverse_reverse,cV];simp
 rw [e];exact m2.done (.inl rfl)
end
section
variable {prog:Program} {w:World} {A:Around} {E:Value->Shared->Prop} {s:Shared} {κ:SortKind} {a₀:Array Keyed} {rk:Value->Nat}
theorem Bk {st:SortSt} {a b:Array Keyed} {Q:Array Keyed->SortSt->Prop} (C:GJ prog w A s κ a₀ rk) (hk:kindOf st=κ) (ha:∀p∈a.toList,p∈a₀.toList) (hb:∀p∈b.toList,p∈a₀.toList)
 (ha1:1<=a.size) (hb1:1<=b.size) (sa:Seg rk a 0 a.size) (sb:Seg rk b 0 b.size) (h0:R rk b 0<=R rk a 0) (hl:R rk b (b.size - 1)<=R rk a (a.size - 1))
 (h:∀r st',Bh st st'->Mg rk a b r->Q r st'):wpS (model prog w) A E s (v9 a b) Q st:=by
 have X5:∀i,i<b.size -> ∃p,b[i]? = some p/\p∈a₀.toList/\R rk b i=rk p.1:=fun i hi=>⟨b[i],getElem?_pos b i hi,hb _ (by simp),iR hi⟩;have RK:∀i,i<a.size -> ∃p,a[i]? = some p/\p∈a₀.toList/\R rk a i=rk p.1:=fun i hi=>⟨a[i],getElem?_pos a i hi,ha _ (by simp),iR hi⟩
 have mid:∀i j nb,i<nb->nb=1->j<a.size->R rk b i<=R rk a j:=fun i j nb hi hn hj=>by
  have:=sa 0 j (by (clear hj hn hi hl h0 hb1 ha1 hk;lia)) (by (clear hj hn hi hl h0 hb1 ha1 hk;lia)) hj;have e:i=0:=by (clear this hj hl h0 hb1 ha1 hk;lia)
  subst e
  (clear hi hj hn hl hb1 ha1 hk;lia)
 have m0:MH rk a b #[a[a.size - 1]] (a.size - 1) b.size:=by
  have m:MH rk a b #[] a.size b.size:=by
   refine ⟨?_, ?_, ?_⟩
   ·rw [←Array.length_toList,←Array.length_toList,List.take_length,List.take_length];simp
   ·rw [←Array.length_toList,List.take_length]
    show Kh rk (a.toList++[]);rw [List.append_nil];refine List.pairwise_iff_getElem.mpr fun i j hi hj hij=> ?_;rw [Array.length_toList] at hi hj;have:=sa i j (by (clear hij hj hi hl h0 hb1 ha1 hk;lia)) (by (clear hj hi hl h0 hb1 ha1 hk;lia)) hj;rw [iR hi,iR hj] at this;simpa [Le] using this
   ·rw [←Array.length_toList,List.take_length]
    show Kh rk (b.toList++[]);rw [List.append_nil];refine List.pairwise_iff_getElem.mpr fun i j hi hj hij=> ?_;rw [Array.length_toList] at hi hj;have:=sb i j (by (clear hij hj hi hl h0 hb1 ha1 hk;lia)) (by (clear hj hi hl h0 hb1 ha1 hk;lia)) hj;rw [iR hi,iR hj] at this;simpa [Le] using this
  exact m.vX ha1 (Nat.le_refl _) fun j j1 j2=>Nat.le_trans (sb j (b.size - 1) (by (clear j2 j1 hl h0 hb1 ha1 hk;lia)) (by (clear j2 hl h0 hb1 ha1 hk;lia)) (by (clear j2 j1 hl h0 ha1 hk;lia))) hl
 rw [CG];refine wpS_bind (wpS_lift (wpAny_rule ⟨rfl, ?_⟩));refine wpS_bind (bV (p:=a[a.size - 1]) (getElem?_pos a _ (by (clear hl h0 hb1 hk;lia))) ?_);dsimp only;refine aU (fun e=> ?_) (fun e=> ?_)
 ·exact wpS_pure (h _ _ (.refl _) (m0.done (.inl (by simpa using e))))
 have ea:¬a.size - 1=0:=fun z=>e (beq_iff_eq.mpr z);refine aU (fun e=> ?_) (fun e=> ?_)
 ·exact wpS_pure (h _ _ (.refl _) (m0.first fun i j i1 i2 j1 j2=>mid i j _ i1 (by simpa using e) j2))
 have eb:¬b.size=1:=by simpa using e
 refine wpS_bind (wpS_get ?_)
 refine wpS_bind (wpS_mono (wpS_forRange (I:=fun x c st'=>Bh st st' /\ ∃na nb out mg,c=(none,na,nb,out,mg)/\MH rk a b out na nb/\1<=na/\2<=nb/\na<=a.size/\nb<=b.size/\na+nb+x<=a.size+b.size)
  (Q:=fun c st'=>Bh st st' /\ ∃r cc,c=(some r,cc)/\Mg rk a b r) ?step ?fin ⟨.refl _,_,_,_,_,rfl,m0,by (clear eb e hl h0 hb1 hk;lia),by (clear e ea hl h0 hk;lia),by (clear eb e ea hl h0 hb1 hk;lia),by (clear eb e ea hl h0 hb1 hk;lia),by (clear eb e ea hl h0 hb1 hk;lia)⟩) ?post)
 case post=>
  rintro c st' ⟨kp,r,cc,rfl,m⟩;exact wpS_pure (h _ _ kp m)
 case fin=>
  rintro c st' ⟨kp,na,nb,out,mg,rfl,m,a1,b1,a2,b2,le⟩
  (clear b2 a2 b1 eb e ea hl h0 hb1 hk;lia)
 case step=>
  rintro x c st' _ hx ⟨kp,na,nb,out,mg,rfl,m,a1,b1,a2,b2,le⟩;dsimp only
  refine wpS_bind (wpS_mono (wpS_forRange (I:=fun y c st2=>st2=st' /\ ∃na nb out ac bc,c=(none,na,nb,out,ac,bc)/\MH rk a b out na nb/\1<=na/\2<=nb/\na<=a.size/\nb<=b.size/\na+nb+x+y<=a.size+b.size)
   (Q:=fun c st2=>st2=st'/\((∃r cc,c=(some r,cc)/\Mg rk a b r) \/ ∃na nb out ac bc,c=(none,na,nb,out,ac,bc)/\MH rk a b out na nb/\1<=na/\2<=nb/\na<=a.size/\nb<=b.size/\na+nb+x+1<=a.size+b.size)) ?step1 ?Vi ⟨rfl,_,_,_,_,_,rfl,m,a1,b1,a2,b2,by (clear b2 a2 b1 a1 hx eb e ea hl h0 hb1 hk;lia)⟩) ?Lw)
  case Vi=>
   rintro c st2 ⟨rfl,na,nb,out,ac,bc,rfl,m,a1,b1,a2,b2,le⟩
   (clear b2 a2 b1 hx eb e ea hl h0 hb1 hk;lia)
  case step1=>
   rintro y c st2 _ hy ⟨rfl,na,nb,out,ac,bc,rfl,m,a1,b1,a2,b2,le⟩;dsimp only;obtain ⟨p,ep,mp,rp⟩:=X5 (nb - 1) (by (clear le a2 b1 a1 hy hx eb e ea hl h0 hb1 hk;lia));obtain ⟨q,eq,mq,rq⟩:=RK (na - 1) (by (clear rp ep le b2 b1 a1 hy hx eb e ea hl h0 hb1 hk;lia));refine wpS_bind (bV ep (wpS_bind (bV eq (wpS_bind (vH C (kp.k.trans hk) mp mq ?_)))));dsimp only;have cI:b[nb - 1]=p:=Option.some.inj ((getElem?_pos b _ (by (clear rq eq rp ep le a2 b1 a1 hy hx eb e ea hl h0 hb1 hk;lia))).symm.trans ep);have iz:a[na - 1]=q:=Option.some.inj ((getElem?_pos a _ (by (clear cI rq eq rp ep le b2 b1 a1 hy hx eb e ea hl h0 hb1 hk;lia))).symm.trans eq);refine aU (fun lt=> ?_) (fun lt=> ?_)
   ·have lt:R rk b (nb - 1)<R rk a (na - 1):=by rw [rp,rq];simpa using lt
    have m2:=m.vX a1 a2 fun j j1 j2=>by have:=sb j (nb - 1) (by (clear j2 j1 lt iz cI rq eq rp ep le b2 a2 b1 a1 hy hx eb e ea hl h0 hb1 hk;lia)) (by (clear j2 lt iz cI rq eq rp ep le b2 a2 b1 a1 hy hx eb e ea hl h0 hb1 hk;lia)) (by (clear j2 j1 lt iz cI rq eq rp ep le a2 b1 a1 hy hx eb e ea hl h0 hb1 hk;lia));(clear j2 j1 iz cI rq eq rp ep le b2 a2 b1 a1 hy hx eb e ea hl h0 hb1 hk;lia)
    rw [iz] at m2;refine wpS_bind (bV eq ?_);refine aU (fun e=> ?_) (fun e=> ?_)
    ·exact wpS_pure ⟨rfl,.inl ⟨_,_,rfl,m2.done (.inl (by simpa using e))⟩⟩
    have e:¬na - 1=0:=fun z=>e (beq_iff_eq.mpr z);refine aU (fun _=> ?_) (fun _=> ?_)
    ·exact wpS_pure ⟨rfl,.inr ⟨_,_,_,_,_,rfl,m2,by (clear lt iz cI rq eq rp ep le b2 a2 b1 a1 hy hx eb ea hl h0 hb1 hk;lia),b1,by (clear e lt iz cI rq eq rp ep le b2 b1 a1 hy hx eb ea hl h0 hb1 hk;lia),b2,by (clear e lt iz cI rq eq rp ep b2 a2 b1 hy hx eb ea hl h0 hb1 hk;lia)⟩⟩
    ·exact wpS_pure ⟨rfl,_,_,_,_,_,rfl,m2,by (clear lt iz cI rq eq rp ep le b2 a2 b1 a1 hy hx eb ea hl h0 hb1 hk;lia),b1,by (clear e lt iz cI rq eq rp ep le b2 b1 a1 hy hx eb ea hl h0 hb1 hk;lia),b2,by (clear e lt iz cI rq eq rp ep b2 a2 b1 hy hx eb ea hl h0 hb1 hk;lia)⟩
   ·have lt:R rk a (na - 1)<=R rk b (nb - 1):=by rw [rp,rq];simpa using lt
    have m2:=m.vW (by (clear lt iz cI rq eq rp ep le b2 a2 a1 hy hx eb e ea hl h0 hb1 hk;lia)) b2 fun j j1 j2=>by have:=sa j (na - 1) (by (clear j2 j1 lt iz cI rq eq rp ep le b2 a2 b1 a1 hy hx eb e ea hl h0 hb1 hk;lia)) (by (clear j2 lt iz cI rq eq rp ep le b2 a2 b1 a1 hy hx eb e ea hl h0 hb1 hk;lia)) (by (clear j2 j1 lt iz cI rq eq rp ep le b2 b1 a1 hy hx eb e ea hl h0 hb1 hk;lia));(clear j2 j1 iz cI rq eq rp ep le b2 a2 b1 a1 hy hx eb e ea hl h0 hb1 hk;lia)
    rw [cI] at m2;refine wpS_bind (bV ep ?_);refine aU (fun e=> ?_) (fun e=> ?_)
    ·exact wpS_pure ⟨rfl,.inl ⟨_,_,rfl,m2.first fun i j i1 i2 j1 j2=>mid i j _ i1 (eq_of_beq e) j2⟩⟩
    have e:¬nb - 1=1:=fun z=>e (beq_iff_eq.mpr z);refine aU (fun _=> ?_) (fun _=> ?_)
    ·exact wpS_pure ⟨rfl,.inr ⟨_,_,_,_,_,rfl,m2,a1,by (clear lt iz cI rq eq rp ep le b2 a2 a1 hy hx eb ea hl h0 hb1 hk;lia),a2,by (clear e lt iz cI rq eq rp ep le a2 b1 a1 hy hx eb ea hl h0 hb1 hk;lia),by (clear e lt iz cI rq eq rp ep b2 a2 a1 hy hx eb ea hl h0 hb1 hk;lia)⟩⟩
    ·exact wpS_pure ⟨rfl,_,_,_,_,_,rfl,m2,a1,by (clear lt iz cI rq eq rp ep le b2 a2 a1 hy hx eb ea hl h0 hb1 hk;lia),a2,by (clear e lt iz cI rq eq rp ep le a2 b1 a1 hy hx eb ea hl h0 hb1 hk;lia),by (clear e lt iz cI rq eq rp ep b2 a2 a1 hy hx eb ea hl h0 hb1 hk;lia)⟩
  case Lw=>
   rintro c st2 ⟨rfl,(⟨r,cc,rfl,mr⟩|⟨na,nb,out,ac,bc,rfl,m,a1,b1,a2,b2,le⟩)⟩
   ·exact wpS_pure ⟨kp,r,_,rfl,mr⟩
   dsimp only;refine wpS_bind (wpS_lift (wpAny_rule ⟨rfl, ?_⟩))
   refine wpS_bind (wpS_mono (wpS_forRange (I:=fun y c st3=>Bh st st3 /\ ∃na nb out mg ac bc,c=(none,na,nb,out,mg,ac,bc)/\MH rk a b out na nb/\1<=na/\2<=nb/\na<=a.size/\nb<=b.size/\na+nb+x+1+y<=a.size+b.size)
    (Q:=fun c st3=>Bh st st3/\((∃r cc,c=(some r,cc)/\Mg rk a b r) \/ ∃na nb out mg ac bc,c=(none,na,nb,out,mg,ac,bc)/\MH rk a b out na nb/\1<=na/\2<=nb/\na<=a.size/\nb<=b.size/\na+nb+x+1<=a.size+b.size)) ?La ?fin2 ⟨kp,_,_,_,_,_,_,rfl,m,a1,b1,a2,b2,by (clear b2 a2 b1 a1 hx eb e ea hl h0 hb1 hk;lia)⟩) ?post2)
   case fin2=>
    rintro c st3 ⟨H_,na,nb,out,mg,ac,bc,rfl,m,a1,b1,a2,b2,le⟩
    (clear b2 a2 b1 a1 hx eb e ea hl h0 hb1 hk;lia)
   case post2=>
    rintro c st3 ⟨H_,(⟨r,cc,rfl,mr⟩|⟨na,nb,out,mg,ac,bc,rfl,m,a1,b1,a2,b2,le⟩)⟩
    ·exact wpS_pure ⟨H_,r,_,rfl,mr⟩
    dsimp only;refine wpS_bind (oN fun nU k4=>wpS_pure ⟨H_.trans k4,_,_,_,_,rfl,m,a1,b1,a2,b2,by (clear b2 a2 b1 a1 hx eb e ea hl h0 hb1 hk;lia)⟩)
   case La=>
    rintro y c st3 _ hy ⟨H_,na,nb,out,mg,ac,bc,rfl,m,a1,b1,a2,b2,le⟩;dsimp only;refine aU (fun _=> ?_) (fun _=> ?_)
    all_goals
     refine wpS_bind (oN fun nU k4=> ?_);have uz:=H_.trans k4;obtain ⟨p,ep,mp,rp⟩:=X5 (nb - 1) (by (clear le a2 b1 a1 hy hx eb e ea hl h0 hb1 hk;lia));have cI:b[nb - 1]=p:=Option.some.inj ((getElem?_pos b _ (by (clear rp ep le a2 b1 a1 hy hx eb e ea hl h0 hb1 hk;lia))).symm.trans ep);refine wpS_bind (bV ep (wpS_bind (i_ C (uz.k.trans hk) mp ha (by (clear cI rp ep le b2 b1 a1 hy hx eb e ea hl h0 hb1 hk;lia)) (by (clear cI rp ep le b2 a2 b1 hy hx eb e ea hl h0 hb1 hk;lia)) (fun i j h1 h2 h3=>sa i j (by (clear h3 h2 h1 cI rp ep le b2 a2 b1 a1 hy hx eb e ea hl h0 hb1 hk;lia)) h2 (by (clear h2 h1 cI rp ep le b2 b1 a1 hy hx eb e ea hl h0 hb1 hk;lia))) fun k k1 k2 k3=> ?_)));dsimp only;simp only [Nat.zero_add] at k2 k3
     have mA:=m.tE k1 fun i i1 i2 i3 j j1 j2=>by
      have e1:=Oz (k3 i i1 i2);have e2:=sb j (nb - 1) (by (clear e1 j2 j1 i3 i2 i1 k1 cI rp ep le b2 a2 b1 a1 hy hx eb e ea hl h0 hb1 hk;lia)) (by (clear e1 j2 i3 i2 i1 k1 cI rp ep le b2 a2 b1 a1 hy hx eb e ea hl h0 hb1 hk;lia)) (by (clear e1 j2 j1 i3 i2 i1 k1 cI rp ep le a2 b1 a1 hy hx eb e ea hl h0 hb1 hk;lia))
      (clear j2 j1 i3 i2 i1 k1 cI ep le b2 a2 b1 a1 hy hx eb e ea hl h0 hb1 hk;lia)
     have nxt:∀j,j<k->j<a.size->R rk a j<=R rk b (nb - 1):=fun j j1 j2=>by
      have:=Rm (k2 j j1)
      (clear j2 j1 k1 cI ep le b2 a2 b1 a1 hy hx eb e ea hl h0 hb1 hk;lia)
     apply aU
     case' h1=>
      intro kpos;refine aU (fun e=> ?_) (fun e=> ?_)
      ·exact wpS_pure ⟨uz,.inl ⟨_,_,rfl,mA.done (.inl (by simpa using e))⟩⟩
      have e1:¬k=0:=fun z=>e (beq_iff_eq.mpr z);have a3:1<=k:=by (clear e kpos k1 cI rp ep le b2 a2 b1 a1 hy hx eb ea hl h0 hb1 hk;lia)
      have a4:k<=a.size:=by (clear a3 e1 e kpos cI rp ep le b2 b1 a1 hy hx eb ea hl h0 hb1 hk;lia)
      have h_:k+nb+x+1+y<=a.size+b.size:=by (clear a4 a3 e1 e kpos cI rp ep b2 a2 b1 a1 hy hx eb ea hl h0 hb1 hk;lia)
     case' h2=>
      intro kpos;have k0:k=na:=by (clear cI rp ep le b2 a2 b1 a1 hy hx eb e ea hl h0 hb1 hk;lia)
      have a3:1<=na:=a1;have a4:na<=a.size:=a2;have h_:na+nb+x+1+y<=a.size+b.size:=by (clear a4 a3 k0 kpos k1 cI rp ep b2 a2 b1 a1 hy hx eb e ea hl h0 hb1 hk;lia)
      rw [k0] at nxt
      replace mA:=m
     all_goals
      have mB:=mA.vW (by (clear h_ a4 a3 kpos k1 cI rp ep le b2 a2 a1 hy hx eb e ea hl h0 hb1 hk;lia)) b2 nxt;rw [cI] at mB;refine wpS_bind (bV ep ?_);refine aU (fun e=> ?_) (fun e=> ?_)
      ·exact wpS_pure ⟨uz,.inl ⟨_,_,rfl,mB.first fun i j i1 i2 j1 j2=>mid i j _ i1 (eq_of_beq e) j2⟩⟩
      have e3:¬nb - 1=1:=fun z=>e (beq_iff_eq.mpr z);obtain ⟨q,eq,mq,rq⟩:=RK _ (Nat.lt_of_lt_of_le (Nat.sub_lt a3 Nat.one_pos) a4);refine wpS_bind (bV eq (wpS_bind (i_ C (uz.k.trans hk) mq hb (by (clear rq eq e3 e h_ a4 a3 kpos k1 cI rp ep le a2 b1 a1 hy hx eb ea hl h0 hb1 hk;lia)) (by (clear rq eq e3 e h_ a4 a3 kpos k1 cI rp ep le b2 a2 a1 hy hx eb ea hl h0 hb1 hk;lia)) (fun i j h1 h2 h3=>sb i j (by (clear h3 h2 h1 rq eq e3 e h_ a4 a3 kpos k1 cI rp ep le b2 a2 b1 a1 hy hx eb ea hl h0 hb1 hk;lia)) h2 (by (clear h2 h1 rq eq e3 e h_ a4 a3 kpos k1 cI rp ep le a2 b1 a1 hy hx eb ea hl h0 hb1 hk;lia))) fun k' l1 l2 l3=> ?_)));dsimp only;simp only [Nat.zero_add] at l2 l3
      have mC:=mB.sZ l1 fun i i1 i2 i3 j j1 j2=>by
       have e1:=Ea (l3 i i1 i2);have e2:=sa j _ (by (clear e1 j2 j1 i3 i2 i1 l1 rq eq e3 e h_ a4 a3 kpos k1 cI rp ep le b2 a2 b1 a1 hy hx eb ea hl h0 hb1 hk;lia)) (Nat.le_sub_one_of_lt j1) (by (clear e1 j2 j1 i3 i2 i1 l1 rq eq e3 e h_ a4 a3 kpos cI rp ep le b2 b1 a1 hy hx eb ea hl h0 hb1 hk;lia))
       (clear j2 j1 i3 i2 i1 l1 eq e3 e h_ a4 a3 kpos k1 cI rp ep le b2 a2 b1 a1 hy hx eb ea hl h0 hb1 hk;lia)
      have nx:∀j,j<k'->j<b.size->R rk b j<=rk q.1:=fun j j1 j2=>by
       have:=VR (l2 j j1)
       (clear j2 j1 l1 rq eq e3 e h_ a4 a3 kpos k1 cI rp ep le b2 a2 b1 a1 hy hx eb ea hl h0 hb1 hk;lia)
      apply aU
      case' h1=>
       intro kpos;refine aU (fun e=> ?_) (fun e=> ?_)
       ·exact wpS_pure ⟨uz,.inl ⟨_,_,rfl,mC.first fun i j i1 i2 j1 j2=>mid i j _ i1 (eq_of_beq e) j2⟩⟩
       have e4:¬k'=1:=fun z=>e (beq_iff_eq.mpr z);refine aU (fun e=> ?_) (fun e=> ?_)
       ·exact wpS_pure ⟨uz,.inl ⟨_,_,rfl,mC.done (.inr (by simpa using e))⟩⟩
       have e5:¬k'=0:=fun z=>e (beq_iff_eq.mpr z);have b3:2<=k':=by (clear e kpos l1 rq eq e3 h_ a4 a3 k1 cI rp ep le b2 a2 b1 a1 hy hx eb ea hl h0 hb1 hk;lia)
      case' h2=>
       intro kpos;have k0:k'=nb - 1:=by (clear rq eq e3 e h_ a4 a3 k1 cI rp ep le b2 a2 b1 a1 hy hx eb ea hl h0 hb1 hk;lia)
       rw [k0] at nx;have b3:2<=nb - 1:=by (clear k0 kpos l1 rq eq e h_ a4 a3 k1 cI rp ep le b2 a2 a1 hy hx eb ea hl h0 hb1 hk;lia)
       replace mC:=mB
      all_goals
       have mD:=mC.vX a3 a4 (fun j j1 j2=>by rw [rq];exact nx j j1 j2);have iz:=Option.some.inj ((getElem?_pos a _ (by (clear b3 kpos l1 rq eq e3 e h_ k1 cI rp ep le b2 a2 b1 a1 hy hx eb ea hl h0 hb1 hk;lia))).symm.trans eq);rw [iz] at mD;refine wpS_bind (bV eq ?_);refine aU (fun e=> ?_) (fun e=> ?_)
       ·exact wpS_pure ⟨uz,.inl ⟨_,_,rfl,mD.done (.inl (eq_of_beq e))⟩⟩
       have e6:¬_=0:=fun z=>e (beq_iff_eq.mpr z);refine aU (fun _=> ?_) (fun _=> ?_)
       ·exact wpS_pure ⟨uz,.inr ⟨_,_,_,_,_,_,rfl,mD,by (clear e iz b3 kpos l1 rq eq e3 h_ a4 a3 k1 cI rp ep le b2 a2 b1 a1 hy hx eb ea hl h0 hb1 hk;lia),by (clear e6 e iz b3 kpos l1 rq eq h_ a4 a3 k1 cI rp ep le b2 a2 a1 hy hx eb ea hl h0 hb1 hk;lia),by (clear e6 e iz b3 kpos l1 rq eq e3 h_ a4 a3 k1 cI rp ep le b2 b1 a1 hy hx eb ea hl h0 hb1 hk;lia),by (clear e6 e iz b3 kpos rq eq e3 h_ a4 a3 k1 cI rp ep le a2 b1 a1 hy hx eb ea hl h0 hb1 hk;lia),by (clear e6 e iz b3 kpos rq eq e3 h_ a4 a3 k1 cI rp ep b2 a2 b1 a1 hy hx eb ea hl h0 hb1 hk;lia)⟩⟩
       ·exact wpS_pure ⟨uz,_,_,_,_,_,_,rfl,mD,by (clear e iz b3 kpos l1 rq eq e3 h_ a4 a3 k1 cI rp ep le b2 a2 b1 a1 hy hx eb ea hl h0 hb1 hk;lia),by (clear e6 e iz b3 kpos l1 rq eq h_ a4 a3 k1 cI rp ep le b2 a2 a1 hy hx eb ea hl h0 hb1 hk;lia),by (clear e6 e iz b3 kpos l1 rq eq e3 h_ a4 a3 k1 cI rp ep le b2 b1 a1 hy hx eb ea hl h0 hb1 hk;lia),by (clear e6 e iz b3 kpos rq eq e3 h_ a4 a3 k1 cI rp ep le a2 b1 a1 hy hx eb ea hl h0 hb1 hk;lia),by (clear e6 e iz b3 kpos rq eq e3 h_ a4 a3 k1 cI rp ep b2 a2 b1 hy hx eb ea hl h0 hb1 hk;lia)⟩
end
end Tim
set_option Elab.async false
set_option linter.all false
set_option maxRecDepth 100000
set_option maxHeartbeats 4000000
namespace Tim
open PySem PyProof.Rows
section
variable {prog:Program} {w:World} {A:Around} {E:Value->Shared->Prop} {s:Shared} {κ:SortKind} {a₀:Array Keyed} {rk:Value->Nat} {pd:Array (Nat×Nat×Nat)}
structure SB (κ:SortKind) (a₀:Array Keyed) (pd:Array (Nat×Nat×Nat)) (st:SortSt):Prop where
 perm:(arrOf st).Perm a₀
 kind:kindOf st=κ
 failed:failedOf st=none
 pend:pendingOf st=pd
theorem SB.size {st:SortSt} (h:SB κ a₀ pd st):(arrOf st).size=a₀.size:=h.perm.size_eq
theorem SB.setArr {st:SortSt} (h:SB κ a₀ pd st) {xs:Array Keyed} (hp:xs.Perm (arrOf st)):SB κ a₀ pd (setArr st xs):=⟨hp.trans h.perm,h.kind,h.failed,h.pend⟩
theorem SB.mem {st:SortSt} (h:SB κ a₀ pd st) {p:Keyed} (hp:p∈(arrOf st).toList):p∈a₀.toList:=(Array.perm_iff_toList_perm.mp h.perm).mem_iff.mp hp
theorem jJ {st:SortSt} {i j:Nat} {Q:Option Bool->SortSt->Prop} (C:GJ prog w A s κ a₀ rk) (hB:SB κ a₀ pd st) (hi:i<a₀.size) (hj:j<a₀.size) (h:Q (some (decide (R rk (arrOf st) i<R rk (arrOf st) j))) st):
 wpS (model prog w) A E s (ltAt' i j) Q st:=by
 rw [ltAt'_eq];refine wpS_bind (wpS_get ?_);have hi':i<(arrOf st).size:=by rw [hB.size];exact hi
 have hj':j<(arrOf st).size:=by rw [hB.size];exact hj
 rw [iR hi',iR hj'] at h;exact wpS_bind (bV (getElem?_pos (arrOf st) i hi') (wpS_bind (bV (getElem?_pos (arrOf st) j hj') (vH C hB.kind (hB.mem (by simp)) (hB.mem (by simp)) h))))
def Kb (lo:Nat) (st st':SortSt):Prop:=∀i,i<lo->(arrOf st')[i]? = (arrOf st)[i]?
theorem Kb.refl {lo:Nat} {st:SortSt}:Kb lo st st:=fun _ _=>rfl
theorem Kb.trans {lo:Nat} {a b c:SortSt} (h:Kb lo a b) (g:Kb lo b c):Kb lo a c:=fun i hi=>(g i hi).trans (h i hi)
theorem xJ {xs:Array Keyed} {i j:Nat} (hj:j<=xs.size) (k:Nat):R rk (mirror xs i j ((j - i) / 2)) k=if i<=k/\k<j then R rk xs (i+j - 1 - k) else R rk xs k:=by
 have e:=getElem?_mirror_all (i:=i) hj k
 by_cases h1:i<=k/\k<j
 ·rw [if_pos h1] at e ⊢;exact gF e
 ·rw [if_neg h1] at e ⊢;exact gF e
theorem oW {st:SortSt} {lo i j:Nat} (hj:j<=(arrOf st).size) (hi:lo<=i):Kb lo st (setArr st (mirror (arrOf st) i j ((j - i) / 2))):=fun k hk=>by
 show (mirror (arrOf st) i j ((j - i) / 2))[k]? = _;rw [getElem?_mirror_all hj,if_neg (by (clear hj;lia))]
theorem jr {xs:Array Keyed} {i j:Nat} (hj:j<=xs.size) (heq:∀k,i<=k->k<j->R rk xs k=R rk xs (j - 1)) (k:Nat):R rk (mirror xs i j ((j - i) / 2)) k=R rk xs k:=by
 rw [xJ hj];split
 ·rw [heq _ (by (clear hj;lia)) (by (clear hj;lia)),heq k (by (clear hj;lia)) (by (clear hj;lia))]
 ·rfl
theorem DQ {xs:Array Keyed} {src d:Nat} (hs:src<xs.size) (hd:d<=src) (k:Nat):
 R rk (bubble xs src d) k=if k=src - d then R rk xs src else if src - d<k/\k<=src then R rk xs (k - 1) else R rk xs k:=by
 have e:=getElem?_bubble hs d hd k
 by_cases h1:k=src - d
 ·rw [if_pos h1] at e ⊢;exact gF e
 ·rw [if_neg h1] at e ⊢
  by_cases h2:src - d<k/\k<=src
  ·rw [if_pos h2] at e ⊢;exact gF e
  ·rw [if_neg h2] at e ⊢;exact gF e
def Wo (rk:Value->Nat) (xs:Array Keyed) (lo hi:Nat):Prop:=∀i j,lo<=i->i<=j->j<hi->R rk xs j<=R rk xs i
theorem wpS_countRun {st:SortSt} {lo nrem:Nat} {Q:Option Nat->SortSt->Prop} (C:GJ prog w A s κ a₀ rk) (hn:lo+nrem<=a₀.size) (h1:1<=nrem) (hB:SB κ a₀ pd st)
 (h:∀m st',SB κ a₀ pd st'->Kb lo st st'->1<=m->m<=nrem->Seg rk (arrOf st') lo (lo+m)->Q (some m) st'):wpS (model prog w) A E s (countRun' lo nrem) Q st:=by
 rw [countRun'_eq]
 refine wpS_bind (wpS_mono (wpS_forRange (I:=fun x c st'=>st'=st/\c=(none,x)/\Seg rk (arrOf st) lo (lo+x))
  (Q:=fun c st'=>st'=st /\ ∃n,c=(none,n)/\1<=n/\n<=nrem/\Seg rk (arrOf st) lo (lo+n)/\(n=nrem\/R rk (arrOf st) (lo+n)<R rk (arrOf st) (lo+n - 1))) ?step ?fin ⟨rfl,rfl,fun i j a b c=>by rw [show i=j by (clear h1 hn;lia)];exact Nat.le_refl _⟩) ?post)
 case fin=>
  rintro c st' ⟨rfl,rfl,hs⟩;rw [show max 1 nrem=nrem by (clear hn;lia)] at hs ⊢;exact ⟨rfl,nrem,rfl,h1,Nat.le_refl _,hs,.inl rfl⟩
 case step=>
  rintro x c st' x1 xn ⟨rfl,rfl,hs⟩;dsimp only;refine wpS_bind (jJ C hB (by (clear x1 h1;lia)) (by (clear x1 h1;lia)) ?_);dsimp only;refine aU (fun lt=> ?_) (fun lt=> ?_)
  ·exact wpS_pure ⟨rfl,x,rfl,x1,by (clear lt x1 h1 hn;lia),hs,.inr (of_decide_eq_true lt)⟩
  ·have lt:R rk (arrOf st') (lo+x - 1)<=R rk (arrOf st') (lo+x):=Nat.le_of_not_lt fun z=>lt (decide_eq_true z)
   refine wpS_pure ⟨rfl,rfl,fun i j a b c=> ?_⟩
   by_cases hj:j<lo+x
   ·exact hs i j a b hj
   ·have:j=lo+x:=by (clear b a lt xn x1 h1 hn;lia)
    subst this
    by_cases hi:i=lo+x
    ·rw [hi];exact Nat.le_refl _
    ·exact Nat.le_trans (hs i (lo+x - 1) a (by (clear hj c a lt xn x1 h1 hn;lia)) (by (clear hi hj c b a lt xn h1 hn;lia))) lt
 case post=>
  rintro c st' ⟨rfl,n,rfl,n1,nn,hs,hor⟩;dsimp only;have hsz:(arrOf st').size=a₀.size:=hB.size;refine aU (fun e=> ?_) (fun e=> ?_)
  ·exact wpS_pure (h n _ hB Kb.refl n1 nn hs)
  have e:¬n=nrem:=fun z=>e (beq_iff_eq.mpr z);have lt:=hor.resolve_left e;have n2:n+1<=nrem:=by (clear lt hsz hor n1 h1 hn;lia)
  apply aU
  case' h1=>
   intro gt;refine wpS_bind (jJ C hB (by (clear gt n2 lt e hsz hor nn n1;lia)) (by (clear gt n2 lt e hsz hor n1;lia)) ?_);dsimp only;refine aU (fun rose=> ?_) (fun rose=> ?_)
   ·exact wpS_pure (h n _ hB Kb.refl n1 nn hs)
   have rose:R rk (arrOf st') (lo+n - 1)<=R rk (arrOf st') lo:=Nat.le_of_not_lt fun z=>rose (decide_eq_true z)
   have all:∀k,lo<=k->k<lo+n->R rk (arrOf st') k=R rk (arrOf st') (lo+n - 1):=fun k k1 k2=>by
    have a1:=hs lo k (Nat.le_refl _) k1 k2;have a2:=hs k (lo+n - 1) k1 (by (clear a1 k1 rose gt n2 lt e hsz hor nn n1 h1 hn;lia)) (by (clear a1 k2 k1 rose gt n2 lt e hsz hor nn h1 hn;lia))
    (clear k2 k1 gt n2 lt e hsz hor nn n1 h1 hn;lia)
   rw [reverseSlice'_eq];refine wpS_bind (wpS_modify ?_);have Df:SB κ a₀ pd (setArr st' (mirror (arrOf st') lo (lo+n) ((lo+n - lo) / 2))):=hB.setArr (mirror_perm _ _ _ _);have k1:Kb lo st' (setArr st' (mirror (arrOf st') lo (lo+n) ((lo+n - lo) / 2))):=oW (by (clear rose gt n2 lt e hor n1 h1;lia)) (Nat.le_refl _)
   have dw:Wo rk (arrOf (setArr st' (mirror (arrOf st') lo (lo+n) ((lo+n - lo) / 2)))) lo (lo+n+1):=fun i j a b c=>by
    show R rk (mirror _ _ _ _) j<=R rk (mirror _ _ _ _) i;rw [jr (by (clear c b a rose gt n2 lt e hor n1 h1;lia)) all,jr (by (clear c b a rose gt n2 lt e hor n1 h1;lia)) all]
    by_cases hj:j<lo+n
    ·rw [all i a (by (clear c a rose gt n2 lt e hsz hor nn n1 h1 hn;lia)),all j (by (clear hj c rose gt n2 lt e hsz hor nn n1 h1 hn;lia)) hj];exact Nat.le_refl _
    ·have:j=lo+n:=by (clear b a rose gt n2 lt e hsz hor nn n1 h1 hn;lia)
     subst this
     by_cases hi:i=lo+n
     ·rw [hi];exact Nat.le_refl _
     ·rw [all i a (by (clear hj c a rose gt n2 lt e hsz hor nn n1 h1 hn;lia))];(clear hi hj c b a rose gt n2 lt hsz nn n1 h1 hn;lia)
   generalize setArr st' (mirror (arrOf st') lo (lo+n) ((lo+n - lo) / 2))=st1 at Df k1 dw ⊢
  case' h2=>
   intro gt;have Df:=hB;have k1:Kb lo st' st':=Kb.refl
   have dw:Wo rk (arrOf st') lo (lo+n+1):=fun i j a b c=>by
    have e1:n=1:=by (clear c b a n2 lt e hsz hor nn h1 hn;lia)
    subst e1
    by_cases hi:i=j
    ·rw [hi];exact Nat.le_refl _
    ·have:i=lo+1 - 1:=by (clear gt n2 lt e hor nn n1 hsz h1 hn;lia)
     have:j=lo+1:=by (clear this gt n2 lt e hor nn n1 hsz h1 hn;lia)
     subst_vars
     (clear hi b c a gt n2 lt nn n1 hsz h1 hn;lia)
   revert Df k1 dw;generalize hst:st'=st1;intro Df k1 dw
  all_goals
   refine wpS_bind (wpS_lift (wpAny_rule ⟨rfl, ?_⟩))
   refine wpS_bind (wpS_mono (wpS_forRange (I:=fun x c st2=>∃neq,c=(none,x,neq)/\SB κ a₀ pd st2/\Kb lo st1 st2/\Wo rk (arrOf st2) lo (lo+x)/\neq+1<=x/\(∀i,lo+x - (neq+1)<=i->i<lo+x->R rk (arrOf st2) i=R rk (arrOf st2) (lo+x - 1)))
    (Q:=fun c st2=>∃x neq,c=(none,x,neq)/\n+1<=x/\x<=nrem/\SB κ a₀ pd st2/\Kb lo st1 st2/\Wo rk (arrOf st2) lo (lo+x)/\neq+1<=x/\(∀i,lo+x - (neq+1)<=i->i<lo+x->R rk (arrOf st2) i=R rk (arrOf st2) (lo+x - 1))) ?_ ?_ ⟨0,rfl,Df,Kb.refl,dw,by (clear gt n2 lt e hsz hor nn n1 h1 hn;lia),fun i a b=>by congr 1;(clear gt n2 lt e hsz hor nn n1 h1 hn;lia)⟩) ?_)
   ·rintro x c st2 x1 xn ⟨neq,rfl,hB2,k2,d2,q2,e2⟩
    dsimp only;have lQ:(arrOf st2).size=a₀.size:=hB2.size;refine wpS_bind (jJ C hB2 (by (clear lQ q2 x1 gt n2 lt e hsz hor nn n1 h1;lia)) (by (clear lQ q2 x1 gt n2 lt e hsz hor nn n1 h1;lia)) ?_);dsimp only;refine aU (fun lt=> ?_) (fun lt=> ?_)
    ·have lt:R rk (arrOf st2) (lo+x)<R rk (arrOf st2) (lo+x - 1):=of_decide_eq_true lt
     have step1:∀xs:Array Keyed,(∀k,R rk xs k=R rk (arrOf st2) k)->Wo rk xs lo (lo+(x+1)):=by
      intro xs hk i j a b c;rw [hk,hk]
      by_cases hj:j<lo+x
      ·exact d2 i j a b hj
      ·have:j=lo+x:=by (clear b a lt lQ q2 xn x1 gt n2 e hsz hor nn n1 h1 hn;lia)
       subst this
       by_cases hi:i=lo+x
       ·rw [hi];exact Nat.le_refl _
       ·exact Nat.le_trans (Nat.le_of_lt lt) (d2 i (lo+x - 1) a (by (clear hj c a lt lQ q2 xn x1 gt n2 e hsz hor nn n1 h1 hn;lia)) (by (clear hi hj c b a lt lQ q2 xn gt n2 e hsz hor nn n1 h1 hn;lia)))
     refine aU (fun _=> ?_) (fun _=> ?_)
     ·rw [reverseSlice'_eq]
      refine wpS_bind (wpS_modify (wpS_pure ⟨0,rfl,hB2.setArr (mirror_perm _ _ _ _),k2.trans (oW (by (clear lt q2 x1 gt n2 e hsz hor nn n1 h1;lia)) (by (clear lt lQ xn x1 gt n2 e hsz hor nn n1 h1 hn;lia))),step1 _ (jr (by (clear lt q2 x1 gt n2 e hsz hor nn n1 h1;lia)) e2),by (clear lt lQ q2 xn x1 gt n2 e hsz hor nn n1 h1 hn;lia),fun i a b=>by congr 1;(clear lt lQ q2 xn x1 gt n2 e hsz hor nn n1 h1 hn;lia)⟩))
     ·exact wpS_pure ⟨0,rfl,hB2,k2,step1 _ (fun _=>rfl),by (clear lt lQ q2 xn x1 gt n2 e hsz hor nn n1 h1 hn;lia),fun i a b=>by congr 1;(clear lt lQ q2 xn x1 gt n2 e hsz hor nn n1 h1 hn;lia)⟩
    ·have ge:R rk (arrOf st2) (lo+x - 1)<=R rk (arrOf st2) (lo+x):=Nat.le_of_not_lt fun z=>lt (decide_eq_true z)
     refine wpS_bind (jJ C hB2 (by (clear ge lt lQ q2 x1 gt n2 e hsz hor nn n1 h1;lia)) (by (clear ge lt lQ q2 x1 gt n2 e hsz hor nn n1 h1;lia)) ?_);dsimp only;refine aU (fun lg=> ?_) (fun lg=> ?_)
     ·exact wpS_pure ⟨x,neq,rfl,x1,by (clear lg ge lt lQ q2 x1 gt n2 e hsz hor nn n1 h1 hn;lia),hB2,k2,d2,q2,e2⟩
     ·have le:R rk (arrOf st2) (lo+x)<=R rk (arrOf st2) (lo+x - 1):=Nat.le_of_not_lt fun z=>lg (decide_eq_true z)
      have QX:R rk (arrOf st2) (lo+x)=R rk (arrOf st2) (lo+x - 1):=by (clear lg lt lQ q2 xn x1 gt n2 e hsz hor nn n1 h1 hn;lia)
      refine wpS_pure ⟨neq+1,rfl,hB2,k2,fun i j a b c=> ?_,by (clear QX le lg ge lt lQ xn x1 gt n2 e hsz hor nn n1 h1 hn;lia),fun i a b=> ?_⟩
      ·by_cases hj:j<lo+x
       ·exact d2 i j a b hj
       ·have:j=lo+x:=by (clear b a QX le lg ge lt lQ q2 xn x1 gt n2 e hsz hor nn n1 h1 hn;lia)
        subst this
        by_cases hi:i=lo+x
        ·rw [hi];exact Nat.le_refl _
        ·rw [QX];exact d2 i (lo+x - 1) a (by (clear hj c a QX le lg ge lt lQ q2 xn x1 gt n2 e hsz hor nn n1 h1 hn;lia)) (by (clear hi hj c b a QX le lg ge lt lQ q2 xn gt n2 e hsz hor nn n1 h1 hn;lia))
      ·rw [show lo+(x+1) - 1=lo+x by (clear b a QX le lg ge lt lQ q2 xn x1 gt n2 e hsz hor nn n1 h1 hn;lia)]
       by_cases hi:i=lo+x
       ·rw [hi]
       ·rw [QX];exact e2 i (by (clear hi b QX le lg ge lt lQ q2 xn x1 gt n2 e hsz hor nn n1 h1 hn;lia)) (by (clear a QX le lg ge lt lQ q2 xn x1 gt n2 e hsz hor nn n1 h1 hn;lia))
   ·rintro c st2 ⟨neq,rfl,hB2,k2,d2,q2,e2⟩
    rw [show max (n+1) nrem=nrem by (clear q2 gt n2 lt hsz hor n1 h1 hn;lia)] at d2 q2 e2 ⊢;exact ⟨nrem,neq,rfl,n2,Nat.le_refl _,hB2,k2,d2,q2,e2⟩
   ·rintro c st2 ⟨x,neq,rfl,x1,xn,hB2,k2,d2,q2,e2⟩
    dsimp only;have lQ:(arrOf st2).size=a₀.size:=hB2.size;apply aU
    case' h1=>
     intro _;rw [reverseSlice'_eq];refine wpS_bind (wpS_modify ?_);have hB3:SB κ a₀ pd (setArr st2 (mirror (arrOf st2) (lo+x - (neq+1)) (lo+x) ((lo+x - (lo+x - (neq+1))) / 2))):=hB2.setArr (mirror_perm _ _ _ _);have k3:=k2.trans (oW (st:=st2) (lo:=lo) (i:=lo+x - (neq+1)) (j:=lo+x) (by (clear q2 x1 gt n2 lt e hsz hor nn n1 h1;lia)) (by (clear lQ xn x1 gt n2 lt e hsz hor nn n1 h1 hn;lia)))
     have d3:Wo rk (arrOf (setArr st2 (mirror (arrOf st2) (lo+x - (neq+1)) (lo+x) ((lo+x - (lo+x - (neq+1))) / 2)))) lo (lo+x):=fun i j a b c=>by
      show R rk (mirror _ _ _ _) j<=R rk (mirror _ _ _ _) i;rw [jr (by (clear c b a q2 x1 gt n2 lt e hsz hor nn n1 h1;lia)) e2,jr (by (clear c b a q2 x1 gt n2 lt e hsz hor nn n1 h1;lia)) e2];exact d2 i j a b c
     generalize setArr st2 (mirror (arrOf st2) (lo+x - (neq+1)) (lo+x) ((lo+x - (lo+x - (neq+1))) / 2))=st3 at hB3 k3 d3 ⊢
    case' h2=>
     intro _;have hB3:=hB2;have k3:=k2;have d3:=d2;revert hB3 k3 d3;generalize st2=st3;intro hB3 k3 d3
    all_goals
     have GZ:(arrOf st3).size=a₀.size:=hB3.size;rw [reverseSlice'_eq];refine wpS_bind (wpS_modify ?_);have sW:SB κ a₀ pd (setArr st3 (mirror (arrOf st3) lo (lo+x) ((lo+x - lo) / 2))):=hB3.setArr (mirror_perm _ _ _ _);have k4:=k3.trans (oW (st:=st3) (lo:=lo) (i:=lo) (j:=lo+x) (by (clear lQ q2 x1 gt n2 lt e hsz hor nn n1 h1;lia)) (by (clear GZ lQ q2 xn x1 gt n2 lt e hsz hor nn n1 h1 hn;lia)))
     have s4:Seg rk (arrOf (setArr st3 (mirror (arrOf st3) lo (lo+x) ((lo+x - lo) / 2)))) lo (lo+x):=fun i j a b c=>by
      show R rk (mirror _ _ _ _) i<=R rk (mirror _ _ _ _) j;rw [xJ (by (clear c b a lQ q2 x1 gt n2 lt e hsz hor nn n1 h1;lia)),xJ (by (clear c b a lQ q2 x1 gt n2 lt e hsz hor nn n1 h1;lia)),if_pos (by (clear GZ lQ q2 xn x1 gt n2 lt e hsz hor nn n1 h1 hn;lia)),if_pos (by (clear GZ lQ q2 xn x1 gt n2 lt e hsz hor nn n1 h1 hn;lia))];exact d3 _ _ (by (clear b a GZ lQ q2 xn x1 gt n2 lt e hsz hor nn n1 h1 hn;lia)) (by (clear c a GZ lQ q2 xn x1 gt n2 lt e hsz hor nn n1 h1 hn;lia)) (by (clear c b GZ lQ q2 xn gt n2 lt e hsz hor nn n1 h1 hn;lia))
     generalize setArr st3 (mirror (arrOf st3) lo (lo+x) ((lo+x - lo) / 2))=nU at sW k4 s4 ⊢
     refine wpS_bind (wpS_mono (wpS_forRange (I:=fun y c xR=>xR=nU/\c=(none,y)/\Seg rk (arrOf nU) lo (lo+y))
      (Q:=fun c xR=>xR=nU /\ ∃y,c=(none,y)/\x<=y/\y<=nrem/\Seg rk (arrOf nU) lo (lo+y)) ?_ ?_ ⟨rfl,rfl,s4⟩) ?_)
     ·rintro y c xR y1 yn ⟨rfl,rfl,RN⟩
      dsimp only;refine wpS_bind (jJ C sW (by (clear y1 GZ lQ q2 xn x1 gt n2 lt e hsz hor nn n1 h1;lia)) (by (clear y1 GZ lQ q2 xn x1 gt n2 lt e hsz hor nn n1 h1;lia)) ?_);dsimp only;refine aU (fun lt=> ?_) (fun lt=> ?_)
      ·exact wpS_pure ⟨rfl,y,rfl,y1,by (clear lt y1 GZ lQ q2 xn x1 gt n2 e hsz hor nn n1 h1 hn;lia),RN⟩
      ·have lt:R rk (arrOf xR) (lo+y - 1)<=R rk (arrOf xR) (lo+y):=Nat.le_of_not_lt fun z=>lt (decide_eq_true z)
       refine wpS_pure ⟨rfl,rfl,fun i j a b c=> ?_⟩
       by_cases hj:j<lo+y
       ·exact RN i j a b hj
       ·have:j=lo+y:=by (clear b a lt yn y1 GZ lQ q2 xn x1 gt n2 e hsz hor nn n1 h1 hn;lia)
        subst this
        by_cases hi:i=lo+y
        ·rw [hi];exact Nat.le_refl _
        ·exact Nat.le_trans (RN i (lo+y - 1) a (by (clear hj c a lt yn y1 GZ lQ q2 xn x1 gt n2 e hsz hor nn n1 h1 hn;lia)) (by (clear hi hj c b a lt yn GZ lQ q2 xn gt n2 e hsz hor nn n1 h1 hn;lia))) lt
     ·rintro c xR ⟨rfl,rfl,RN⟩
      rw [show max x nrem=nrem by (clear GZ lQ q2 x1 gt n2 lt e hsz hor nn n1 h1 hn;lia)] at RN ⊢;exact ⟨rfl,nrem,rfl,xn,Nat.le_refl _,RN⟩
     ·rintro c xR ⟨rfl,y,rfl,y1,yn,RN⟩
      exact wpS_pure (h y _ sW (by first |exact k1.trans k4|(subst hst;exact k4)) (by (clear yn GZ lQ q2 xn gt n2 lt e hsz hor nn n1 h1 hn;lia)) yn RN)
theorem wpS_binarySort {st:SortSt} {lo n ok:Nat} {Q:Bool->SortSt->Prop} (C:GJ prog w A s κ a₀ rk) (hn:lo+n<=a₀.size) (hok:ok<=n) (hB:SB κ a₀ pd st) (hs:Seg rk (arrOf st) lo (lo+ok))
 (h:∀st',SB κ a₀ pd st'->Kb lo st st'->Seg rk (arrOf st') lo (lo+n)->Q true st'):wpS (model prog w) A E s (binarySort' lo n ok) Q st:=by
 rw [binarySort'_eq]
 refine wpS_bind (wpS_mono (wpS_forRange (I:=fun k c st'=>c=(none,())/\SB κ a₀ pd st'/\Kb lo st st'/\Seg rk (arrOf st') lo (lo+min k n))
  (Q:=fun c st'=>c=(none,())/\SB κ a₀ pd st'/\Kb lo st st'/\Seg rk (arrOf st') lo (lo+n)) ?step ?fin ?init) ?post)
 case post=>
  rintro c st' ⟨rfl,hB',k',hs'⟩;exact wpS_pure (h st' hB' k' hs')
 case init=>
  refine ⟨rfl,hB,Kb.refl,fun i j a b c=> ?_⟩
  by_cases h1:ok=0
  ·rw [show i=j by (clear hok hn;lia)];exact Nat.le_refl _
  ·exact hs i j a b (by (clear b a hok hn;lia))
 case fin=>
  rintro c st' ⟨hc,hB',k',hs'⟩;refine ⟨hc,hB',k', ?_⟩;rwa [show min (max (max ok 1) n) n=n by (clear hc hok hn;lia)] at hs'
 case step=>
  rintro k c st' hak hkn ⟨rfl,hB',k',hs'⟩;rw [show min k n=k by (clear hak hok hn;lia)] at hs';have sz:(arrOf st').size=a₀.size:=hB'.size
  refine wpS_bind (wpS_mono (wpS_forRange (I:=fun x c st''=>st''=st' /\ ∃l r,c=(none,l,r)/\l<=r/\r<=k/\r - l<=k - x /\
   (∀i,i<l->R rk (arrOf st') (lo+i)<=R rk (arrOf st') (lo+k))/\(∀i,r<=i->i<k->R rk (arrOf st') (lo+k)<R rk (arrOf st') (lo+i)))
   (Q:=fun c st''=>st''=st' /\ ∃l r,c=(none,l,r)/\l<=k /\
     (∀i,i<l->R rk (arrOf st') (lo+i)<=R rk (arrOf st') (lo+k))/\(∀i,l<=i->i<k->R rk (arrOf st') (lo+k)<R rk (arrOf st') (lo+i))) ?istep ?ifin ?iinit) ?ipost)
  case iinit=>exact ⟨rfl,0,k,rfl,by (clear sz hkn hak hok hn;lia),by (clear sz hkn hak hok hn;lia),by (clear sz hkn hak hok hn;lia),fun i hi=>by (clear sz hkn hak hok hn;lia),fun i h1 h2=>by (clear sz hkn hak hok hn;lia)⟩
  case ifin=>
   rintro c st'' ⟨rfl,l,r,rfl,hlr,hrk,hm,hlo,hhi⟩;have:l=r:=by (clear hrk sz hkn hak hok hn;lia)
   subst this;exact ⟨rfl,l,l,rfl,hrk,hlo,hhi⟩
  case istep=>
   rintro x c st'' _ hxk ⟨rfl,l,r,rfl,hlr,hrk,hm,hlo,hhi⟩;dsimp only;refine aU (fun hge=> ?_) (fun hge=> ?_)
   ·have:l=r:=by (clear hm hrk sz hxk hkn hak hok hn;lia)
    subst this;exact wpS_pure ⟨rfl,l,l,rfl,hrk,hlo,hhi⟩
   ·refine wpS_bind (jJ C hB' (by (clear hge hm hrk hlr sz hxk hak hok;lia)) (by (clear hge hm sz hxk hak hok;lia)) ?_)
    dsimp only;refine aU (fun lt=> ?_) (fun lt=> ?_)
    ·have lt:=of_decide_eq_true lt
     refine wpS_pure ⟨rfl,l,(l+r) / 2,rfl,by (clear lt hge hm hrk sz hxk hkn hak hok hn;lia),by (clear lt hge hm sz hxk hkn hak hok hn;lia),by (clear lt hge hrk hlr sz hxk hkn hak hok hn;lia),hlo,fun i h1 h2=> ?_⟩;exact Nat.lt_of_lt_of_le lt (hs' _ _ (by (clear h2 h1 lt hge hm hrk hlr sz hxk hkn hak hok hn;lia)) (by (clear h2 lt hge hm hrk hlr sz hxk hkn hak hok hn;lia)) (by (clear h1 lt hge hm hrk hlr sz hxk hkn hak hok hn;lia)))
    ·have lt:R rk (arrOf st'') (lo+(l+r) / 2)<=R rk (arrOf st'') (lo+k):=Nat.le_of_not_lt fun z=>lt (decide_eq_true z)
     refine wpS_pure ⟨rfl,(l+r) / 2+1,r,rfl,by (clear lt hm hrk hlr sz hxk hkn hak hok hn;lia),by (clear lt hge hm hlr sz hxk hkn hak hok hn;lia),by (clear lt hge hrk hlr sz hxk hkn hak hok hn;lia),fun i h1=> ?_,hhi⟩;exact Nat.le_trans (hs' (lo+i) (lo+(l+r) / 2) (by (clear h1 lt hge hm hrk hlr sz hxk hkn hak hok hn;lia)) (by (clear lt hge hm hrk hlr sz hxk hkn hak hok hn;lia)) (by (clear h1 lt hm hlr sz hxk hkn hak hok hn;lia))) lt
  case ipost=>
   rintro c st'' ⟨rfl,l,r,rfl,hlk,hlo,hhi⟩;show wpS _ _ _ _ (do moveDown' (lo+k) (lo+l);pure (ForInStep.yield (none,()))) _ _;rw [moveDown'_eq];refine wpS_bind (wpS_modify (wpS_pure ⟨rfl,hB'.setArr (bubble_perm _ _ _),k'.trans ?_, ?_⟩))
   ·intro i hi
    show (bubble (arrOf st'') (lo+k) (lo+k - (lo+l)))[i]? = _;rw [getElem?_bubble (by (clear hi hlk hak hok;lia)) _ (by (clear hi hlk sz hkn hak hok hn;lia)),if_neg (by (clear hlk sz hkn hak hok hn;lia)),if_neg (by (clear hlk sz hkn hak hok hn;lia))]
   rw [show min (k+1) n=k+1 by (clear hlk sz hak hok hn;lia)];intro i j a b c;show R rk (bubble (arrOf st'') (lo+k) (lo+k - (lo+l))) i<=R rk (bubble (arrOf st'') (lo+k) (lo+k - (lo+l))) j;rw [DQ (by (clear c b a hlk hak hok;lia)) (by (clear c b a hlk sz hkn hak hok hn;lia)),DQ (by (clear c b a hlk hak hok;lia)) (by (clear c b a hlk sz hkn hak hok hn;lia)),show lo+k - (lo+k - (lo+l))=lo+l by (clear c b a sz hkn hak hok hn;lia)]
   have L1:∀i,lo<=i->i<lo+l->R rk (arrOf st'') i<=R rk (arrOf st'') (lo+k):=fun i i1 i2=>by
    have:=hlo (i - lo) (by (clear c b a hlk sz hkn hak hok hn;lia));rwa [show lo+(i - lo)=i by (clear this i2 c b a hlk sz hkn hak hok hn;lia)] at this
   have L2:∀i,lo+l<=i->i<lo+k->R rk (arrOf st'') (lo+k)<R rk (arrOf st'') i:=fun i i1 i2=>by
    have:=hhi (i - lo) (by (clear i2 c b a hlk sz hkn hak hok hn;lia)) (by (clear i1 c b a hlk sz hkn hok hn;lia));rwa [show lo+(i - lo)=i by (clear this i2 c b a hlk sz hkn hak hok hn;lia)] at this
   repeat' split
   all_goals first
    | (exfalso;(clear a hlk sz hkn hak hok hn;lia))
    | exact Nat.le_refl _
    | exact L1 _ (by (clear c b hlk sz hkn hak hok hn;lia)) (by (clear c a hlk sz hkn hak hok hn;lia))
    | exact Nat.le_of_lt (L2 _ (by (clear c b a hlk sz hkn hak hok hn;lia)) (by (clear c b a hlk sz hkn hak hok hn;lia)))
    | exact hs' _ _ (by (clear c b hlk sz hkn hak hok hn;lia)) (by (clear c a hlk sz hkn hak hok hn;lia)) (by (clear b a sz hkn hak hok hn;lia))
end
end Tim
set_option Elab.async false
set_option linter.all false
set_option maxRecDepth 100000
set_option maxHeartbeats 4000000
namespace Tim
open PySem PyProof.Rows
theorem CJ (i:Nat):mergeAt' i=(do
 let s ←get
 let (some (sa,na,power),some (sb,nb,_)):=((pendingOf s)[i]?,(pendingOf s)[i+1]?)|unsupported "internal:list.sort.pending"
 set (SortSt.mk' (kindOf s) (arrOf s) (((pendingOf s).setIfInBounds i (sa,na+nb,power)).eraseIdxIfInBounds (i+1)) (gallopOf s) (failedOf s))
 let some k ←j9 false (←elem' (arrOf s) sb) (arrOf s) sa na 0|return false
 let (sa,na):=(sa+k,na - k)
 if na==0 then return true
 let some nb ←j9 true (←elem' (arrOf s) (sa+na - 1)) (arrOf s) sb nb (nb - 1)|return false
 if nb==0 then return true
 let x:=(arrOf s).extract sa sb
 let y:=(arrOf s).extract sb (sb+nb)
 let merged ←if na<=nb then v8 x y else v9 x y
 modify fun s=>setArr s (merged.toList.zipIdx.foldl (fun a (p,j)=>a.setIfInBounds (sa+j) p) (arrOf s))
 return (failedOf (←get)).isNone):=rfl
section
variable {prog:Program} {w:World} {A:Around} {E:Value->Shared->Prop} {s:Shared} {κ:SortKind} {a₀:Array Keyed} {rk:Value->Nat} {pd:Array (Nat×Nat×Nat)}
theorem Ho (b:Nat) (m:List Keyed):∀(n:Nat) (xs:Array Keyed) (j:Nat),b+n+m.length<=xs.size->((m.zipIdx n).foldl (fun a x=>a.setIfInBounds (b+x.2) x.1) xs)[j]? = if b+n<=j/\j<b+n+m.length then m[j - (b+n)]? else xs[j]? :=by
 induction m with
 | nil=>intro n xs j h;rw [if_neg (by simp)];rfl
 | cons p m ih=>
   intro n xs j h;rw [List.length_cons] at h;rw [List.zipIdx_cons,List.foldl_cons,ih (n+1) _ j (by rw [Array.size_setIfInBounds];lia)]
   by_cases e:j=b+n
   ·subst e
    rw [if_neg (by (clear h;lia)),if_pos (by rw [List.length_cons];(clear h;lia)),Nat.sub_self];rw [Array.getElem?_setIfInBounds_self_of_lt (by lia)];rfl
   ·by_cases c:b+(n+1)<=j/\j<b+(n+1)+m.length
    ·rw [if_pos c,if_pos (by rw [List.length_cons];(clear e h;lia)),show j - (b+n)=(j - (b+(n+1)))+1 by (clear e h;lia),List.getElem?_cons_succ]
    ·rw [if_neg c,if_neg (by rw [List.length_cons];(clear h;lia)),Array.getElem?_setIfInBounds_ne (Ne.symm e)]
theorem Lp {b n:Nat} {m:List Keyed} {xs:Array Keyed} (hl:m.length=n) (hb:b+n<=xs.size) (hp:m.Perm ((xs.toList.drop b).take n)):((m.zipIdx).foldl (fun a x=>a.setIfInBounds (b+x.2) x.1) xs).Perm xs:=by
 have e:((m.zipIdx).foldl (fun a x=>a.setIfInBounds (b+x.2) x.1) xs).toList=xs.toList.take b++(m++xs.toList.drop (b+n)):=by
  have hx:xs.toList.length=xs.size:=Array.length_toList;apply List.ext_getElem?;intro j;rw [Array.getElem?_toList,Ho b m 0 xs j (by (clear hx;lia))]
  by_cases j1:j<b
  ·rw [if_neg (by (clear hx hb hl;lia)),List.getElem?_append_left (by rw [List.length_take,hx];(clear hx hl;lia)),List.getElem?_take_of_lt j1,Array.getElem?_toList]
  ·rw [List.getElem?_append_right (by rw [List.length_take,hx];(clear hx hb hl;lia)),List.length_take,hx,Nat.min_eq_left (by (clear j1 hx hl;lia))]
   by_cases j2:j<b+n
   ·rw [if_pos (by (clear hx hb;lia)),List.getElem?_append_left (by (clear hx hb;lia))];rfl
   ·rw [if_neg (by (clear j1 hx hb;lia)),List.getElem?_append_right (by (clear j1 hx hb;lia)),List.getElem?_drop,Array.getElem?_toList]
    congr 1
    (clear j1 hx hb;lia)
 refine Array.perm_iff_toList_perm.mpr ?_;rw [e]
 have sp:xs.toList=xs.toList.take b++((xs.toList.drop b).take n++xs.toList.drop (b+n)):=by
  rw [←wK,List.take_append_drop]
 refine List.Perm.trans ?_ (List.Perm.of_eq sp.symm);exact List.Perm.append_left _ (List.Perm.append_right _ hp)
theorem ug {xs:Array Keyed} {lo hi i:Nat} (h:lo+i<hi) (hh:hi<=xs.size):R rk (xs.extract lo hi) i=R rk xs (lo+i):=by
 apply gF;rw [Array.getElem?_extract];rw [if_pos (by lia)]
theorem Ph {σ:Type} {M:Model} {A:Around} {E:Value->Shared->Prop} {s:Shared} {x:σ} {Q:PUnit->σ->Prop} {st:σ} (h:Q ⟨⟩ x):wpS M A E s (set x:StateT σ Sem PUnit) Q st:=by
 unfold wpS;rw [StateT.run_set];exact wpAny_pure ⟨rfl,h⟩
theorem Bl {st:SortSt} {i sa na pw sb nb pw2:Nat} {Q:Bool->SortSt->Prop} (C:GJ prog w A s κ a₀ rk) (hB:SB κ a₀ pd st) (h1:pd[i]? = some (sa,na,pw)) (h2:pd[i+1]? = some (sb,nb,pw2)) (hsb:sb=sa+na) (na1:1<=na) (dI:1<=nb) (hz:sb+nb<=a₀.size)
 (s1:Seg rk (arrOf st) sa (sa+na)) (s2:Seg rk (arrOf st) sb (sb+nb))
 (h:∀st',SB κ a₀ ((pd.setIfInBounds i (sa,na+nb,pw)).eraseIdxIfInBounds (i+1)) st'->(∀j,j<sa\/sb+nb<=j->(arrOf st')[j]? = (arrOf st)[j]?)->Seg rk (arrOf st') sa (sb+nb)->Q true st'):
 wpS (model prog w) A E s (mergeAt' i) Q st:=by
 rw [CJ];refine wpS_bind (wpS_get ?_);rw [hB.pend,h1,h2];dsimp only;have sz:(arrOf st).size=a₀.size:=hB.size;have qN:∀p∈(arrOf st).toList,p∈a₀.toList:=fun p hp=>hB.mem hp;have RK:∀i,i<a₀.size -> ∃p,(arrOf st)[i]? = some p/\p∈a₀.toList/\R rk (arrOf st) i=rk p.1:=fun i hi=>⟨(arrOf st)[i]'(by (clear hz dI na1 hsb h2 h1;lia)),getElem?_pos (arrOf st) i (by (clear hz dI na1 hsb h2 h1;lia)),hB.mem (by simp),iR (by (clear hz dI na1 hsb h2 h1;lia))⟩;refine wpS_bind (Ph ?_);have Df:SB κ a₀ ((pd.setIfInBounds i (sa,na+nb,pw)).eraseIdxIfInBounds (i+1)) (SortSt.mk' (kindOf st) (arrOf st) ((pd.setIfInBounds i (sa,na+nb,pw)).eraseIdxIfInBounds (i+1)) (gallopOf st) (failedOf st)):=⟨hB.perm,hB.kind,hB.failed,rfl⟩;have dh:arrOf (SortSt.mk' (kindOf st) (arrOf st) ((pd.setIfInBounds i (sa,na+nb,pw)).eraseIdxIfInBounds (i+1)) (gallopOf st) (failedOf st))=arrOf st:=rfl;generalize (pd.setIfInBounds i (sa,na+nb,pw)).eraseIdxIfInBounds (i+1)=pd1 at Df dh h ⊢;generalize SortSt.mk' (kindOf st) (arrOf st) pd1 (gallopOf st) (failedOf st)=st1 at Df dh ⊢;obtain ⟨p,ep,mp,rp⟩:=RK sb (by (clear dh sz na1 hsb h2 h1;lia));refine wpS_bind (bV ep (wpS_bind (i_ C Df.kind mp qN (by (clear rp ep dh dI na1 h2 h1;lia)) (by (clear rp ep dh sz hz dI hsb h2 h1;lia)) s1 fun k k1 k2 k3=> ?_)));dsimp only;refine aU (fun e=> ?_) (fun e=> ?_)
 ·have e:na - k=0:=eq_of_beq e
  refine wpS_pure (h st1 Df (fun j _=>by rw [dh]) fun i j a b c=> ?_);rw [dh]
  by_cases hj:j<sb
  ·exact s1 i j a b (by (clear c b a e k1 rp ep dh sz hz dI na1 h2 h1;lia))
  ·by_cases hi:i<sb
   ·have e1:=Rm (k2 (i - sa) (by (clear hj c b a k1 rp ep dh sz hz dI h2 h1;lia)))
    rw [show sa+(i - sa)=i by (clear e1 hi hj c b e k1 rp ep dh sz hz dI na1 hsb h2 h1;lia)] at e1;have e2:=s2 sb j (Nat.le_refl _) (by (clear e1 hi c b a e k1 rp ep dh sz hz dI na1 hsb h2 h1;lia)) c
    (clear hi hj c b a e k1 ep dh sz hz dI na1 hsb h2 h1;lia)
   ·exact s2 i j (by (clear hj c b a e k1 rp ep dh sz hz dI na1 hsb h2 h1;lia)) b c
 have ek:k<na:=by have:¬na - k=0:=fun z=>e (beq_iff_eq.mpr z);(clear e k1 rp ep dh sz hz dI na1 hsb h2 h1;lia)
 obtain ⟨q,eq,mq,rq⟩:=RK (sa+k+(na - k) - 1) (by (clear ek e rp ep dh sz dI h2 h1;lia));refine wpS_bind (bV eq (wpS_bind (i_ C Df.kind mq qN (by (clear rq eq ek e k1 rp ep dh dI na1 hsb h2 h1;lia)) (by (clear rq eq ek e k1 rp ep dh sz hz na1 hsb h2 h1;lia)) s2 fun n2 l1 l2 l3=> ?_)));dsimp only;have aV:sa+k+(na - k) - 1=sb - 1:=by (clear l1 rq eq ek e rp ep dh sz hz dI na1 h2 h1;lia)
 rw [aV] at rq;refine aU (fun e=> ?_) (fun e=> ?_)
 ·have e:n2=0:=eq_of_beq e
  refine wpS_pure (h st1 Df (fun j _=>by rw [dh]) fun i j a b c=> ?_);rw [dh]
  by_cases hj:j<sb
  ·exact s1 i j a b (by (clear c b a e aV l1 rq eq ek k1 rp ep dh sz hz dI na1 h2 h1;lia))
  ·by_cases hi:i<sb
   ·have e1:=Ea (l3 (j - sb) (by (clear hi hj c b a aV l1 rq eq ek k1 rp ep dh sz hz dI na1 hsb h2 h1;lia)) (by (clear hi hj b a e aV l1 rq eq ek k1 rp ep dh sz hz na1 hsb h2 h1;lia)))
    rw [show sb+(j - sb)=j by (clear e1 hi c b a e aV l1 rq eq ek k1 rp ep dh sz hz dI na1 hsb h2 h1;lia)] at e1;have e2:=s1 i (sb - 1) a (by (clear e1 hj c b a e aV l1 rq eq ek k1 rp ep dh sz hz dI na1 hsb h2 h1;lia)) (by (clear e1 hi hj c b a e aV l1 rq eq ek k1 rp ep dh sz hz dI h2 h1;lia))
    (clear hi hj c b a e aV l1 eq ek k1 rp ep dh sz hz dI na1 hsb h2 h1;lia)
   ·exact s2 i j (by (clear hj c b a e aV l1 rq eq ek k1 rp ep dh sz hz dI na1 hsb h2 h1;lia)) b c
 have e2:¬n2=0:=fun z=>e (beq_iff_eq.mpr z);have fY:((arrOf st).extract (sa+k) sb).size=sb - (sa+k):=by rw [Array.size_extract,Nat.min_eq_left (by (clear e2 e aV l1 rq eq ek k1 rp ep dh dI na1 hsb h2 h1;lia))]
 have fZ:((arrOf st).extract sb (sb+n2)).size=n2:=by rw [Array.size_extract,Nat.min_eq_left (by (clear fY e2 e aV rq eq ek k1 rp ep dh dI na1 hsb h2 h1;lia))];(clear fY e2 e aV l1 rq eq ek k1 rp ep dh sz hz dI na1 hsb h2 h1;lia)
 have xin:∀p∈((arrOf st).extract (sa+k) sb).toList,p∈a₀.toList:=fun p hp=>qN p (by rw [cV] at hp;exact List.mem_of_mem_drop (List.mem_of_mem_take hp));have yin:∀p∈((arrOf st).extract sb (sb+n2)).toList,p∈a₀.toList:=fun p hp=>qN p (by rw [cV] at hp;exact List.mem_of_mem_drop (List.mem_of_mem_take hp))
 have sx:Seg rk ((arrOf st).extract (sa+k) sb) 0 ((arrOf st).extract (sa+k) sb).size:=fun i j a b c=>by
  rw [fY] at c;rw [ug (by (clear a fZ fY e2 e aV l1 rq eq ek k1 rp ep dh sz hz dI na1 hsb h2 h1;lia)) (by (clear c b a fZ fY e2 e aV l1 rq eq ek k1 rp ep dh dI na1 hsb h2 h1;lia)),ug (by (clear b a fZ fY e2 e aV l1 rq eq ek k1 rp ep dh sz hz dI na1 hsb h2 h1;lia)) (by (clear c b a fZ fY e2 e aV l1 rq eq ek k1 rp ep dh dI na1 hsb h2 h1;lia))];exact s1 _ _ (by (clear c b a fZ fY e2 e aV l1 rq eq ek k1 rp ep dh sz hz dI na1 hsb h2 h1;lia)) (by (clear c a fZ fY e2 e aV l1 rq eq ek k1 rp ep dh sz hz dI na1 hsb h2 h1;lia)) (by (clear b a fZ fY e2 e aV l1 rq eq ek k1 rp ep dh sz hz dI na1 h2 h1;lia))
 have sy:Seg rk ((arrOf st).extract sb (sb+n2)) 0 ((arrOf st).extract sb (sb+n2)).size:=fun i j a b c=>by
  rw [fZ] at c;rw [ug (by (clear a fZ fY e2 e aV l1 rq eq ek k1 rp ep dh sz hz dI na1 hsb h2 h1;lia)) (by (clear c b a fZ fY e2 e aV rq eq ek k1 rp ep dh dI na1 hsb h2 h1;lia)),ug (by (clear b a fZ fY e2 e aV l1 rq eq ek k1 rp ep dh sz hz dI na1 hsb h2 h1;lia)) (by (clear c b a fZ fY e2 e aV rq eq ek k1 rp ep dh dI na1 hsb h2 h1;lia))];exact s2 _ _ (by (clear c b a fZ fY e2 e aV l1 rq eq ek k1 rp ep dh sz hz dI na1 hsb h2 h1;lia)) (by (clear c a fZ fY e2 e aV l1 rq eq ek k1 rp ep dh sz hz dI na1 hsb h2 h1;lia)) (by (clear b a fZ fY e2 e aV rq eq ek k1 rp ep dh sz hz dI na1 hsb h2 h1;lia))
 have h0:R rk ((arrOf st).extract sb (sb+n2)) 0<=R rk ((arrOf st).extract (sa+k) sb) 0:=by
  rw [ug (by (clear fZ fY e aV l1 rq eq ek k1 rp ep dh sz hz dI na1 hsb h2 h1;lia)) (by (clear fZ fY e2 e aV rq eq ek k1 rp ep dh dI na1 hsb h2 h1;lia)),ug (by (clear fZ fY e2 e aV l1 rq eq k1 rp ep dh sz hz dI na1 h2 h1;lia)) (by (clear fZ fY e2 e aV l1 rq eq ek k1 rp ep dh dI na1 hsb h2 h1;lia)),Nat.add_zero,Nat.add_zero,rp];have:=Oz (k3 k (Nat.le_refl _) ek)
  (clear fZ fY e2 e aV l1 rq eq ek k1 rp ep dh sz hz dI na1 hsb h2 h1;lia)
 have hl:R rk ((arrOf st).extract sb (sb+n2)) (((arrOf st).extract sb (sb+n2)).size - 1)<=R rk ((arrOf st).extract (sa+k) sb) (((arrOf st).extract (sa+k) sb).size - 1):=by
  rw [fY,fZ,ug (by (clear h0 fZ fY e aV l1 rq eq ek k1 rp ep dh sz hz dI na1 hsb h2 h1;lia)) (by (clear h0 fZ fY e2 e aV rq eq ek k1 rp ep dh dI na1 hsb h2 h1;lia)),ug (by (clear h0 fZ fY e2 e aV l1 rq eq k1 rp ep dh sz hz dI na1 h2 h1;lia)) (by (clear h0 fZ fY e2 e aV l1 rq eq ek k1 rp ep dh dI na1 hsb h2 h1;lia)),show sa+k+(sb - (sa+k) - 1)=sb - 1 by (clear h0 fZ fY e2 e aV l1 rq eq k1 rp ep dh sz hz dI na1 h2 h1;lia),rq];have:=VR (l2 (n2 - 1) (by (clear h0 fZ fY e aV l1 rq eq ek k1 rp ep dh sz hz dI na1 hsb h2 h1;lia)))
  (clear h0 fZ fY e2 e aV l1 rq eq ek k1 rp ep dh sz hz dI na1 hsb h2 h1;lia)
 have fin:∀r st2,Bh st1 st2->Mg rk ((arrOf st).extract (sa+k) sb) ((arrOf st).extract sb (sb+n2)) r->wpS (model prog w) A E s (do
  modify fun s=>setArr s (List.foldl (fun a x=>a.setIfInBounds (sa+k+x.snd) x.fst) (arrOf s) r.toList.zipIdx)
  let __do_lift ←get
  pure (failedOf __do_lift).isNone) Q st2:=by
  intro r st2 k2' mg;have kZ:arrOf st2=arrOf st:=k2'.a.trans dh;refine wpS_bind (wpS_modify ?_);refine wpS_bind (wpS_get ?_);have hf:failedOf (setArr st2 (List.foldl (fun a x=>a.setIfInBounds (sa+k+x.snd) x.fst) (arrOf st2) r.toList.zipIdx))=none:=k2'.f.trans Df.failed;rw [hf]
  have rl:r.toList.length=sb - (sa+k)+n2:=by
   rw [mg.perm.length_eq,List.length_append,Array.length_toList,Array.length_toList,fY,fZ]
  have rp':r.toList.Perm (((arrOf st).toList.drop (sa+k)).take (sb - (sa+k)+n2)):=by
   refine mg.perm.trans (List.Perm.of_eq ?_);rw [cV,cV,List.take_add,List.drop_drop,show sb+n2 - sb=n2 by (clear rl hf kZ hl h0 fZ fY e2 e aV l1 rq eq ek k1 rp ep dh sz hz dI na1 hsb h2 h1;lia),show sa+k+(sb - (sa+k))=sb by (clear rl hf kZ hl h0 fZ fY e2 e aV l1 rq eq ek rp ep dh sz hz dI na1 h2 h1;lia)]
  have get:∀j,(arrOf (setArr st2 (List.foldl (fun a x=>a.setIfInBounds (sa+k+x.snd) x.fst) (arrOf st2) r.toList.zipIdx)))[j]? = if sa+k<=j/\j<sb+n2 then r.toList[j - (sa+k)]? else (arrOf st)[j]? :=fun j=>by
   show (List.foldl (fun a x=>a.setIfInBounds (sa+k+x.snd) x.fst) (arrOf st2) r.toList.zipIdx)[j]? = _;rw [kZ,Ho (sa+k) r.toList 0 (arrOf st) j (by (clear hf kZ hl h0 fZ fY e2 e aV rq eq ek rp ep dh dI na1 h2 h1;lia)),rl]
   by_cases c:sa+k<=j/\j<sb+n2
   ·rw [if_pos c,if_pos (by (clear rl hf kZ hl h0 fZ fY e2 e aV l1 rq eq ek k1 rp ep dh sz hz dI na1 hsb h2 h1;lia))];rfl
   ·rw [if_neg c,if_neg (by (clear rl hf kZ hl h0 fZ fY e2 e aV l1 rq eq ek rp ep dh sz hz dI na1 h2 h1;lia))]
  have hB2:SB κ a₀ pd1 (setArr st2 (List.foldl (fun a x=>a.setIfInBounds (sa+k+x.snd) x.fst) (arrOf st2) r.toList.zipIdx)):=by
   refine ⟨?_,k2'.k.trans Df.kind,hf,k2'.p.trans Df.pend⟩;show (List.foldl (fun a x=>a.setIfInBounds (sa+k+x.snd) x.fst) (arrOf st2) r.toList.zipIdx).Perm a₀;rw [kZ];exact (Lp rl (by (clear rl hf kZ hl h0 fZ fY e2 e aV rq eq ek rp ep dh dI na1 h2 h1;lia)) rp').trans hB.perm
  generalize setArr st2 (List.foldl (fun a x=>a.setIfInBounds (sa+k+x.snd) x.fst) (arrOf st2) r.toList.zipIdx)=st3 at get hB2 ⊢;have out:∀j,¬(sa+k<=j/\j<sb+n2)->R rk (arrOf st3) j=R rk (arrOf st) j:=fun j hj=>gF (by rw [get j,if_neg hj])
  have mid:∀j,sa+k<=j->j<sb+n2 -> ∃j0,sa+k<=j0/\j0<sb+n2/\R rk (arrOf st3) j=R rk (arrOf st) j0:=fun j j1 j2=>by
   have e:=get j;rw [if_pos ⟨j1,j2⟩,List.getElem?_eq_getElem (by (clear e j1 hf kZ hl h0 fZ fY e2 aV l1 rq eq k1 rp ep dh sz hz dI na1 h2 h1;lia))] at e;have hm:r.toList[j - (sa+k)]'(by (clear e j1 hf kZ hl h0 fZ fY e2 aV l1 rq eq k1 rp ep dh sz hz dI na1 h2 h1;lia))∈((arrOf st).toList.drop (sa+k)).take (sb - (sa+k)+n2):=rp'.mem_iff.mp (List.getElem_mem _);obtain ⟨j0,a1,a2,a3⟩:=jk (rk:=rk) hm;exact ⟨sa+k+j0,by (clear a3 a2 a1 e j1 hf kZ hl h0 fZ fY e2 aV l1 rq eq k1 rp ep dh sz hz dI na1 h2 h1;lia),by (clear a3 a2 e j1 hf kZ hl h0 fZ fY e2 aV l1 rq eq k1 rp ep dh sz hz dI na1 h2 h1;lia),by rw [xH e,a3]⟩
  refine wpS_pure (h st3 hB2 (fun j hj=>by rw [get j,if_neg (by (clear rl hf kZ hl h0 fZ fY e2 e aV rq eq ek k1 rp ep dh sz hz dI na1 hsb h2 h1;lia))]) fun i j a b c=> ?_)
  by_cases i1:i<sa+k
  ·have ei:=Rm (k2 (i - sa) (by (clear c b rl hf kZ hl h0 fZ fY e2 e aV l1 rq eq ek k1 rp ep dh sz hz dI na1 hsb h2 h1;lia)))
   rw [show sa+(i - sa)=i by (clear ei i1 c b rl hf kZ hl h0 fZ fY e2 e aV l1 rq eq ek k1 rp ep dh sz hz dI na1 hsb h2 h1;lia),←rp] at ei;rw [out i (by (clear ei c b a rl hf kZ hl h0 fZ fY e2 e aV l1 rq eq ek k1 rp ep dh sz hz dI na1 hsb h2 h1;lia))]
   have key:∀j0,sa+k<=j0->j0<sb+nb->R rk (arrOf st) i<=R rk (arrOf st) j0:=fun j0 b1 b2=>by
    by_cases c:j0<sb
    ·exact s1 i j0 a (by (clear c b2 ei b a rl hf kZ hl h0 fZ fY e2 e aV l1 rq eq ek k1 rp ep dh sz hz dI na1 hsb h2 h1;lia)) (by (clear b2 b1 ei i1 b a rl hf kZ hl h0 fZ fY e2 e aV l1 rq eq ek k1 rp ep dh sz hz dI na1 h2 h1;lia))
    ·have:=s2 sb j0 (Nat.le_refl _) (by (clear b2 b1 ei i1 b a rl hf kZ hl h0 fZ fY e2 e aV l1 rq eq ek k1 rp ep dh sz hz dI na1 hsb h2 h1;lia)) b2;(clear c b2 b1 i1 b a rl hf kZ hl h0 fZ fY e2 e aV l1 rq eq ek k1 rp ep dh sz hz dI na1 hsb h2 h1;lia)
   by_cases j1:sa+k<=j/\j<sb+n2
   ·obtain ⟨j0,b1,b2,b3⟩:=mid j j1.1 j1.2
    rw [b3];exact key j0 b1 (by (clear b3 b1 j1 ei i1 c b a rl hf kZ hl h0 fZ fY e2 e aV rq eq ek k1 rp ep dh sz hz dI na1 hsb h2 h1;lia))
   ·rw [out j j1]
    by_cases j2:j<sa+k
    ·exact s1 i j a b (by (clear j1 ei i1 c b a rl hf kZ hl h0 fZ fY e2 e aV l1 rq eq ek rp ep dh sz hz dI na1 hsb h2 h1;lia))
    ·exact key j (by (clear j1 ei i1 c b a rl hf kZ hl h0 fZ fY e2 e aV l1 rq eq ek k1 rp ep dh sz hz dI na1 hsb h2 h1;lia)) c
  ·by_cases i2:i<sb+n2
   ·by_cases j2:j<sb+n2
    ·have e1:=get i
     have e2:=get j;rw [if_pos ⟨by (clear e2 e1 j2 i2 c b a rl hf kZ hl h0 fZ fY e aV l1 rq eq ek k1 rp ep dh sz hz dI na1 hsb h2 h1;lia),i2⟩,List.getElem?_eq_getElem (by (clear e2 e1 j2 i1 c b a hf kZ hl h0 fZ fY e aV l1 rq eq ek k1 rp ep dh sz hz dI na1 hsb h2 h1;lia))] at e1;rw [if_pos ⟨by (clear e2 e1 j2 i2 c a rl hf kZ hl h0 fZ fY e aV l1 rq eq ek k1 rp ep dh sz hz dI na1 hsb h2 h1;lia),j2⟩,List.getElem?_eq_getElem (by (clear e2 e1 i2 i1 c b a hf kZ hl h0 fZ fY e aV l1 rq eq ek k1 rp ep dh sz hz dI na1 hsb h2 h1;lia))] at e2;rw [xH e1,xH e2]
     by_cases eij:i=j
     ·subst eij;exact Nat.le_refl _
     ·exact List.pairwise_iff_getElem.mp mg.srt _ _ _ _ (by (clear e2 e1 j2 i2 c a rl hf kZ hl h0 fZ fY e aV l1 rq eq ek k1 rp ep dh sz hz dI na1 hsb h2 h1;lia))
    ·obtain ⟨i0,b1,b2,b3⟩:=mid i (by (clear j2 i2 c b a rl hf kZ hl h0 fZ fY e2 e aV l1 rq eq ek k1 rp ep dh sz hz dI na1 hsb h2 h1;lia)) i2
     rw [b3,out j (by (clear b3 b2 b1 i2 i1 c b a rl hf kZ hl h0 fZ fY e2 e aV l1 rq eq ek k1 rp ep dh sz hz dI na1 hsb h2 h1;lia))]
     by_cases c':i0<sb
     ·have e1:=s1 i0 (sb - 1) (by (clear c' b3 b2 j2 i2 i1 c b a rl hf kZ hl h0 fZ fY e2 e aV l1 rq eq ek k1 rp ep dh sz hz dI na1 hsb h2 h1;lia)) (by (clear b3 b2 b1 j2 i2 i1 c b a rl hf kZ hl h0 fZ fY e2 e aV l1 rq eq ek k1 rp ep dh sz hz dI na1 hsb h2 h1;lia)) (by (clear c' b3 b2 b1 j2 i2 i1 c b a rl hf kZ hl h0 fZ fY e2 e aV l1 rq eq ek k1 rp ep dh sz hz dI h2 h1;lia))
      have e2:=Ea (l3 (j - sb) (by (clear e1 c' b3 b2 b1 i2 i1 c b a rl hf kZ hl h0 fZ fY e2 e aV l1 rq eq ek k1 rp ep dh sz hz dI na1 hsb h2 h1;lia)) (by (clear e1 c' b3 b2 b1 j2 i2 i1 b a rl hf kZ hl h0 fZ fY e2 e aV l1 rq eq ek k1 rp ep dh sz hz na1 hsb h2 h1;lia)));rw [show sb+(j - sb)=j by (clear e2 e1 c' b3 b2 b1 i2 i1 c b a rl hf kZ hl h0 fZ fY e aV l1 rq eq ek k1 rp ep dh sz hz dI na1 hsb h2 h1;lia),←rq] at e2
      (clear c' b3 b2 b1 j2 i2 i1 c b a rl hf kZ hl h0 fZ fY e aV l1 rq eq ek k1 rp ep dh sz hz dI na1 hsb h2 h1;lia)
     ·exact s2 i0 j (by (clear b3 b2 b1 j2 i2 i1 c b a rl hf kZ hl h0 fZ fY e2 e aV l1 rq eq ek k1 rp ep dh sz hz dI na1 hsb h2 h1;lia)) (by (clear c' b3 b1 i2 i1 c b a rl hf kZ hl h0 fZ fY e2 e aV l1 rq eq ek k1 rp ep dh sz hz dI na1 hsb h2 h1;lia)) c
   ·rw [out i (by (clear i1 c b a rl hf kZ hl h0 fZ fY e2 e aV l1 rq eq ek k1 rp ep dh sz hz dI na1 hsb h2 h1;lia)),out j (by (clear i1 c a rl hf kZ hl h0 fZ fY e2 e aV l1 rq eq ek k1 rp ep dh sz hz dI na1 hsb h2 h1;lia))]
    exact s2 i j (by (clear i1 c b a rl hf kZ hl h0 fZ fY e2 e aV l1 rq eq ek k1 rp ep dh sz hz dI na1 hsb h2 h1;lia)) b c
 refine aU (fun _=> ?_) (fun _=> ?_)
 ·exact wpS_bind (Bj C Df.kind xin yin (by (clear hl h0 fZ e2 e aV l1 rq eq k1 rp ep dh sz hz dI na1 h2 h1;lia)) (by (clear hl h0 fY e2 e aV l1 rq eq k1 rp ep dh sz hz dI na1 hsb h2 h1;lia)) sx sy h0 hl fin)
 ·exact wpS_bind (Bk C Df.kind xin yin (by (clear hl h0 fZ e2 e aV l1 rq eq ek k1 rp ep dh sz hz dI na1 h2 h1;lia)) (by (clear hl h0 fY e aV l1 rq eq ek k1 rp ep dh sz hz dI na1 hsb h2 h1;lia)) sx sy h0 hl fin)
end
end Tim
set_option Elab.async false
set_option linter.all false
set_option maxRecDepth 100000
set_option maxHeartbeats 4000000
namespace Tim
open PySem PyProof.Rows
section
variable {prog:Program} {w:World} {A:Around} {E:Value->Shared->Prop} {s:Shared} {κ:SortKind} {a₀:Array Keyed} {rk:Value->Nat} {pd:Array (Nat×Nat×Nat)}
def Runs (rk:Value->Nat) (xs:Array Keyed):List (Nat×Nat×Nat)->Nat->Nat->Prop
 | [],a,e=>a=e
 | (s,n,_)::r,a,e=>s=a/\1<=n/\Seg rk xs a (a+n)/\Runs rk xs r (a+n) e
theorem Runs.le {xs:Array Keyed}:∀{l:List (Nat×Nat×Nat)} {a e:Nat},Runs rk xs l a e->a+l.length<=e
 | [],a,e,h=>Nat.le_of_eq h
 | (s,n,_)::r,a,e,h=>by
   have:=Runs.le h.2.2.2;have:=h.2.1;rw [List.length_cons];lia
theorem Runs.app {xs:Array Keyed} {r:List (Nat×Nat×Nat)}:∀{l:List (Nat×Nat×Nat)} {a e:Nat},Runs rk xs (l++r) a e ↔ ∃m,Runs rk xs l a m/\Runs rk xs r m e
 | [],a,e=>⟨fun h=>⟨a,rfl,h⟩,fun ⟨m,h1,h2⟩=>by
     have h1:a=m:=h1;subst h1;exact h2⟩
 | (s,n,_)::l,a,e=>by
   constructor
   ·rintro ⟨h1,h2,h3,h4⟩
    obtain ⟨m,m1,m2⟩:=Runs.app.mp h4;exact ⟨m,⟨h1,h2,h3,m1⟩,m2⟩
   ·rintro ⟨m,⟨h1,h2,h3,h4⟩,m2⟩
    exact ⟨h1,h2,h3,Runs.app.mpr ⟨m,h4,m2⟩⟩
theorem Runs.congr {xs ys:Array Keyed}:∀{l:List (Nat×Nat×Nat)} {a e:Nat},Runs rk xs l a e->(∀j,a<=j->j<e->R rk xs j=R rk ys j)->Runs rk ys l a e
 | [],a,e,h,_=>h
 | (s,n,_)::r,a,e,⟨h1,h2,h3,h4⟩,g=>by
   have le:=Runs.le h4;refine ⟨h1,h2,fun i j x y z=> ?_,Runs.congr h4 fun j x y=>g j (by (clear y le h2 h1;lia)) y⟩;rw [←g i x (by (clear x h2 h1;lia)),←g j (by (clear z le h2 h1;lia)) (by (clear y x h2 h1;lia))];exact h3 i j x y z
theorem TF {α:Type} {l:List α} {i:Nat} (h:i+1<l.length):∃pre p q post,l=pre++p::q::post/\pre.length=i:=by
 refine ⟨l.take i,l[i],l[i+1],l.drop (i+2), ?_,by rw [List.length_take];lia⟩;rw [←List.drop_eq_getElem_cons,←List.drop_eq_getElem_cons,List.take_append_drop]
theorem o8 {st:SortSt} {i e:Nat} {Q:Bool->SortSt->Prop} (C:GJ prog w A s κ a₀ rk) (hB:SB κ a₀ pd st) (hr:Runs rk (arrOf st) pd.toList 0 e) (he:e<=a₀.size) (hi:i+1<pd.size)
 (h:∀pd' st',SB κ a₀ pd' st'->Runs rk (arrOf st') pd'.toList 0 e->pd'.size+1=pd.size->(∀j,e<=j->(arrOf st')[j]? = (arrOf st)[j]?)->Q true st'):wpS (model prog w) A E s (mergeAt' i) Q st:=by
 obtain ⟨pre,⟨sa,na,pw⟩,⟨sb,nb,pw2⟩,post,el,pl⟩:=TF (l:=pd.toList) (i:=i) (by rw [Array.length_toList];exact hi);rw [el] at hr;obtain ⟨m,r1,r2⟩:=Runs.app.mp hr;obtain ⟨e1,n1,s1,e2,n2,s2,r3⟩:=r2;subst e1;have h_:=Runs.le r3;have h1:pd[i]? = some (sa,na,pw):=by rw [←Array.getElem?_toList,el,List.getElem?_append_right (by (clear h_ e2 n2 n1 el hi he;lia)),pl,Nat.sub_self];rfl
 have h2:pd[i+1]? = some (sb,nb,pw2):=by rw [←Array.getElem?_toList,el,List.getElem?_append_right (by (clear h1 h_ e2 n2 n1 el hi he;lia)),pl,show i+1 - i=1 by (clear h1 h_ e2 n2 n1 pl el hi he;lia)];rfl
 refine Bl C hB h1 h2 e2 n1 n2 (by (clear h2 h1 n2 n1 pl el hi;lia)) s1 (by rw [e2];exact s2) fun st' hB' out seg=> ?_
 have ep:((pd.setIfInBounds i (sa,na+nb,pw)).eraseIdxIfInBounds (i+1)).toList=pre++(sa,na+nb,pw)::post:=by
  rw [Array.toList_eraseIdxIfInBounds,Array.toList_setIfInBounds,el,List.set_append_right _ _ (by (clear h2 h1 h_ e2 n2 n1 el hi he;lia)),pl,Nat.sub_self];rw [List.eraseIdx_append_of_length_le (by (clear h2 h1 h_ e2 n2 n1 el hi he;lia)),pl,show i+1 - i=1 by (clear h2 h1 h_ e2 n2 n1 pl el hi he;lia)];rfl
 refine h _ st' hB' ?_ ?_ fun j hj=>out j (.inr (by (clear ep h2 h1 n2 n1 pl el hi he;lia)))
 ·rw [ep]
  refine Runs.app.mpr ⟨sa,r1.congr fun j _ j2=>gF (out j (.inl j2)).symm,rfl,by (clear ep h2 h1 h_ e2 n2 pl el hi he;lia), ?_, ?_⟩
  ·rw [show sa+(na+nb)=sb+nb by (clear ep h2 h1 h_ n2 n1 pl el hi he;lia)];exact seg
  ·rw [←Nat.add_assoc]
   exact r3.congr fun j j1 j2=>gF (out j (.inr (by (clear j2 ep h2 h1 h_ n2 n1 pl el hi he;lia)))).symm
 ·rw [←Array.length_toList,ep,←Array.length_toList,el]
  simp only [List.length_append,List.length_cons]
  (clear ep h2 h1 h_ e2 n2 n1 pl el hi he;lia)
theorem Runs.modify {xs:Array Keyed} {f:Nat×Nat×Nat->Nat×Nat×Nat} (hf:∀x,(f x).1=x.1/\(f x).2.1=x.2.1) (l:List (Nat×Nat×Nat)):∀(i a e:Nat),Runs rk xs l a e->Runs rk xs (l.modify i f) a e:=by
 induction l with
 | nil=>intro i a e h;cases i<;>exact h
 | cons t r ih=>
   obtain ⟨s,n,p⟩:=t;intro i a e h;obtain ⟨h1,h2,h3,h4⟩:=h;cases i with
   | zero=>
     rw [List.modify_zero_cons];have e2:=hf (s,n,p);rcases hfp:f (s,n,p) with ⟨s',n',p'⟩
     rw [hfp] at e2;obtain ⟨q1,q2⟩:=e2;have q1:s'=s:=q1;have q2:n'=n:=q2;rw [q1,q2];exact ⟨h1,h2,h3,h4⟩
   | succ i=>
     rw [List.modify_succ_cons];exact ⟨h1,h2,h3,ih i _ _ h4⟩
theorem wpS_sortRuns {st:SortSt} {Q:Unit->SortSt->Prop} (C:GJ prog w A s κ a₀ rk) (hB:SB κ a₀ #[] st) (h2:2<=a₀.size)
 (h:∀st',(arrOf st').Perm a₀->failedOf st'=none->Seg rk (arrOf st') 0 a₀.size->Q () st'):wpS (model prog w) A E s sortRuns' Q st:=by
 rw [sortRuns'_eq];refine wpS_bind (wpS_get ?_);dsimp only;simp only [hB.size];generalize minRun' a₀.size a₀.size 0=mr
 refine wpS_bind (wpS_mono (wpS_forRange (I:=fun x c st'=>∃lo pd,c=(none,lo)/\x<=lo/\lo<=a₀.size/\SB κ a₀ pd st'/\Runs rk (arrOf st') pd.toList 0 lo)
  (Q:=fun c st'=>∃pd,c=(none,a₀.size)/\SB κ a₀ pd st'/\Runs rk (arrOf st') pd.toList 0 a₀.size) ?step ?fin ⟨0, #[],rfl,by (clear h2;lia),by (clear h2;lia),hB,rfl⟩) ?post)
 case fin=>
  rintro c st' ⟨lo,pd,rfl,x1,x2,hB',hr⟩;have:lo=a₀.size:=by (clear h2;lia)
  subst this;exact ⟨pd,rfl,hB',hr⟩
 case step=>
  rintro x c st' _ hx ⟨lo,pd,rfl,x1,x2,hB',hr⟩;dsimp only;refine aU (fun ge=> ?_) (fun ge=> ?_)
  ·have:lo=a₀.size:=by (clear x1 hx h2;lia)
   subst this;exact wpS_pure ⟨pd,rfl,hB',hr⟩
  refine wpS_bind (wpS_countRun C (by (clear ge x1 hx h2;lia)) (by (clear x2 x1 hx h2;lia)) hB' fun m st2 hB2 kb2 m1 m2 hs2=> ?_);dsimp only;have hr2:=hr.congr (ys:=arrOf st2) fun j _ j2=>gF (kb2 j j2).symm;apply aU
  case' h1=>
   intro lt;refine wpS_bind (wpS_lift (wpAny_rule ⟨rfl, ?_⟩));refine wpS_bind (wpS_binarySort C (by (clear lt m2 m1 ge x1 hx h2;lia)) (by (clear m1 ge x2 x1 hx h2;lia)) hB2 hs2 fun st3 hB3 kb3 hs3=> ?_);simp only [Bool.not_true,Bool.false_eq_true,if_false];have RP:=hr2.congr (ys:=arrOf st3) fun j _ j2=>gF (kb3 j j2).symm;have n1:1<=min (a₀.size - lo) mr:=by (clear m2 m1 x2 x1 hx h2;lia)
   have n2:min (a₀.size - lo) mr<=a₀.size - lo:=by (clear n1 lt m2 m1 ge x2 x1 hx h2;lia)
   generalize min (a₀.size - lo) mr=n at hs3 n1 n2 ⊢
  case' h2=>
   intro lt;have RP:=hr2;have hB3:=hB2;have hs3:=hs2;have n1:=m1;have n2:=m2;revert RP hB3 hs3;generalize st2=st3;revert n1 n2;generalize m=n;intro n1 n2 RP hB3 hs3
  all_goals
   refine wpS_bind (wpS_get ?_)
   have done:∀nJ nU,SB κ a₀ nJ nU->Runs rk (arrOf nU) nJ.toList 0 lo->Seg rk (arrOf nU) lo (lo+n)->wpS (model prog w) A E s (do
    modify fun s=>setPending s ((pendingOf s).push (lo,n,0))
    pure (ForInStep.yield ((none:Option Unit),lo+n))) (fun r st'=>match r with
     | ForInStep.done c'=>∃pd,c'=(none,a₀.size)/\SB κ a₀ pd st'/\Runs rk (arrOf st') pd.toList 0 a₀.size
     | ForInStep.yield c'=>∃lo pd,c'=(none,lo)/\x+1<=lo/\lo<=a₀.size/\SB κ a₀ pd st'/\Runs rk (arrOf st') pd.toList 0 lo) nU:=by
    intro nJ nU sW xZ U9;refine wpS_bind (wpS_modify (wpS_pure ⟨lo+n,nJ.push (lo,n,0),rfl,by (clear n2 lt m2 m1 ge x2 hx h2;lia),by (clear n1 lt m2 m1 ge x1 hx h2;lia),⟨sW.perm,sW.kind,sW.failed,by show (pendingOf nU).push _=_;rw [sW.pend]⟩, ?_⟩));rw [Array.toList_push];exact Runs.app.mpr ⟨lo,xZ,rfl,n1,U9,rfl⟩
   cases hb:(pendingOf st3).back? with
   | none=>exact done _ _ hB3 RP hs3
   | some t=>
     obtain ⟨s1,n1',pw⟩:=t;dsimp only;generalize power' a₀.size (2*s1+n1') (2*s1+n1'+n1'+n) a₀.size=pwr
     refine wpS_bind (wpS_mono (wpS_forRange (I:=fun y c nU=>∃nJ,c=(none,())/\SB κ a₀ nJ nU/\Runs rk (arrOf nU) nJ.toList 0 lo/\Seg rk (arrOf nU) lo (lo+n))
      (Q:=fun c nU=>∃nJ,c=(none,())/\SB κ a₀ nJ nU/\Runs rk (arrOf nU) nJ.toList 0 lo/\Seg rk (arrOf nU) lo (lo+n)) ?_ (fun _ _ z=>z) ⟨_,rfl,hB3,RP,hs3⟩) ?_)
     ·rintro y c nU _ hy ⟨nJ,rfl,sW,xZ,U9⟩
      refine wpS_bind (wpS_get ?_);rw [sW.pend];cases hg:(if nJ.size>1 then nJ[nJ.size - 2]? else none) with
      | none=>exact wpS_pure ⟨nJ,rfl,sW,xZ,U9⟩
      | some t=>
        obtain ⟨f1,f2,older⟩:=t;dsimp only
        have gt:nJ.size>1:=by
         by_cases g:nJ.size>1
         ·exact g
         ·rw [if_neg g] at hg;cases hg
        refine aU (fun _=> ?_) (fun _=> ?_)
        ·exact wpS_pure ⟨nJ,rfl,sW,xZ,U9⟩
        ·refine wpS_bind (o8 C sW xZ x2 (by (clear hg hy hb n2 n1 lt m2 m1 ge x2 x1 hx h2;lia)) fun pd5 xR hB5 V_ _ Xn=> ?_)
         simp only [Bool.not_true,Bool.false_eq_true,if_false];refine wpS_pure ⟨pd5,rfl,hB5,V_,fun i j a b c=> ?_⟩;rw [gF (Xn i a),gF (Xn j (by (clear c gt hg hy hb n2 n1 lt m2 m1 ge x2 x1 hx h2;lia)))];exact U9 i j a b c
     ·rintro c nU ⟨nJ,rfl,sW,xZ,U9⟩
      dsimp only;refine wpS_bind (wpS_modify ?_);refine done _ _ ⟨sW.perm,sW.kind,sW.failed,rfl⟩ ?_ U9;rw [←sW.pend] at xZ;rw [Array.toList_modify];refine Runs.modify (fun x=> ?_) _ _ _ _ xZ;exact ⟨rfl,rfl⟩
 case post=>
  rintro c st' ⟨pd,rfl,hB',hr⟩;dsimp only;have le:=Runs.le hr;rw [Array.length_toList] at le
  refine wpS_bind (wpS_mono (wpS_forRange (I:=fun y c nU=>∃nJ,c=(none,())/\SB κ a₀ nJ nU/\Runs rk (arrOf nU) nJ.toList 0 a₀.size/\nJ.size<=max 1 (a₀.size - y))
   (Q:=fun c nU=>∃nJ,c=(none,())/\SB κ a₀ nJ nU/\Runs rk (arrOf nU) nJ.toList 0 a₀.size/\nJ.size<=1) ?_ ?_ ⟨pd,rfl,hB',hr,by (clear h2;lia)⟩) ?_)
  ·rintro y c nU _ hy ⟨nJ,rfl,sW,xZ,XR⟩
   refine wpS_bind (wpS_get ?_);rw [sW.pend];refine aU (fun l1=> ?_) (fun l1=> ?_)
   ·exact wpS_pure ⟨nJ,rfl,sW,xZ,l1⟩
   ·have hix:∀(c:Prop) [Decidable c],(if c then nJ.size - 2 - 1 else nJ.size - 2)+1<nJ.size:=by
     intro c _;split<;>(clear XR hy le h2;lia)
    refine wpS_bind (o8 C sW xZ (Nat.le_refl _) (hix _) fun pd5 xR hB5 V_ z5 _=> ?_);simp only [Bool.not_true,Bool.false_eq_true,if_false];exact wpS_pure ⟨pd5,rfl,hB5,V_,by (clear l1 hy le h2;lia)⟩
  ·rintro c nU ⟨nJ,rfl,sW,xZ,XR⟩
   exact ⟨nJ,rfl,sW,xZ,by (clear le h2;lia)⟩
  ·rintro c nU ⟨nJ,rfl,sW,xZ,XR⟩
   refine wpS_pure (h nU sW.perm sW.failed ?_);have ll:nJ.toList.length<=1:=by rw [Array.length_toList];exact XR
   match hl:nJ.toList,ll,xZ with
   | [],_,xZ=>have:0=a₀.size:=xZ;(clear hl ll XR le;lia)
   | [(s,n,p)],_,xZ=>
     obtain ⟨_,_,hs,e⟩:=xZ;have e:0+n=a₀.size:=e;rw [e] at hs;exact hs
end
end Tim
set_option Elab.async false
set_option linter.all false
set_option maxRecDepth 100000
set_option maxHeartbeats 4000000
namespace Tim
open PySem PyProof.Rows
section
variable {prog:Program} {w:World} {A:Around} {E:Value->Shared->Prop} {s:Shared} {κ:SortKind} {rk:Value->Nat}
theorem Ul {vs:List Value} {xs:Array Keyed} (hp:xs.Perm (pairsOf vs)) (hs:Seg rk xs 0 (pairsOf vs).size):(xs.map (·.2)).toList.Perm vs/\(xs.map (·.2)).toList.Pairwise (fun x y=>rk x<=rk y):=by
 have hl:xs.toList.Perm (vs.zip vs):=by rw [←pairsOf_toList];exact Array.perm_iff_toList_perm.mp hp
 have hmem:∀p,p∈xs.toList->p.1=p.2:=fun p hp'=>(mem_zip_self (hl.mem_iff.mp hp')).1
 have e:(xs.map (·.2)).toList=xs.toList.map (·.1):=by
  rw [Array.toList_map];exact List.map_congr_left fun p hp'=>(hmem p hp').symm
 rw [e];constructor
 ·have:=hl.map Prod.fst
  rwa [List.map_fst_zip (Nat.le_refl _)] at this
 ·rw [List.pairwise_map,List.pairwise_iff_getElem]
  intro i j hi hj hij;rw [Array.length_toList] at hi hj;have:=hs i j (Nat.zero_le _) (Nat.le_of_lt hij) (by rw [←hp.size_eq];exact hj);rw [iR hi,iR hj] at this;simpa using this
theorem xY {a:Addr} {vs:List Value} {n:Nat} {P:PySem.Fin->Shared->Prop} (ho:s.heap.get? a=some (seqObj "list" vs.toArray n)) (hz:vs.length<=sizeLine)
 (hk:2<=vs.length -> ∀h':Heap,(∀b o,b≠a->s.heap.get? b=some o->h'.get? b=some o)->(∀(Q:SortKind->Shared->Prop) (E:Value->Shared->Prop),Q κ {s with heap:=h'}->wpAny (model prog w) A (keyKind' vs.toArray) Q E {s with heap:=h'})/\GJ prog w A {s with heap:=h'} κ (pairsOf vs) rk)
 (h:∀out:List Value,out.Perm vs->out.Pairwise (fun x y=>rk x<=rk y)->P (.done (.ret .none)) {s with heap:=sortedHeap s.heap a vs out.toArray}):
 wpAny (model prog w) A (Builtin.«list.sort» ⟨[.ref a],[]⟩) P E s:=by
 rw [list_sort_plain];have ha:a<s.heap.objs.size:=Heap.lt_size ho;refine wpAny_bind (listItems_at ho rfl ?_);refine wpAny_bind (listUpdate_at ho rfl ?_ (by rw [List.size_toArray];exact hz) (Nat.zero_le _));obtain ⟨e1,ho1⟩:∃e1,(s.heap.update a (Obj.mapSeq fun _=> #[])).get? a=some (seqObj "list" #[] e1):=⟨_,get?_update_seq ho (fun _=> #[])⟩;refine wpAny_bind (seqEpoch_at ho1 rfl ?_);refine wpAny_bind (wpAny_newTuple ?_ (by show vs.length<=_;exact hz));refine wpAny_bind (wpAny_newList ?_ (Nat.zero_le _));refine wpAny_holding ?_
 have keep:∀b o,b≠a->s.heap.get? b=some o->(((s.heap.update a (Obj.mapSeq fun _=> #[])).push (seqObj "tuple" vs.toArray 0)).push (seqObj "list" #[] 0)).get? b=some o:=fun b o nb e=>by
  refine Heap.get?_push_of_some _ (Heap.get?_push_of_some _ ?_);rw [Heap.get?_update_ne _ _ _ _ nb];exact e
 have ho6:(((s.heap.update a (Obj.mapSeq fun _=> #[])).push (seqObj "tuple" vs.toArray 0)).push (seqObj "list" #[] 0)).get? a=some (seqObj "list" #[] e1):=Heap.get?_push_of_some _ (Heap.get?_push_of_some _ ho1);show wpAny (model prog w) A _ P E {s with heap:=((s.heap.update a (Obj.mapSeq fun _=> #[])).push (seqObj "tuple" vs.toArray 0)).push (seqObj "list" #[] 0)};dsimp only;have hsz:vs.toArray.size=vs.length:=by simp
 have fin:∀st':SortSt,(arrOf st').Perm (pairsOf vs)->Seg rk (arrOf st') 0 (pairsOf vs).size ->
  P (.done (.ret .none)) {s with heap:=sortedHeap s.heap a vs ((arrOf st').map (·.2))}:=by
  intro st' hp hs;obtain ⟨h1,h2⟩:=Ul hp hs;have:=h _ h1 h2;rwa [Array.toArray_toList] at this
 by_cases h2:vs.toArray.size<2
 ·rw [if_pos h2,if_pos h2]
  refine wpAny_bind (wpAny_pure ?_);rw [StateT.run_pure];refine wpAny_bind (wpAny_pure ?_);dsimp only;refine wpAny_bind (seqEpoch_at ho6 rfl ?_);refine wpAny_bind (listUpdate_at ho6 rfl ?_ (Nat.zero_le _) (by rw [Array.size_map];show (pairsOf vs).size<=_;rw [pairsOf_size];omega));simp only [bne_self_eq_false,Bool.false_eq_true,if_false];refine wpAny_pure (fin (SortSt.mk' general' (vs.toArray.zip vs.toArray) #[] 7 none) (Array.Perm.refl _) ?_);intro i j _ hij hj;have:i=j:=by rw [pairsOf_size] at hj;omega
  subst this;exact Nat.le_refl _
 ·rw [if_neg h2,if_neg h2]
  obtain ⟨kk,kc⟩:=hk (by omega) _ keep;refine wpAny_bind (kk _ _ ?_)
  refine wpAny_bind (wpAny_mono (wpS_sortRuns (a₀:=pairsOf vs) (rk:=rk) (st:=SortSt.mk' κ (vs.toArray.zip vs.toArray) #[] 7 none)
   (Q:=fun _ st'=>(arrOf st').Perm (pairsOf vs)/\failedOf st'=none/\Seg rk (arrOf st') 0 (pairsOf vs).size)
   kc ⟨Array.Perm.refl _,rfl,rfl,rfl⟩ (by rw [pairsOf_size];omega) fun st' a1 a2 a3=>⟨a1,a2,a3⟩) ?_ fun _ _ e=>e)
  rintro ⟨⟨⟩,st'⟩ s' ⟨rfl,hp,hf,hs⟩;dsimp only;refine wpAny_bind (seqEpoch_at ho6 rfl ?_);refine wpAny_bind (listUpdate_at ho6 rfl ?_ (Nat.zero_le _) (Nat.le_trans (Nat.le_of_eq ((Array.size_map ..).trans (hp.size_eq.trans (pairsOf_size _)))) (Nat.le_succ_of_le hz)));rw [hf];simp only [bne_self_eq_false,Bool.false_eq_true,if_false];exact wpAny_pure (fin st' hp hs)
theorem Ez {l:Addr} {vs:List Value} {Q:Value->Shared->Prop} (hl:s.heap.IsList l vs.toArray) (hz:vs.length<=sizeLine)
 (hk:2<=vs.length -> ∀h':Heap,(∀b o,s.heap.get? b=some o->h'.get? b=some o)->(∀(Q:SortKind->Shared->Prop) (E:Value->Shared->Prop),Q κ {s with heap:=h'}->wpAny (model prog w) A.in1.in1 (keyKind' vs.toArray) Q E {s with heap:=h'})/\GJ prog w A.in1.in1 {s with heap:=h'} κ (pairsOf vs) rk)
 (h:∀(h':Heap) (D:Addr) (c:Nat) (out:List Value),(∀b o,s.heap.get? b=some o->h'.get? b=some o)->s.heap.objs.size<=D->h'.get? D=some (seqObj "list" out.toArray c)->out.Perm vs->out.Pairwise (fun x y=>rk x<=rk y)->Q (.ref D) {s with heap:=h'}):
 wpAny (model prog w) A (call (.builtin "sorted") [.ref l]) Q E s:=by
 refine Calls.call_function_entry kind_sorted plain_sorted entry_sorted (args_sorted1 _) ?_;unfold Builtin.«sorted»;refine wpAny_bind (m:=checkCount "sorted" 1 1 _) (wpAny_pure ?_);refine wpAny_bind (collect_list hl ?_ hz);refine wpAny_bind (wpAny_newList ?_ hz)
 have hsz:((s.heap.push (seqObj "list" #[] 0)).update s.heap.objs.size (Obj.mapSeq (· ++ vs.toArray))).objs.size=s.heap.objs.size+1:=by
  rw [Heap.size_update,size_push']
 have hoL:(((s.heap.push (seqObj "list" #[] 0)).update s.heap.objs.size (Obj.mapSeq (· ++ vs.toArray))).push (seqObj "list" vs.toArray 0)).get? (s.heap.objs.size+1)=some (seqObj "list" vs.toArray 0):=by
  rw [←hsz];exact Heap.get?_push_size _ rfl
 have keep:∀b o,s.heap.get? b=some o->(((s.heap.push (seqObj "list" #[] 0)).update s.heap.objs.size (Obj.mapSeq (· ++ vs.toArray))).push (seqObj "list" vs.toArray 0)).get? b=some o:=fun b o q=>by
  have hlt:b<s.heap.objs.size:=Heap.lt_size q;rw [Heap.get?_push_ne _ _ _ (by rw [hsz];exact Nat.ne_of_lt (Nat.lt_succ_of_lt hlt)),Heap.get?_update_ne _ _ _ _ (Nat.ne_of_lt hlt),Heap.get?_push_ne _ _ _ (Nat.ne_of_lt hlt)];exact q
 show wpAny _ _ _ _ _ {s with heap:=((s.heap.push (seqObj "list" #[] 0)).update s.heap.objs.size (Obj.mapSeq (· ++ vs.toArray))).push (seqObj "list" vs.toArray 0)};rw [hsz];generalize ((s.heap.push (seqObj "list" #[] 0)).update s.heap.objs.size (Obj.mapSeq (· ++ vs.toArray))).push (seqObj "list" vs.toArray 0)=h1 at keep hoL ⊢;have nD:∀b o,s.heap.get? b=some o->b≠s.heap.objs.size+1:=fun b o e=>Nat.ne_of_lt (Nat.lt_succ_of_lt (Heap.lt_size e));refine wpAny_bind (wpAny_holding (wpAny_call_entry slot_list_sort ⟨_,hoL,rfl⟩ entry_list_sort (xY (s:={s with heap:=h1}) hoL hz (fun h2 h' kp=>hk h2 h' fun b o e=>kp b o (nD b o e) (keep b o e)) fun out p1 p2=>⟨_,rfl, ?_⟩) (args_list_sort _)));refine wpAny_pure ⟨_,rfl, ?_⟩;obtain ⟨e1,ho1⟩:∃e1,(h1.update (s.heap.objs.size+1) (Obj.mapSeq fun _=> #[])).get? (s.heap.objs.size+1)=some (seqObj "list" #[] e1):=⟨_,get?_update_seq hoL (fun _=> #[])⟩;have ho2:(((h1.update (s.heap.objs.size+1) (Obj.mapSeq fun _=> #[])).push (seqObj "tuple" vs.toArray 0)).push (seqObj "list" #[] 0)).get? (s.heap.objs.size+1)=some (seqObj "list" #[] e1):=Heap.get?_push_of_some _ (Heap.get?_push_of_some _ ho1);refine h (sortedHeap h1 (s.heap.objs.size+1) vs out.toArray) _ _ out (fun b o e=> ?_) (Nat.le_succ _) (by unfold sortedHeap;exact get?_update_seq ho2 (fun _=>out.toArray)) p1 p2;unfold sortedHeap;rw [Heap.get?_update_ne _ _ _ _ (nD b o e)];refine Heap.get?_push_of_some _ (Heap.get?_push_of_some _ ?_);rw [Heap.get?_update_ne _ _ _ _ (nD b o e)];exact keep b o e
end
section
theorem yR {α:Type} {p q:α->Bool} {u:α}:∀{l:List α},u∈l->q u=true->p u=false->(∀x,p x=true->q x=true)->l.countP p<l.countP q
 | [],hm,_,_,_=>by simp at hm
 | x::l,hm,hq,hp,hi=>by
   have mono:l.countP p<=l.countP q:=List.countP_mono_left fun x _=>hi x;rw [List.countP_cons,List.countP_cons];rcases List.mem_cons.mp hm with rfl|hm
   ·rw [hq,hp];simp;omega
   ·have:=yR hm hq hp hi
    cases e:p x with
    | true=>rw [hi x e];simp;omega
    | false=>simp;omega
def nZ {α:Type} (L:α->α->Bool) (vs:List α) (v:α):Nat:=vs.countP fun u=>L u v
structure Swo {α:Type} (L:α->α->Bool):Prop where
 irr:∀a,L a a=false
 tr:∀a b c,L a b=true->L b c=true->L a c=true
 ntr:∀a b c,L a b=false->L b c=false->L a c=false
theorem G9 {α:Type} {L:α->α->Bool} (S:Swo L) {vs:List α} {u v:α} (hu:u∈vs):decide (nZ L vs u<nZ L vs v)=L u v:=by
 cases e:L u v with
 | true=>exact decide_eq_true (yR hu e (S.irr u) fun x hx=>S.tr x u v hx e)
 | false=>
   refine decide_eq_false fun z=> ?_
   have:nZ L vs v<=nZ L vs u:=List.countP_mono_left fun x _ hx=>by
    cases e':L x u with
    | true=>rfl
    | false=>rw [S.ntr x u v e' e] at hx;cases hx
   omega
theorem PN {α:Type} {L:α->α->Bool} (S:Swo L) {vs:List α} {u v:α} (hv:v∈vs) (h:nZ L vs u<=nZ L vs v):L v u=false:=by
 have:=G9 S (u:=v) (v:=u) hv;rw [←this];exact decide_eq_false (by omega)
def jY:List Int->List Int->Bool
 | _,[]=>false
 | [],_::_=>true
 | a::as,b::bs=>if a=b then jY as bs else decide (a<b)
theorem CQ (a:List Int):jY a []=false:=by cases a<;>rfl
theorem CT:∀a,jY a a=false
 | []=>rfl
 | a::as=>by unfold jY;rw [if_pos rfl];exact CT as
theorem HX:∀a b c,jY a b=true->jY b c=true->jY a c=true
 | a,[],_,h,_=>by rw [CQ] at h;cases h
 | [],_::_,[],_,h=>by cases h
 | [],_::_,_::_,_,_=>rfl
 | _::_,_::_,[],_,h=>by cases h
 | a::as,b::bs,c::cs,h1,h2=>by
   unfold jY at h1 h2 ⊢
   by_cases e1:a=b
   ·rw [if_pos e1] at h1
    by_cases e2:b=c
    ·rw [if_pos e2] at h2
     rw [if_pos (e1.trans e2)];exact HX as bs cs h1 h2
    ·rw [if_neg e2] at h2
     rw [if_neg (e1▸e2),e1];exact h2
   ·rw [if_neg e1] at h1
    have h1:=of_decide_eq_true h1
    by_cases e2:b=c
    ·rw [←e2,if_neg e1];exact decide_eq_true h1
    ·rw [if_neg e2] at h2
     have h2:=of_decide_eq_true h2;rw [if_neg (by omega)];exact decide_eq_true (by omega)
theorem CP:∀a b c,jY a b=false->jY b c=false->jY a c=false
 | a,_,[],_,_=>CQ a
 | [],[],_::_,_,h=>by cases h
 | [],_::_,_::_,h,_=>by cases h
 | _::_,[],_::_,_,h=>by cases h
 | a::as,b::bs,c::cs,h1,h2=>by
   unfold jY at h1 h2 ⊢
   by_cases e1:a=b
   ·rw [if_pos e1] at h1
    by_cases e2:b=c
    ·rw [if_pos e2] at h2
     rw [if_pos (e1.trans e2)];exact CP as bs cs h1 h2
    ·rw [if_neg e2] at h2
     rw [if_neg (e1▸e2),e1];exact h2
   ·rw [if_neg e1] at h1
    have h1:=of_decide_eq_false h1
    by_cases e2:b=c
    ·rw [←e2,if_neg e1];exact decide_eq_false h1
    ·rw [if_neg e2] at h2
     have h2:=of_decide_eq_false h2;rw [if_neg (by omega)];exact decide_eq_false (by omega)
theorem G3 {α:Type} (key:α->List Int):Swo fun a b=>jY (key a) (key b):=⟨fun a=>CT _,fun a b c=>HX _ _ _,fun a b c=>CP _ _ _⟩
end
end Tim
set_option Elab.async false
set_option linter.all false
set_option maxRecDepth 100000
set_option maxHeartbeats 4000000
namespace L2
open PySem PySem.Spec PyProof.Rows PySem.W
section
variable {X:Cx}
def keyOf (h:Heap):Value->List Int
 | .int n _=>[n]
 | .ref a=>match h.get? a with
   | some o=>match o.data with
     | .seq xs _=>xs.toList.map numOf
     | _=>[]
   | none=>[]
 | _=>[]
def Sy (h:Heap) (vs:List Value):Prop:=∀v∈vs,∃n t,v=Value.int n t
theorem Nr {prog:Program} {w:World} {A:Around} {s:Shared} {vs:List Value} {h0:Heap} (T:Sy h0 vs):
 Tim.GJ prog w A s oneType' (pairsOf vs) (Tim.nZ (fun a b=>Tim.jY (keyOf h0 a) (keyOf h0 b)) vs):=by
 refine ⟨fun p hp q hq E Q h=> ?_⟩;rw [pairsOf_toList] at hp hq;obtain ⟨_,mp⟩:=mem_zip_self hp;obtain ⟨_,mq⟩:=mem_zip_self hq;rw [Tim.G9 (Tim.G3 (keyOf h0)) mp] at h;obtain ⟨n,t,ep⟩:=T _ mp;obtain ⟨m,u,eq⟩:=T _ mq;rw [ep,eq] at h ⊢;rw [keyLt'_oneType];refine oneLt_int ?_
 have e:Tim.jY (keyOf h0 (.int n t)) (keyOf h0 (.int m u))=decide (n<m):=by
  show (if n=m then Tim.jY [] [] else decide (n<m))=_
  by_cases e:n=m
  ·subst e;rw [if_pos rfl];simp [Tim.jY]
  ·rw [if_neg e]
 rwa [e] at h
theorem yN:∀{ns:List Int} {vs:List Value},Vals (ns.map V.int) vs->IntsAre vs ns
 | [],_,.nil=> .nil
 | n::ns,_,.cons ⟨t,e⟩ r=>by subst e;exact .cons n t (yN r)
def Ln (K:PySem.W.Frag):List V->Hp->VK->Prop:=fun xs H Q=>∃(p:Addr) (ns:List Int),xs=[.ref p]/\bH K H p (ns.map V.int) /\
 ∀(l:Addr) (ms:List Int),H l=none->ms.Perm ns->ms.Pairwise (fun x y=>x<=y)->Q (.ref l) (upd H l (.lst (ms.map V.int)))
theorem Gf:iw X (.builtin "sorted") (Ln X.K):=by
 intro pins s σ H xs us Q I r h;obtain ⟨p,ns,rfl,hq,q⟩:=h;obtain ⟨u,rfl,rx⟩:=vals1 r;cases rx;obtain ⟨its,rv,pl,hz⟩:=I.list hq;have hI:=yN rv;have T:Sy s.heap its:=fun v hv=>hI.all v hv;rw [List.length_map] at hz;have hl:its.length=ns.length:=hI.length
 refine Tim.Ez (κ:=oneType') (rk:=Tim.nZ (fun a b=>Tim.jY (keyOf s.heap a) (keyOf s.heap b)) its) pl.isList (by omega)
  (fun h2 h' kp=>⟨fun Q E hQ=> ?_,Nr T⟩) fun h' D c out kp hD hd hp hs=> ?_
 ·match its,ns,hI,h2 with
  | [],_,_,h2=>simp at h2
  | [_],_,_,h2=>simp at h2
  | v₁::v₂::rest,_,hI,_=>rw [keyKind_ints hI];exact wpAny_pure hQ
 have hO:IntsAre out (out.map numOf):=intsAre_map out fun v hv=>T v (hp.mem_iff.mp hv);have z1:Vals ((out.map numOf).map V.int) out:=yF hO;have z2:(out.map numOf).Perm ns:=by rw [←hI.nums];exact hp.map _
 have hzl:((out.map numOf).map V.int).length<=sizeLine:=by rw [List.length_map,z2.length_eq];exact hz
 refine ⟨.ref D,_,I.laid (t':=s.toks) kp hD (show fM X.prog X.w _ h' _ (.lst ((out.map numOf).map V.int)) from ⟨hzl,out,c,z1,hd⟩),rfl,q D _ (I.hok.fresh hD) z2 ?_⟩;rw [List.pairwise_map];refine List.Pairwise.imp_of_mem (fun {u v} hu hv huv=> ?_) hs;obtain ⟨n,t,rfl⟩:=T u (hp.mem_iff.mp hu);obtain ⟨m,t',rfl⟩:=T v (hp.mem_iff.mp hv);have:=Tim.PN (Tim.G3 (keyOf s.heap)) (hp.mem_iff.mp hv) huv
 have e:Tim.jY (keyOf s.heap (.int m t')) (keyOf s.heap (.int n t))=decide (m<n):=by
  show (if m=n then Tim.jY [] [] else decide (m<n))=_
  by_cases e:m=n
  ·subst e;rw [if_pos rfl];simp [Tim.jY]
  ·rw [if_neg e]
 have this:Tim.jY (keyOf s.heap (.int m t')) (keyOf s.heap (.int n t))=false:=this;rw [e] at this;have:=of_decide_eq_false this;show n<=m;omega
theorem Dr {K:PySem.W.Frag} (hK:X.K=K):iw X (.builtin "sorted") (Ln K):=by subst hK;exact Gf
end
end L2
set_option Elab.async false
set_option linter.all false
set_option maxRecDepth 100000
set_option maxHeartbeats 4000000
namespace L2
open PySem PySem.Spec PyProof.Rows PySem.W
section
variable {X:Cx}
def abu (ta:TA):TE:=fun σ H Q=>ta σ H fun vs H1=>∃n:Nat,vs=[.int n]/\n<=100000 /\ ∀l,H1 l=none->Q (.ref l) (upd H1 l (.lst (((List.range n).map fun k:Nat=>(k:Int)).map V.int)))
theorem Cj {a:Expr} {ta:TA} {p p2 pos pos2:Pos} (hc:X.calm=true) (hg:Gl X "list") (hm:X.mg "list" = none) (hgr:Gl X "range") (hmr:X.mg "range" = none) (ha:PA X [a] ta)
 (hs:starEach [a] X.env=[(false,eval a X.env)]:=by rfl)
 (hl:starEach [.Call (.Name "range" p2) [a] [] pos2] X.env=[(false,eval (.Call (.Name "range" p2) [a] [] pos2) X.env)]:=by rfl):
 PE X (.Call (.Name "list" p) [.Call (.Name "range" p2) [a] [] pos2] [] pos) (abu ta):=by
 intro pins s σ H Q I h;refine Call_ (mX I hg hm fV (PyProof.Rows.callWith_type1 ?_ hl rfl));rw [hl];show wpAny _ _ (spliced ((false,eval (.Call (.Name "range" p2) [a] [] pos2) X.env)::backTo pos (starEach [] X.env))) _ _ s;refine Calls.spliced_cons (Call_ (mX I hgr hmr boot_range (PyProof.Rows.callWith_type1 (dH (ha pos2 pins s σ H _ I h) fun us s1 ⟨vs,H1,I1,r1,q1⟩=> ?_) hs rfl)));obtain ⟨n,e,qz,q⟩:=q1;subst e;cases r1 with
 | cons r rr=>
   cases rr;obtain ⟨t,rfl⟩:=r;refine call_range_1 ?_;refine Calls.spliced_nil ?_;refine call_list_range (n:=n) (I.ok.hd hc) (IsRange.new ..) (small_one (by omega) (by omega) (by omega) (by omega)) (by rw [rangeSize_one];split<;>omega) (by omega) fun h' tk acc' c' hk hS' hacc=> ?_
   have r':Vals (((List.range n).map fun k:Nat=>(k:Int)).map V.int) acc'.toList:=by
    rw [List.map_map];refine Bm (fun k=>(k:Int)) acc'.toList _ (by simp [hacc.1]) fun k v hv=> ?_;obtain ⟨t,e⟩:=hacc.2 k v (by simpa using hv);exact ⟨t,by rw [e,Int.mul_one];simp⟩
   have I2:=I1.kept (h':=s1.heap.push {cls:= .type "range",data:= .fields #[.int 0 s1.toks,.int n t,.int 1 (s1.toks+1)]}) (t':=s1.toks+2) fun b o e=>Heap.get?_push_of_some _ e;exact ⟨.ref _,_,I2.laid (t':=tk) hk (Nat.le_refl _) (show fM X.prog X.w _ h' _ (.lst _) from ⟨by simp;rw [sizeLine_eq];omega,acc'.toList,c',r',by simpa using hS'⟩),rfl,q _ (I2.hok.fresh (Nat.le_refl _))⟩
end
end L2
set_option Elab.async false
set_option linter.all false
set_option maxRecDepth 100000
set_option maxHeartbeats 4000000
namespace L2
open PySem PySem.Spec PyProof.Rows
section
variable {prog:Program} {w:World} {A:Around} {E:Value->Shared->Prop} {s:Shared}
end
section
variable {X:Cx} {pos:Pos}
end
end L2
set_option Elab.async false
set_option linter.all false
set_option maxRecDepth 100000
set_option maxHeartbeats 4000000
namespace L2
open PySem
abbrev Tg:=Addr->List Nat
def bL (τ:Tg) (x:Addr) (t:List Nat):Tg:=fun y=>if y=x then t else τ y
theorem cY {τ:Tg} {x:Addr} {t:List Nat}:bL τ x t x=t:=if_pos rfl
theorem bI {τ:Tg} {x y:Addr} {t:List Nat} (h:y≠x):bL τ x t y=τ y:=if_neg h
def yp (τ:Tg) (H:Hp):Prop:=∀x,H x=none->τ x=[]
theorem yp.dom {τ:Tg} {H H':Hp} (u:yp τ H) (d:∀x,H' x=none->H x=none):yp τ H':=fun x e=>u x (d x e)
theorem yp.same {τ:Tg} {H H':Hp} (u:yp τ H) (k:Same H H'):yp τ H':=u.dom fun _ e=>k.free e
theorem yp.claim {τ:Tg} {H H':Hp} {p:Addr} {t:List Nat} (u:yp τ H) (k:Same H H') (hp:∃o,H' p=some o):yp (bL τ p t) H':=fun x e=>by
 have n:x≠p:=fun z=>by
  obtain ⟨o,ho⟩:=hp;rw [z,ho] at e;cases e
 rw [bI n];exact u.same k x e
theorem dN {τ:Tg} {a b:Addr} {s t:List Nat} (ha:τ a=s) (hb:τ b=t) (h:s≠t):a≠b:=fun e=>h (by rw [←ha,←hb,e])
structure Ot (i:Nat) (τ:Tg) (H H':Hp):Prop where
 keep:∀x o,H x=some o->(τ x).head?≠some i->H' x=some o
 tup:∀x xs,H x=some (.tup xs)->H' x=some (.tup xs)
 dom:∀x,H' x=none->H x=none
theorem Ot.of_same {i:Nat} {τ:Tg} {H H':Hp} (k:Same H H'):Ot i τ H H':=⟨fun x o e _=>k _ _ e,fun x xs e=>k _ _ e,fun x e=>k.free e⟩
theorem Ot.un {i:Nat} {τ:Tg} {H H':Hp} (a:Ot i τ H H') (u:yp τ H):yp τ H':=u.dom a.dom
structure Mv (i:Nat) (τ:Tg) (H:Hp) (τ':Tg) (H':Hp):Prop where
 keep:∀x o,H x=some o->τ x=[0]\/(τ x).head?=some i->H' x=some o/\τ' x=τ x
 tup:∀x xs,H x=some (.tup xs)->H' x=some (.tup xs)
theorem Mv.of_same {i:Nat} {τ:Tg} {H H':Hp} (k:Same H H'):Mv i τ H τ H':=⟨fun x o e _=>⟨k _ _ e,rfl⟩,fun x xs e=>k _ _ e⟩
theorem Mv.tags {i:Nat} {τ τ':Tg} {H H':Hp} (k:Same H H') (t:∀x o,H x=some o->τ' x=τ x):Mv i τ H τ' H':=⟨fun x o e _=>⟨k _ _ e,t x o e⟩,fun x xs e=>k _ _ e⟩
theorem Mv.Rx {i:Nat} {τ:Tg} {H H':Hp} {a:Addr} {o:HO} (k:Kp a H H') (ha:H a=some o) (hn:∀xs,o ≠ .tup xs) (ht:τ a=[]):Mv i τ H τ H':=⟨fun x u e t=>⟨k _ _ e (fun z=>by
 rw [z,ht] at t;rcases t with t|t<;>cases t),rfl⟩,fun x xs e=>k _ _ e (eO e ha fun z=>hn xs z.symm)⟩
theorem Mv.trans {i:Nat} {τ τ1 τ2:Tg} {H H1 H2:Hp} (a:Mv i τ H τ1 H1) (b:Mv i τ1 H1 τ2 H2):Mv i τ H τ2 H2:=⟨fun x o e t=>by
 obtain ⟨e1,t1⟩:=a.keep x o e t;obtain ⟨e2,t2⟩:=b.keep x o e1 (by rw [t1];exact t);exact ⟨e2,by rw [t2,t1]⟩,fun x xs e=>b.tup _ _ (a.tup _ _ e)⟩
end L2
set_option Elab.async false
set_option linter.all false
set_option maxRecDepth 100000
set_option maxHeartbeats 4000000
namespace Prf
open PySem L2
inductive Ko where
 | num (n:Int)
 | box (b:Nat)
 deriving DecidableEq
inductive D_ where
 | one (x:Ko)
 | two (p:Bool) (x y:Ko)
 deriving DecidableEq
inductive Rw where
 | load (b c:Nat)
 | store (c:Nat) (e:D_)
 | swap (b c:Nat) (e:D_)
 | uy (b:Nat) (e:D_)
 | say (e:D_)
 | go (k:Nat)
 | xU (q:Bool) (e f:D_) (k:Nat)
 deriving DecidableEq
def rA (b:Nat):Str:=⟨#[97+b]⟩
def yC:Ko->PyData
 | .num n=> .tuple [.str "number",.int n]
 | .box b=> .tuple [.str "box",.str (rA b)]
def lR:D_->PyData
 | .one x=>yC x
 | .two p x y=> .tuple [.str (if p then "plus" else "minus"),yC x,yC y]
def lK:Rw->PyData
 | .load b c=> .tuple [.str "load",.str (rA b),.int c]
 | .store c e=> .tuple [.str "store",.int c,lR e]
 | .swap b c e=> .tuple [.str "swap",.str (rA b),.int c,lR e]
 | .uy b e=> .tuple [.str "let",.str (rA b),lR e]
 | .say e=> .tuple [.str "say",lR e]
 | .go k=> .tuple [.str "go",.int k]
 | .xU q e f k=> .tuple [.str "unless",.str (if q then "=" else "<"),lR e,lR f,.int k]
def KQ:Ko->Prop
 | .num n=>0<=n/\n<1000
 | .box b=>b<8
def sX:D_->Prop
 | .one x=>KQ x
 | .two _ x y=>KQ x/\KQ y
def BW (m:Nat):Rw->Prop
 | .load b c=>b<8/\c<m
 | .store c e=>c<m/\sX e
 | .swap b c e=>b<8/\c<m/\sX e
 | .uy b e=>b<8/\sX e
 | .say e=>sX e
 | .go _=>True
 | .xU _ e f _=>sX e/\sX f
theorem FP:∀x:Ko,Bg (yC x)=true
 | .num _=>rfl
 | .box _=>rfl
theorem sU:∀e:D_,Bg (lR e)=true
 | .one x=>FP x
 | .two p x y=>by simp only [lR,Bg,pX,FP,Bool.and_self]
theorem Ad:∀r:Rw,Bg (lK r)=true
 | .load _ _=>rfl
 | .store _ e=>by simp only [lK,Bg,pX,sU,Bool.and_self]
 | .swap _ _ e=>by simp only [lK,Bg,pX,sU,Bool.and_self]
 | .uy _ e=>by simp only [lK,Bg,pX,sU,Bool.and_self]
 | .say e=>by simp only [lK,Bg,pX,sU,Bool.and_self]
 | .go _=>rfl
 | .xU _ e f _=>by simp only [lK,Bg,pX,sU,Bool.and_self]
section
variable {H:Hp} {v:V}
theorem Sq {x:Ko} (h:Dat H v (yC x)):∃t,v = .ref t/\H t=some (.tup (match x with | .num n=>[.str "number",.int n] | .box b=>[.str "box",.str (rA b)])):=by
 cases x<;>simp only [yC,Dat] at h<;>obtain ⟨t,vs,rfl,e,d⟩:=h<;>refine ⟨t,rfl, ?_⟩<;>rw [e] <;>
 ·match vs,d with
  | [a,b],d=>
    simp only [aO,Dat,and_true] at d;obtain ⟨rfl,rfl⟩:=d;rfl
theorem Vx {p:Bool} {x y:Ko} (h:Dat H v (lR (.two p x y))):∃t a b,v = .ref t/\H t=some (.tup [.str (if p then "plus" else "minus"),a,b])/\Dat H a (yC x)/\Dat H b (yC y):=by
 simp only [lR,Dat] at h;obtain ⟨t,vs,rfl,e,d⟩:=h
 match vs,d with
 | [a,b,c],d=>
   simp only [aO,Dat,and_true] at d;obtain ⟨rfl,d1,d2⟩:=d;exact ⟨t,_,_,rfl,e,d1,d2⟩
def Parts (H:Hp) (vs:List V):Rw->Prop
 | .load b c=>vs=[.str "load",.str (rA b),.int c]
 | .store c e=>∃x,vs=[.str "store",.int c,x]/\Dat H x (lR e)
 | .swap b c e=>∃x,vs=[.str "swap",.str (rA b),.int c,x]/\Dat H x (lR e)
 | .uy b e=>∃x,vs=[.str "let",.str (rA b),x]/\Dat H x (lR e)
 | .say e=>∃x,vs=[.str "say",x]/\Dat H x (lR e)
 | .go k=>vs=[.str "go",.int k]
 | .xU q e f k=>∃x y,vs=[.str "unless",.str (if q then "=" else "<"),x,y,.int k]/\Dat H x (lR e)/\Dat H y (lR f)
theorem Iz {r:Rw} (h:Dat H v (lK r)):∃t vs,v = .ref t/\H t=some (.tup vs)/\Parts H vs r:=by
 cases r<;>simp only [lK,Dat] at h<;>obtain ⟨t,vs,rfl,e,d⟩:=h<;>refine ⟨t,vs,rfl,e, ?_⟩
 ·match vs,d with
  | [a,b,c],d=>
    simp only [aO,Dat,and_true] at d;obtain ⟨rfl,rfl,rfl⟩:=d;rfl
 ·match vs,d with
  | [a,b,c],d=>
    simp only [aO,Dat,and_true] at d;obtain ⟨rfl,rfl,d⟩:=d;exact ⟨_,rfl,d⟩
 ·match vs,d with
  | [a,b,c,x],d=>
    simp only [aO,Dat,and_true] at d;obtain ⟨rfl,rfl,rfl,d⟩:=d;exact ⟨_,rfl,d⟩
 ·match vs,d with
  | [a,b,c],d=>
    simp only [aO,Dat,and_true] at d;obtain ⟨rfl,rfl,d⟩:=d;exact ⟨_,rfl,d⟩
 ·match vs,d with
  | [a,b],d=>
    simp only [aO,Dat,and_true] at d;obtain ⟨rfl,d⟩:=d;exact ⟨_,rfl,d⟩
 ·match vs,d with
  | [a,b],d=>
    simp only [aO,Dat,and_true] at d;obtain ⟨rfl,rfl⟩:=d;rfl
 ·match vs,d with
  | [a,b,c,x,y],d=>
    simp only [aO,Dat,and_true] at d;obtain ⟨rfl,rfl,d1,d2,rfl⟩:=d;exact ⟨_,_,rfl,d1,d2⟩
end
def v1 (bs:List Int):Ko->Int
 | .num n=>n % 1000
 | .box b=>(bs[b]?).getD 0
def vx (bs:List Int):D_->Int
 | .one x=>v1 bs x
 | .two true x y=>(v1 bs x+v1 bs y) % 1000
 | .two false x y=>(v1 bs x - v1 bs y) % 1000
structure bG where
 (rws:List Rw) (pos:Nat) (bs sy:List Int) (st:Str)
def touch:Rw->Bool
 | .load _ _=>true
 | .store _ _=>true
 | .swap _ _ _=>true
 | _=>false
def sV (bs:List Int):Rw->Bool
 | .xU true e f _=>decide (vx bs e=vx bs f)
 | .xU false e f _=>decide (vx bs e<vx bs f)
 | _=>false
def ud (s:bG):Rw->bG
 | .uy b e=>{s with pos:=s.pos+1,bs:=s.bs.set b (vx s.bs e)}
 | .say e=>{s with pos:=s.pos+1,sy:=s.sy++[vx s.bs e]}
 | .go k=>{s with pos:=k}
 | .xU q e f k=>{s with pos:=if sV s.bs (.xU q e f k) then s.pos+1 else k}
 | _=>s
def led:Nat->bG->bG
 | 0,s=>match s.rws[s.pos]? with
   | none=>{s with st:= "ends" }
   | some r=>if touch r then {s with st:= "waits" } else {s with st:= "lost" }
 | n+1,s=>match s.rws[s.pos]? with
   | none=>{s with st:= "ends" }
   | some r=>if touch r then {s with st:= "waits" } else led n (ud s r)
def lead (s:bG):bG:=led 60 s
theorem yQ (s:bG) (r:Rw):(ud s r).rws=s.rws:=by cases r<;>rfl
theorem Dj (s:bG) (r:Rw):(ud s r).sy.length<=s.sy.length+1:=by cases r<;>simp [ud]
theorem uV:∀(n:Nat) (s:bG),(led n s).rws=s.rws
 | 0,s=>by
   unfold led;split
   ·rfl
   ·split<;>rfl
 | n+1,s=>by
   unfold led;split
   ·rfl
   ·split
    ·rfl
    ·rw [uV,yQ]
theorem Fz:∀(n:Nat) (s:bG),(led n s).sy.length<=s.sy.length+n
 | 0,s=>by
   unfold led;split
   ·simp
   ·split<;>simp
 | n+1,s=>by
   unfold led;split
   ·simp
   ·split
    ·simp
    ·rename_i r _ _
     have:=Fz n (ud s r);have:=Dj s r;omega
def q_ (s:bG):Prop:=s.st = "waits" -> ∃r,s.rws[s.pos]? = some r/\touch r=true
theorem Ik:(Str.ofString "ends")≠Str.ofString "waits" :=by decide +kernel
theorem QH:(Str.ofString "lost")≠Str.ofString "waits" :=by decide +kernel
theorem FJ:∀(n:Nat) (s:bG),q_ (led n s)
 | 0,s=>by
   unfold led q_;split
   ·intro z;exact absurd z Ik
   ·rename_i r e
    split
    ·intro _;exact ⟨r,e,by assumption⟩
    ·intro z;exact absurd z QH
 | n+1,s=>by
   unfold led;split
   ·intro z;exact absurd z Ik
   ·rename_i r e
    split
    ·intro _;exact ⟨r,e,by assumption⟩
    ·exact FJ n _
def new (rws:List Rw):bG:=⟨rws,0,List.replicate 8 0,[],"waits"⟩
structure g_ where
 (m:Nat) (ns:List Int) (hs:List bG) (ts:List Int)
def gJ:Rw->Nat
 | .load _ c=>c
 | .store c _=>c
 | .swap _ c _=>c
 | _=>0
def lC:Rw->Str
 | .load _ _=> "load"
 | .store _ _=> "store"
 | .swap _ _ _=> "swap"
 | .uy _ _=> "let"
 | .say _=> "say"
 | .go _=> "go"
 | .xU _ _ _ _=> "unless"
def vV (ns:List Int):Rw->Option Int
 | .load _ c=>ns[c]?
 | .swap _ c _=>ns[c]?
 | _=>none
def GK (bs:List Int):Rw->Option Int
 | .store _ e=>some (vx bs e)
 | .swap _ _ e=>some (vx bs e)
 | _=>none
def oV:Option Int->V
 | none=> .non
 | some i=> .int i
def oD:Option Int->PyData
 | none=> .none
 | some i=> .int i
def El (ns bs:List Int) (r:Rw):List V:=[.str (lC r),.int (gJ r),oV (vV ns r),oV (GK bs r)]
def p8 (ns bs:List Int):Rw->List Int
 | .load b c=>bs.set b ((ns[c]?).getD 0)
 | .swap b c _=>bs.set b ((ns[c]?).getD 0)
 | _=>bs
def cZ (ns bs:List Int):Rw->List Int
 | .store c e=>ns.set c (vx bs e)
 | .swap _ c e=>ns.set c (vx bs e)
 | _=>ns
def j8 (ns:List Int) (s:bG) (r:Rw):bG:=lead {s with pos:=s.pos+1,bs:=p8 ns s.bs r}
def cX (S:g_) (k:Nat):g_:=match S.hs[k]? with
 | none=>S
 | some s=>match s.rws[s.pos]? with
   | none=>S
   | some r=>{S with ns:=cZ S.ns s.bs r,hs:=S.hs.set k (j8 S.ns s r),ts:=S.ts++[(k:Int)]}
def uL (m:Nat) (ns:List Int) (rws:List (List Rw)):g_:=⟨m,ns,rws.map fun r=>lead (new r),[]⟩
end Prf
namespace L2
open PySem Prf
theorem aO.kp {H H':Hp} {vs:List V} {rws:List Rw} (d:aO H vs (rws.map lK)) (t:∀x xs,H x=some (.tup xs)->H' x=some (.tup xs)):aO H' vs (rws.map lK):=d.keep t _ (jo lK Ad rws)
end L2
set_option Elab.async false
set_option linter.all false
set_option maxRecDepth 100000
set_option maxHeartbeats 4000000
namespace L2
open PySem PySem.Spec PyProof.Rows
section
variable {X:Cx} {k:Nat} {C:Addr} {sp:Sp}
theorem PJ {pins:List (Addr×Obj)} {σ:St} {H:Hp} {s:Shared} {Q:VK} {us:List Value} {vs:List V} {f:Addr} {fd:FuncData} {ps:List Str} (G:cj X.prog X.w X.K X.mg X.base jA k f fd ps sp) (hr:eV (k+1) X.A) (hb:Binds X.K fd ps [])
 (I:Inv X pins σ H s) (r:Vals vs us) (q:sp vs H Q E0):wpAny (model X.prog X.w) X.A.in1 (call (.ref f) us) (EP X pins σ Q) X.xe s:=by
 have hlen:us.length=ps.length:=by rw [←r.length];exact G.len _ _ _ _ q
 have hbd:=hb s us I.oA (by rw [List.append_nil];exact hlen);rw [List.append_nil] at hbd;refine wpAny_call (codeAny_mono (G.run X.A.in1 X.stack s H ⟨us,[]⟩ us vs Q E0 hr.in1 I.env0.in1 hbd r q) fun res s' hq=> ?_)
 match res,hq with
 | .error ev,hq=>exact False.elim hq
 | .ok (.ret u),hq=>exact I.after hq
def Xf (C:Addr) (sp:Sp):List V->Hp->VK->Prop:=fun xs H Q=>∃(a dx:Addr) (fs:List (Str×V)),xs=[.ref a]/\H a=some (.ins C dx fs)/\sp [.ref a] H (fun v H'=>∃n:Int,v = .int n/\0<=n/\n<2 ^ 62/\Q (.int n) H') E0
theorem J3 (M:MethAt X.prog X.w X.K X.mg X.base k C "__len__" ["self"] sp) (hr:eV (k+1) X.A):iw X (.builtin "len") (Xf C sp):=by
 intro pins s σ H xs us Q I rv h;obtain ⟨f,fd,G,hm,hb⟩:=M;obtain ⟨a,dx,fs,rfl,ea,q⟩:=h;obtain ⟨u,rfl,ru⟩:=rv.one;obtain rfl:u=Value.ref a:=ru;obtain ⟨mm,Fm⟩:=I.fr;obtain ⟨mA,O,_⟩:=mZ I.hok ea;obtain ⟨od,J,_⟩:=O.look;refine PySem.W.len_K Fm I.mod.O_ J hm.at_ hm.fn (dH (PJ (us:=[.ref a]) (vs:=[.ref a]) G hr hb I (.cons rfl .nil) q) fun v s' hv=> ?_)
 obtain ⟨x,H',I',rx,n,rfl,n0,n1,q'⟩:=hv;obtain ⟨t,rfl⟩:=rx;exact ⟨⟨n0,by omega⟩,.int n,H',I'.tok _,⟨_,rfl⟩,q'⟩
def ace (C:Addr) (sp:Sp):R2:=fun x y H Q=>∃(a b dx dy:Addr) (fs gs:List (Str×V)),x = .ref a/\y = .ref b/\H a=some (.ins C dx fs)/\H b=some (.ins C dy gs)/\sp [.ref a,.ref b] H (fun v H'=>∃t:Bool,v = .bl t/\Q (.bl t) H') E0
theorem Uo (M:MethAt X.prog X.w X.K X.mg X.base k C "__eq__" ["self","other"] sp) (hr:eV (k+1) X.A):qe X (compareOp .Eq) (ace C sp):=by
 intro pins s σ H x y u v Q I rx ry h;obtain ⟨f,fd,G,hm,hb⟩:=M;obtain ⟨a,b,dx,dy,fs,gs,rfl,rfl,ea,eb,q⟩:=h;obtain rfl:u=Value.ref a:=rx;obtain rfl:v=Value.ref b:=ry;obtain ⟨mA,O,_⟩:=mZ I.hok ea;obtain ⟨od,J,_⟩:=O.look;obtain ⟨mB,O2,_⟩:=mZ I.hok eb;obtain ⟨od2,J2,_⟩:=O2.look;obtain ⟨mm,Fm⟩:=I.fr;refine PySem.W.cmp_ofEq (PySem.W.cmp_K hr.SQ Fm I.mod.O_ J J2.type (by simp [PySem.W.notFirst]) hm.at_ hm.fn (dH (zP (us:=[.ref a,.ref b]) (vs:=[.ref a,.ref b]) (o7:=[]) (ds:=[]) G (hr.mono (Nat.le_succ _)) hb .nil Ck I (.cons rfl (.cons rfl .nil)) q) fun v s' hv=> ?_));obtain ⟨x,H',I',rx,t,rfl,q'⟩:=hv;obtain rfl:v=Value.bool t:=rx;exact ⟨.bl t,H',I',rfl,q'⟩
end
structure IsO (K:PySem.W.Frag) (mg:Str->Option Value) (C:Addr) (nm:Str):Prop where
 bd:mg nm=some (.ref C)
 ha:PySem.W.findIn K (.ref C) "__class__" = some (some (.builtin "object.__class__"))
 hn:PySem.W.specialIn K (.builtin "object.__class__") "__get__" = some (some (.builtin "getset_descriptor.__get__"))
 ht:PySem.W.takesIn K (.builtin "object.__class__")=some true
 hm:PySem.W.mroIn K C (.type "object")=some true
theorem IsO.ty {K:PySem.W.Frag} {mg:Str->Option Value} {C:Addr} {nm:Str} (o:IsO K mg C nm) {H:Hp} {a dx:Addr} {fs:List (Str×V)} (e:H a=some (.ins C dx fs)) (c:Cls K C):qd K H (.ref a) (.ref C):= .ins e c o.ha o.hn o.ht o.hm
end L2
set_option Elab.async false
set_option linter.all false
set_option maxRecDepth 100000
set_option maxHeartbeats 4000000
namespace L2
open PySem PySem.Spec PyProof.Rows
section
variable {prog:Program} {w:World} {A:Around} {E:Value->Shared->Prop} {s:Shared}
theorem nxT {it t:Addr} {i:Nat} {its:Array Value} {x:Value} {Q:Value->Shared->Prop} (hi:s.heap.IsTupleIter it t i) (ht:s.heap.IsTuple t its) (hx:its[i]? = some x)
 (k:∀h',h'.IsTupleIter it t (i+1)->Heap.SameBut it s.heap h'->Q x {s with heap:=h'}):wpAny (model prog w) A (Builtin.SmallTypes.nextOf (.ref it)) Q E s:=by
 obtain ⟨ob,e1,e2,e3⟩:=id hi;obtain ⟨ot,f1,_,nn,f3⟩:=ht;unfold Builtin.SmallTypes.nextOf;refine wpAny_bind (wpAny_callSpecial?_slot (name:=Str.ofString "__next__") hi.typeIs PySem.F.slot_tuple_iterator_next (wpAny_call_entry PySem.F.slot_tuple_iterator_next hi.typeIs PySem.F.entry_tuple_iterator_next ?_ (PySem.F.args_tuple_iterator_next_1 _)));show wpAny _ _ (field (.ref it) 0 >>= _) _ _ s;refine wpAny_bind (wpAny_field e1 e3 (x:= .ref t) rfl ?_);show wpAny _ _ (if (Value.ref t==Value.none)=true then _ else _) _ _ s;rw [if_neg (show ¬((Value.ref t==Value.none)=true) from Bool.false_ne_true)];show wpAny _ _ (field (.ref it) 1 >>= _) _ _ s;refine wpAny_bind (wpAny_field e1 e3 (x:= .int i 0) rfl ?_);show wpAny _ _ (seqItems? (.ref t) >>= _) _ _ s;refine wpAny_bind (wpAny_seqItems f1 f3 ?_);simp only [Int.toNat_natCast,hx];refine wpAny_bind (wpAny_setField e1 e3 (by simp) (wpAny_pure ⟨x,rfl,wpAny_pure (k _ ?_ (Heap.SameBut.update ..))⟩));refine ⟨_,Heap.get?_update_self _ e1 (Obj.isFreed_of_fields (Obj.data_mapFields e3 _)),(Obj.cls_mapFields ..).trans e2, ?_⟩;rw [Obj.data_mapFields e3];simp [rawInt]
theorem adV {it t:Addr} {i:Nat} {its:Array Value} {Q:Value->Shared->Prop} (hh:A.handled=none) (hi:s.heap.IsTupleIter it t i) (ht:s.heap.IsTuple t its) (hx:its[i]? = none)
 (k:∀h' e,Heap.ExtBut it s.heap h'->(∃o,h'.get? e=some o/\o.cls = .type "StopIteration")->E (.ref e) {s with heap:=h'}):wpAny (model prog w) A (Builtin.SmallTypes.nextOf (.ref it)) Q E s:=by
 obtain ⟨ob,e1,e2,e3⟩:=id hi;obtain ⟨ot,f1,_,nn,f3⟩:=ht;unfold Builtin.SmallTypes.nextOf;refine wpAny_bind (wpAny_callSpecial?_slot (name:=Str.ofString "__next__") hi.typeIs PySem.F.slot_tuple_iterator_next (wpAny_call_entry PySem.F.slot_tuple_iterator_next hi.typeIs PySem.F.entry_tuple_iterator_next ?_ (PySem.F.args_tuple_iterator_next_1 _)));show wpAny _ _ (field (.ref it) 0 >>= _) _ _ s;refine wpAny_bind (wpAny_field e1 e3 (x:= .ref t) rfl ?_);show wpAny _ _ (if (Value.ref t==Value.none)=true then _ else _) _ _ s;rw [if_neg (show ¬((Value.ref t==Value.none)=true) from Bool.false_ne_true)];show wpAny _ _ (field (.ref it) 1 >>= _) _ _ s;refine wpAny_bind (wpAny_field e1 e3 (x:= .int i 0) rfl ?_);show wpAny _ _ (seqItems? (.ref t) >>= _) _ _ s;refine wpAny_bind (wpAny_seqItems f1 f3 ?_);simp only [Int.toNat_natCast,hx];refine wpAny_bind (wpAny_rule (wpAny_bind (wpAny_setField e1 e3 (by simp) ?_)));show wpAny _ _ (newExc (.type "StopIteration") [] >>= _) _ _ _;refine wpAny_bind ?_;simp only [newExc,newTuple];refine wpAny_bind (wpAny_newObj_type ?_ (by size_fits));refine wpAny_bind (m:=firstArgMember _ _) (wpAny_of_eq (a:=Value.none) (by first |rfl|(simp only [firstArgMember];rfl)) ?_);refine wpAny_newObj_type ?_ (by size_fits);simp only [raiseNew];refine wpAny_bind (wpAny_handled ?_)
 first |rw [show A.in1.handled=none from hh]|rw [hh]
 refine wpAny_bind (wpAny_pure (wpAny_throw (k _ _ (((Heap.SameBut.update ..).extBut.push _).push _) ⟨_,Heap.get?_push_size _ rfl,rfl⟩)))
theorem SJ {z TI TO i1 i2 l1 l2:Addr} {k1 k2:Nat} {xs ys:Array Value} {x y a b:Value} {Q:Option Value->Shared->Prop} (D:ZipApart z TI TO i1 i2 l1 l2) (hz:IsZip s.heap z TI TO .none) (hI:IsPair s.heap TI (.ref i1) (.ref i2)) (hO:IsPair s.heap TO a b)
 (h1:s.heap.IsTupleIter i1 l1 k1) (h2:s.heap.IsTupleIter i2 l2 k2) (m1:s.heap.IsTuple l1 xs) (m2:s.heap.IsTuple l2 ys) (hx:xs[k1]? = some x) (hy:ys[k2]? = some y)
 (k:∀h',IsZip h' z TI TO (rawInt s.heap.objs.size)->IsPair h' TO x y->h'.IsTupleIter i1 l1 (k1+1)->h'.IsTupleIter i2 l2 (k2+1)->IsPair h' s.heap.objs.size x y->h'.objs.size=s.heap.objs.size+1->(∀c o,c≠z->c≠TO->c≠i1->c≠i2->s.heap.get? c=some o->h'.get? c=some o)->Q (some (.ref s.heap.objs.size)) {s with heap:=h'}):
 wpAny (model prog w) A (pyNext (.ref z)) Q E s:=by
 have tz:s.TypeIs (.ref z) "zip" :=⟨_,hz,rfl⟩;unfold pyNext;refine wpAny_bind (wpAny_attempt (wpAny_callSpecial?_slot (name:=Str.ofString "__next__") tz PySem.F.slot_zip_next (wpAny_call_entry PySem.F.slot_zip_next tz PySem.F.entry_zip_next ?_ (PySem.F.args_zip_next_1 _))));show wpAny _ _ (field (.ref z) 2 >>= _) _ _ _;refine wpAny_bind (wpAny_field hz rfl (x:= .bool false) rfl ?_);show wpAny _ _ (field (.ref z) 3 >>= _) _ _ _;refine wpAny_bind (wpAny_field hz rfl (x:= .ref TI) rfl ?_);refine wpAny_bind (wpAny_seqItems hI rfl ?_);show wpAny _ _ (Builtin.SmallTypes.ownedTupleIsFree (.ref z) >>= _) _ _ _;refine wpAny_bind ?_;unfold Builtin.SmallTypes.ownedTupleIsFree;refine wpAny_bind (wpAny_field hz rfl (x:= .none) rfl (wpAny_pure ?_));simp only [if_true];refine wpAny_bind (wpAny_rule (wpAny_bind (wpAny_field hz rfl (x:= .ref TO) rfl ?_)));refine wpAny_bind (wpAny_setField_rec hz (by simp) fun g1 z1 s1=> ?_)
 replace z1:IsZip g1 z TI TO .ellipsis:=z1
 refine wpAny_bind ?_;simp only [List.zipIdx_cons,List.zipIdx_nil,List.forIn_cons,List.forIn_nil];refine wpAny_bind (wpAny_bind (wpAny_onRaise ?_));show wpAny _ _ (Builtin.SmallTypes.nextOf (.ref i1) >>= _) _ _ _
 refine wpAny_bind (nxT (h1.extBut s1.extBut D.i1z) (m1.extBut s1.extBut D.l1z) hx fun g2 j1 s2=>wpAny_pure ?_);have O2:IsPair g2 TO a b:=s2.extBut _ _ D.TOi1 (s1.extBut _ _ D.TOz hO);refine wpAny_bind (wpAny_seqItems O2 rfl ?_);refine wpAny_bind (wpAny_updateSeq_pair O2 fun g3 O3 s3=> ?_)
 replace O3:IsPair g3 TO x b:=O3
 refine wpAny_bind (wpAny_letGo (wpAny_pure (wpAny_bind (wpAny_bind (wpAny_onRaise ?_)))));show wpAny _ _ (Builtin.SmallTypes.nextOf (.ref i2) >>= _) _ _ _
 refine wpAny_bind (nxT (((h2.extBut s1.extBut D.i2z).extBut s2.extBut D.i12.symm).extBut s3.extBut D.TOi2.symm) (((m2.extBut s1.extBut D.l2z).extBut s2.extBut D.l2i1).extBut s3.extBut D.l2TO) hy fun g4 j2 s4=>wpAny_pure ?_);have O4:IsPair g4 TO x b:=s4.extBut _ _ D.TOi2 O3;refine wpAny_bind (wpAny_seqItems O4 rfl ?_);refine wpAny_bind (wpAny_updateSeq_pair O4 fun g5 O5 s5=> ?_)
 replace O5:IsPair g5 TO x y:=O5
 refine wpAny_bind (wpAny_letGo (wpAny_pure (wpAny_pure (wpAny_bind (wpAny_seqItems O5 rfl (wpAny_bind (wpAny_newTuple ?_)))))));have sz:g5.objs.size=s.heap.objs.size:=by rw [s5.1,s4.1,s3.1,s2.1,s1.1]
 have z5:IsZip g5 z TI TO .ellipsis:=s5.extBut _ _ D.TOz.symm (s4.extBut _ _ D.i2z.symm (s3.extBut _ _ D.TOz.symm (s2.extBut _ _ D.i1z.symm z1)));have k5:∀c o,c≠z->c≠TO->c≠i1->c≠i2->s.heap.get? c=some o->g5.get? c=some o:=fun c o n1 n2 n3 n4 e=>s5.extBut _ _ n2 (s4.extBut _ _ n4 (s3.extBut _ _ n2 (s2.extBut _ _ n3 (s1.extBut _ _ n1 e))));have p1:g5.IsTupleIter i1 l1 (k1+1):=((j1.extBut s3.extBut D.TOi1.symm).extBut s4.extBut D.i12).extBut s5.extBut D.TOi1.symm;have p2:g5.IsTupleIter i2 l2 (k2+1):=j2.extBut s5.extBut D.TOi2.symm;have V1:z<g5.objs.size:=Heap.lt_size z5;show wpAny _ _ (Builtin.SmallTypes.ownedTupleHandOut (.ref z) (.ref g5.objs.size) >>= _) _ _ _;refine wpAny_bind ?_;unfold Builtin.SmallTypes.ownedTupleHandOut;have z6:IsZip (g5.push {cls:= .type "tuple",data:= .seq #[x,y]}) z TI TO .ellipsis:=Heap.get?_push_of_some _ z5;refine wpAny_bind (wpAny_setField_rec z6 (by simp) fun g7 z7 s7=> ?_)
 replace z7:IsZip g7 z TI TO (rawInt g5.objs.size):=z7
 refine wpAny_setField_rec z7 (by simp) fun g8 z8 s8=> ?_
 replace z8:IsZip g8 z TI TO (rawInt g5.objs.size):=z8
 have up:∀c o,c≠z->g5.get? c=some o->g8.get? c=some o:=fun c o n1 e=>s8.extBut _ _ n1 (s7.extBut _ _ n1 (Heap.get?_push_of_some _ e));have t8:IsPair g8 g5.objs.size x y:=s8.extBut _ _ (Nat.ne_of_gt V1) (s7.extBut _ _ (Nat.ne_of_gt V1) (Heap.get?_push_size _ rfl));have e8:g8.objs.size=g5.objs.size+1:=by rw [s8.1,s7.1,Heap.size_push]
 rw [sz] at z8 t8 e8;refine wpAny_pure ⟨_,rfl,wpAny_pure ?_⟩;show Q (some (.ref g5.objs.size)) _;rw [sz];refine k g8 z8 (up _ _ D.TOz O5) ?_ ?_ t8 e8 fun c o n1 n2 n3 n4 e=>up c o n1 (k5 c o n1 n2 n3 n4 e)
 ·obtain ⟨o,e,r⟩:=p1;exact ⟨o,up _ _ D.i1z e,r⟩
 ·obtain ⟨o,e,r⟩:=p2;exact ⟨o,up _ _ D.i2z e,r⟩
theorem Wr {z TI TO i1 i2 l1 l2:Addr} {k1 k2:Nat} {xs ys:Array Value} {a b:Value} {Q:Option Value->Shared->Prop} (hh:A.handled=none) (D:ZipApart z TI TO i1 i2 l1 l2) (hz:IsZip s.heap z TI TO .none) (hI:IsPair s.heap TI (.ref i1) (.ref i2)) (hO:IsPair s.heap TO a b)
 (h1:s.heap.IsTupleIter i1 l1 k1) (h2:s.heap.IsTupleIter i2 l2 k2) (m1:s.heap.IsTuple l1 xs) (m2:s.heap.IsTuple l2 ys) (hx:xs[k1]? = none)
 (k:∀h',(∀c o,c≠z->c≠TO->c≠i1->c≠i2->s.heap.get? c=some o->h'.get? c=some o)->Q none {s with heap:=h'}):wpAny (model prog w) A (pyNext (.ref z)) Q E s:=by
 have tz:s.TypeIs (.ref z) "zip" :=⟨_,hz,rfl⟩
 have stop:∀(h':Heap) (e:Addr),(∀c o,c≠z->c≠TO->c≠i1->c≠i2->s.heap.get? c=some o->h'.get? c=some o)->(∃o,h'.get? e=some o/\o.cls = .type "StopIteration")->wpAny (model prog w) A (do if ←isInstance (.ref e) (.type "StopIteration") then pure none else throw (.ref e)) Q E {s with heap:=h'}:=fun h' e hk he=>by
  obtain ⟨o,ho,hc⟩:=he;exact wpAny_bind (wpAny_isInstance (T:= "StopIteration") (b:=true) ⟨o,ho,hc⟩ isSubtype_stop (wpAny_pure (k _ hk)))
 unfold pyNext;refine wpAny_bind (wpAny_attempt (wpAny_callSpecial?_slot (name:=Str.ofString "__next__") tz PySem.F.slot_zip_next (wpAny_call_entry PySem.F.slot_zip_next tz PySem.F.entry_zip_next ?_ (PySem.F.args_zip_next_1 _))));show wpAny _ _ (field (.ref z) 2 >>= _) _ _ _;refine wpAny_bind (wpAny_field hz rfl (x:= .bool false) rfl ?_);show wpAny _ _ (field (.ref z) 3 >>= _) _ _ _;refine wpAny_bind (wpAny_field hz rfl (x:= .ref TI) rfl ?_);refine wpAny_bind (wpAny_seqItems hI rfl ?_);show wpAny _ _ (Builtin.SmallTypes.ownedTupleIsFree (.ref z) >>= _) _ _ _;refine wpAny_bind ?_;unfold Builtin.SmallTypes.ownedTupleIsFree;refine wpAny_bind (wpAny_field hz rfl (x:= .none) rfl (wpAny_pure ?_));simp only [if_true];refine wpAny_bind (wpAny_rule (wpAny_bind (wpAny_field hz rfl (x:= .ref TO) rfl ?_)));refine wpAny_bind (wpAny_setField_rec hz (by simp) fun g1 z1 s1=> ?_)
 replace z1:IsZip g1 z TI TO .ellipsis:=z1
 refine wpAny_bind ?_;simp only [List.zipIdx_cons,List.zipIdx_nil,List.forIn_cons,List.forIn_nil];refine wpAny_bind (wpAny_bind (wpAny_onRaise ?_));show wpAny _ _ (Builtin.SmallTypes.nextOf (.ref i1) >>= _) _ _ _
 refine wpAny_bind (adV hh (h1.extBut s1.extBut D.i1z) (m1.extBut s1.extBut D.l1z) hx fun g2 e s2 he=> ?_);obtain ⟨oe,hoe,hce⟩:=he;have z2:IsZip g2 z TI TO .ellipsis:=s2 _ _ D.i1z.symm z1;have nez:e≠z:=fun q=>by subst q;rw [z2] at hoe;cases hoe;simp at hce
 refine wpAny_setField_rec z2 (by simp) fun g3 _ s3=> ?_;obtain st:=stop g3 e (fun c o n1 _ n3 _ q=>s3.extBut _ _ n1 (s2 _ _ n3 (s1.extBut _ _ n1 q))) ⟨oe,s3.extBut _ _ nez hoe,hce⟩;exact st
end
end L2
set_option Elab.async false
set_option linter.all false
set_option maxRecDepth 100000
set_option maxHeartbeats 4000000
namespace L2
open PySem PySem.Spec PyProof.Rows
abbrev Ks (l:Addr):Obj:={cls:= .type "tuple_iterator",data:= .fields #[.ref l,.int 0 0]}
abbrev ZG (h:Heap) (l1 l2:Addr):Heap:=((h.push (Ks l1)).push (Ks l2)).push {cls:= .type "tuple",data:= .seq #[.ref h.objs.size,.ref (h.push (Ks l1)).objs.size]}
abbrev ZF (h:Heap) (l1 l2:Addr):Heap:=(ZG h l1 l2).push {cls:= .type "tuple",data:= .seq #[.none,.none]}
abbrev V0 (h:Heap) (l1 l2:Addr):Heap:=(ZF h l1 l2).push {cls:= .type "zip",data:= .fields #[.none,.bool false,.bool false,.ref ((h.push (Ks l1)).push (Ks l2)).objs.size,.ref (ZG h l1 l2).objs.size]}
theorem Wq (l1 l2:Addr) (xs ys:Array Value):Meets (Builtin.«zip.__new__» ⟨[.type "zip",.ref l1,.ref l2],[]⟩) (fun _ R s=>s.heap.IsTuple l1 xs/\s.heap.IsTuple l2 ys/\R (.ok (.ret (.ref (ZF s.heap l1 l2).objs.size))) {s with heap:=V0 s.heap l1 l2}):=
 .of_wp fun prog w A R s h=>by
  obtain ⟨hp,g,d,tk,os⟩:=s;obtain ⟨m1,m2,h⟩:=h;have sub:=sub_zip;have M1:Heap.IsTuple (Shared.heap ⟨hp,g,d,tk,os⟩) l1 xs:=m1;have M2:Heap.IsTuple (Shared.heap ⟨hp.push {cls:= .type "tuple_iterator",data:= .fields #[.ref l1,.int 0 0]},g,d,tk,os⟩) l2 ys:=Heap.IsTuple.push m2 _
  wp_walk using wpAny_pyIter_tuple M1,wpAny_pyIter_tuple M2
  exact ⟨_,rfl,h⟩
section
variable {prog:Program} {w:World} {A:Around} {E:Value->Shared->Prop} {s:Shared}
theorem SM {l1 l2:Addr} {xs ys:Array Value} {Q:Value->Shared->Prop} (m1:s.heap.IsTuple l1 xs) (m2:s.heap.IsTuple l2 ys)
 (k:∀h',IsZip h' (s.heap.objs.size+4) (s.heap.objs.size+2) (s.heap.objs.size+3) .none->IsPair h' (s.heap.objs.size+2) (.ref s.heap.objs.size) (.ref (s.heap.objs.size+1))->IsPair h' (s.heap.objs.size+3) .none .none->h'.IsTupleIter s.heap.objs.size l1 0->h'.IsTupleIter (s.heap.objs.size+1) l2 0 ->
   (∀c o,s.heap.get? c=some o->h'.get? c=some o)->Q (.ref (s.heap.objs.size+4)) {s with heap:=h'}):wpAny (model prog w) A (call (.type "zip") [.ref l1,.ref l2]) Q E s:=by
 refine callType_new PySem.F.called_zip (by decide) (PySem.F.typeCall_zip_2 _ _) (PySem.F.newCall_zip_2 _ _) (fun obj=>PySem.F.args_object_init_3 obj _ _) PySem.F.entry_zip_new (Wq l1 l2 xs ys) ⟨m1,m2, ?_⟩;have n1:(s.heap.push (Ks l1)).objs.size=s.heap.objs.size+1:=Heap.size_push ..;have n2:((s.heap.push (Ks l1)).push (Ks l2)).objs.size=s.heap.objs.size+2:=by rw [Heap.size_push,n1]
 have n3:(ZG s.heap l1 l2).objs.size=s.heap.objs.size+3:=by rw [Heap.size_push,n2]
 have n4:(ZF s.heap l1 l2).objs.size=s.heap.objs.size+4:=by rw [Heap.size_push,n3]
 have e5:(V0 s.heap l1 l2).get? (ZF s.heap l1 l2).objs.size=some _:=Heap.get?_push_size _ rfl;have e4:(V0 s.heap l1 l2).get? (ZG s.heap l1 l2).objs.size=some _:=Heap.get?_push_of_some _ (Heap.get?_push_size _ rfl);have e3:(V0 s.heap l1 l2).get? ((s.heap.push (Ks l1)).push (Ks l2)).objs.size=some _:=Heap.get?_push_of_some _ (Heap.get?_push_of_some _ (Heap.get?_push_size _ rfl));have e2:(V0 s.heap l1 l2).get? (s.heap.push (Ks l1)).objs.size=some _:=Heap.get?_push_of_some _ (Heap.get?_push_of_some _ (Heap.get?_push_of_some _ (Heap.get?_push_size _ rfl)));have e1:(V0 s.heap l1 l2).get? s.heap.objs.size=some _:=Heap.get?_push_of_some _ (Heap.get?_push_of_some _ (Heap.get?_push_of_some _ (Heap.get?_push_of_some _ (Heap.get?_push_size _ rfl))));show _/\_;rw [n2,n3,n4] at e5;rw [n1,n2] at e3;rw [n3] at e4;rw [n1] at e2;rw [n4];refine ⟨⟨_,e5,rfl⟩,k _ e5 e3 e4 ⟨_,e1,rfl,rfl⟩ ⟨_,e2,rfl,rfl⟩ fun c o q=> ?_⟩
 iterate 5 refine Heap.get?_push_of_some _ ?_
 exact q
end
def VL (K:PySem.W.Frag) (l1 l2:Addr):It:=
 ⟨fun i H=>∃xs ys x y,dg K H l1 xs/\dg K H l2 ys/\xs[i]? = some x/\ys[i]? = some y,
  fun i H x H'=>∃(p:Addr) (y z:V),x = .ref p/\H p=none/\(∀xs,dg K H l1 xs->xs[i]? = some y)/\(∀ys,dg K H l2 ys->ys[i]? = some z)/\H'=upd H p (.tup [y,z]),
  fun i H=>∃xs ys,dg K H l1 xs/\dg K H l2 ys/\xs.length<=i⟩
theorem Jb {P:Program} {w:World} {K:PySem.W.Frag} {elts:List Expr} {x1:Nat} {pos:Pos} (z TI TO i1 i2 l1 l2:Addr) (ap:ZipApart z TI TO i1 i2 l1 l2):Turn P w K (.Tuple elts x1 pos) (VL K l1 l2) [z,TI,TO,i1,i2] z
 (fun i h=>IsZip h z TI TO .none/\IsPair h TI (.ref i1) (.ref i2)/\(∃a b,IsPair h TO a b)/\h.IsTupleIter i1 l1 i/\h.IsTupleIter i2 l2 i) where
 mem:=by simp
 obj:=fun i h st b hb=>by
  obtain ⟨hz,hTI,⟨a,c,hTO⟩,⟨o1,h1,c1,d1⟩,⟨o2,h2,c2,d2⟩⟩:=st;have hb':b=z\/b=TI\/b=TO\/b=i1\/b=i2:=by simpa using hb
  rcases hb' with rfl|rfl|rfl|rfl|rfl
  ·exact ⟨_,hz,fun v z=>by cases z⟩
  ·exact ⟨_,hTI,fun v z=>by cases z⟩
  ·exact ⟨_,hTO,fun v z=>by cases z⟩
  ·exact ⟨_,h1,fun v z=>by rw [d1] at z;cases z⟩
  ·exact ⟨_,h2,fun v z=>by rw [d2] at z;cases z⟩
 keep:=fun i h h' st k=>by
  obtain ⟨hz,hTI,⟨a,c,hTO⟩,⟨o1,h1,c1,d1⟩,⟨o2,h2,c2,d2⟩⟩:=st;exact ⟨k z (by simp) _ hz,k TI (by simp) _ hTI,⟨a,c,k TO (by simp) _ hTO⟩,⟨o1,k i1 (by simp) _ h1,c1,d1⟩,⟨o2,k i2 (by simp) _ h2,c2,d2⟩⟩
 item:=by
  intro X hP hw hK hc i pins s σ H E I hf st hg;subst hP hw hK;obtain ⟨xs,ys,x,y,hq1,hq2,hx,hy⟩:=hg;obtain ⟨CZ,PB,p1,hz1⟩:=I.tuple hq1;obtain ⟨its2,Rq,p2,hz2⟩:=I.tuple hq2;obtain ⟨u1,hu1,ru1⟩:=PB.get hx;obtain ⟨u2,hu2,ru2⟩:=Rq.get hy;obtain ⟨hz,hTI,⟨a,c,hTO⟩,hi1,hi2⟩:=st;have V1:=Heap.lt_size hz;have VD:=Heap.lt_size hTI;have VB:=Heap.lt_size hTO;have U7:i1<s.heap.objs.size:=by obtain ⟨o,ho,_⟩:=id hi1;exact Heap.lt_size ho
  have U6:i2<s.heap.objs.size:=by obtain ⟨o,ho,_⟩:=id hi2;exact Heap.lt_size ho
  refine SJ ap hz hTI hTO hi1 hi2 (show s.heap.IsTuple l1 CZ.toArray from p1) (show s.heap.IsTuple l2 its2.toArray from p2) (x:=u1) (y:=u2) (by simpa using hu1) (by simpa using hu2) fun h' hz' Vd Vb hi2' hnew hsz hk=> ?_;refine ⟨_,rfl, ?_⟩;refine wpAny_letOwnedTupleGo_zip hz' fun h2 U8 sb=> ?_;have hfr:H s.heap.objs.size=none:=I.hok.fresh (Nat.le_refl _)
  have I0:Inv X pins σ (upd H s.heap.objs.size (.tup [x,y])) {s with heap:=s.heap.push {cls:= .type "tuple",data:= .seq #[u1,u2]}}:=
   I.laid (t':=s.toks) (fun b u e=>Heap.get?_push_of_some _ e) (Nat.le_refl _) ⟨by show 2<=sizeLine;decide,[u1,u2],.cons ru1 (.cons ru2 .nil),⟨_,Heap.get?_push_size _ rfl,rfl,_,rfl⟩⟩
  have RT:∀b∈[z,TI,TO,i1,i2],kY X pins (upd H s.heap.objs.size (.tup [x,y])) b:=fun b hb=>by
   refine (hf b hb).upd ?_;have hb':b=z\/b=TI\/b=TO\/b=i1\/b=i2:=by simpa using hb
   rcases hb' with rfl|rfl|rfl|rfl|rfl
   ·exact Nat.ne_of_lt V1
   ·exact Nat.ne_of_lt VD
   ·exact Nat.ne_of_lt VB
   ·exact Nat.ne_of_lt U7
   ·exact Nat.ne_of_lt U6
  have I1:=I0.oO (h':=h2) (t':=s.toks) RT (fun b o hb eb=>by
   have b1:b≠z:=fun e=>hb (by simp [e]);have b2:b≠TO:=fun e=>hb (by simp [e]);have b3:b≠i1:=fun e=>hb (by simp [e]);have b4:b≠i2:=fun e=>hb (by simp [e]);rw [sb.2 b b1];rcases wC rfl eb with ⟨rfl,rfl⟩|eb
   ·exact hnew
   ·exact hk b o b1 b2 b3 b4 eb)
  refine ⟨.ref s.heap.objs.size,_,I1,rfl,⟨s.heap.objs.size,x,y,rfl,hfr,fun ys hy=>by rw [I.yG hy hq1];exact hx,fun ys' hy'=>by rw [I.yG hy' hq2];exact hy,rfl⟩, ?_,fun b hb=>(RT b hb).1⟩;obtain ⟨o1,ho1,c1,d1⟩:=Vb;obtain ⟨o2,ho2,c2,d2⟩:=hi2';exact ⟨U8,(sb.2 TI ap.TIz).trans (hk TI _ ap.TIz ap.TITO ap.TIi1 ap.TIi2 hTI),⟨_,_,(sb.2 TO ap.TOz).trans Vd⟩,⟨o1,(sb.2 i1 ap.i1z).trans ho1,c1,d1⟩,⟨o2,(sb.2 i2 ap.i2z).trans ho2,c2,d2⟩⟩
 done:=by
  intro X hP hw hK hc i pins s σ H E I hf st hg;subst hP hw hK;obtain ⟨xs,ys,hq1,hq2,hx⟩:=hg;obtain ⟨CZ,PB,p1,hz1⟩:=I.tuple hq1;obtain ⟨its2,Rq,p2,hz2⟩:=I.tuple hq2;obtain ⟨hz,hTI,⟨a,c,hTO⟩,hi1,hi2⟩:=st;have hl1:=PB.length;refine Wr (I.ok.hd hc) ap hz hTI hTO hi1 hi2 (show s.heap.IsTuple l1 CZ.toArray from p1) (show s.heap.IsTuple l2 its2.toArray from p2) (by simp;omega) fun h' eb=>⟨rfl,I.oO (t':=s.toks) hf (fun b o hb e=>eb b o (fun z=>hb (by simp [z])) (fun z=>hb (by simp [z])) (fun z=>hb (by simp [z])) (fun z=>hb (by simp [z])) e)⟩
 self:=fun _ _ _ _ _ st h=>wpAny_pyIter_zip st.1 h
section
variable {X:Cx}
def X6 (K:PySem.W.Frag) (ta:TA):TI:=fun σ H R=>ta σ H fun vs H1=>∃l1 l2 xs ys,vs=[.ref l1,.ref l2]/\((bH K H1 l1 xs/\bH K H1 l2 ys/\R (Itz K l1 l2) H1)\/(dg K H1 l1 xs/\dg K H1 l2 ys/\R (VL K l1 l2) H1))
theorem Qe {K:PySem.W.Frag} {a b:Expr} {ta:TA} {p pos:Pos} {elts:List Expr} {x1:Nat} {tpos:Pos} (hK:X.K=K) (hg:Gl X "zip") (hm:X.mg "zip" = none) (ha:PA X [a,b] ta) (hs:starEach [a,b] X.env=[(false,eval a X.env),(false,eval b X.env)]:=by rfl) (hs2:starEach [b] X.env=[(false,eval b X.env)]:=by rfl):PI X (.Tuple elts x1 tpos) (.Call (.Name "zip" p) [a,b] [] pos) (X6 K ta):=by
 subst hK;intro pins s σ H R I h;refine Call_ (mX I hg hm boot_zip (PyProof.Rows.callWith_type1 (dH (ha pos pins s σ H _ I h) fun us s1 ⟨vs,H1,I1,r1,q1⟩=> ?_) (by rw [hs,hs2]) (by rw [hs2];rfl)));obtain ⟨l1,l2,xs,ys,e,q1⟩:=q1;subst e
 obtain ⟨u1,us',rfl,r,rr⟩:∃u1 us',us=u1::us'/\RelV (.ref l1) u1/\Vals [.ref l2] us':=by
  cases r1 with
  | cons r rr=>exact ⟨_,_,rfl,r,rr⟩
 obtain ⟨u2,rfl,r'⟩:=rr.one;cases r;cases r'
 have QC:∀b∈[s1.heap.objs.size+4,s1.heap.objs.size+2,s1.heap.objs.size+3,s1.heap.objs.size,s1.heap.objs.size+1],s1.heap.objs.size<=b:=fun b hb=>by
  have:b=s1.heap.objs.size+4\/b=s1.heap.objs.size+2\/b=s1.heap.objs.size+3\/b=s1.heap.objs.size\/b=s1.heap.objs.size+1:=by simpa using hb
  rcases this with rfl|rfl|rfl|rfl|rfl
  ·exact Nat.le_add_right _ _
  ·exact Nat.le_add_right _ _
  ·exact Nat.le_add_right _ _
  ·exact Nat.le_refl _
  ·exact Nat.le_add_right _ _
 rcases q1 with ⟨hq1,hq2,q⟩|⟨hq1,hq2,q⟩
 ·obtain ⟨CZ,PB,Ud,hz1⟩:=I1.list hq1
  obtain ⟨its2,Rq,Z0,hz2⟩:=I1.list hq2;have lt1:l1<s1.heap.objs.size:=by obtain ⟨o,ho,_⟩:=Ud.isList;exact Heap.lt_size ho
  have V9:l2<s1.heap.objs.size:=by obtain ⟨o,ho,_⟩:=Z0.isList;exact Heap.lt_size ho
  refine call_zip_2 Ud.isList Z0.isList fun h' hZ hTI hTO hi1 hi2 hsz hk=> ?_;refine wpAny_pyIter_zip hZ ?_;have I2:Inv X pins σ H1 {s1 with heap:=h'}:=I1.kept (t':=s1.toks) hk;exact ⟨s1.heap.objs.size+4,[s1.heap.objs.size+4,s1.heap.objs.size+2,s1.heap.objs.size+3,s1.heap.objs.size,s1.heap.objs.size+1],_,_,H1,rfl,I2,K3 _ _ _ _ _ l1 l2 (zipApart_new lt1 V9),⟨hZ,hTI,⟨_,_,hTO⟩,hi1,hi2⟩,fun b hb=>I1.wD (QC b hb) (I1.hok.fresh (QC b hb)),q⟩
 ·obtain ⟨CZ,PB,Ud,hz1⟩:=I1.tuple hq1
  obtain ⟨its2,Rq,Z0,hz2⟩:=I1.tuple hq2;have m1:s1.heap.IsTuple l1 CZ.toArray:=Ud;have m2:s1.heap.IsTuple l2 its2.toArray:=Z0;have lt1:l1<s1.heap.objs.size:=by obtain ⟨o,ho,_⟩:=id m1;exact Heap.lt_size ho
  have V9:l2<s1.heap.objs.size:=by obtain ⟨o,ho,_⟩:=id m2;exact Heap.lt_size ho
  refine SM m1 m2 fun h' hZ hTI hTO hi1 hi2 hk=> ?_;refine wpAny_pyIter_zip hZ ?_;have I2:Inv X pins σ H1 {s1 with heap:=h'}:=I1.kept (t':=s1.toks) hk;exact ⟨s1.heap.objs.size+4,[s1.heap.objs.size+4,s1.heap.objs.size+2,s1.heap.objs.size+3,s1.heap.objs.size,s1.heap.objs.size+1],_,_,H1,rfl,I2,Jb _ _ _ _ _ l1 l2 (zipApart_new lt1 V9),⟨hZ,hTI,⟨_,_,hTO⟩,hi1,hi2⟩,fun b hb=>I1.wD (QC b hb) (I1.hok.fresh (QC b hb)),q⟩
end
section
variable {K:PySem.W.Frag} {D:Addr} {xs:List V} {tc:TT} {te:TE} {Q:VK} {rest:St} {H1:Hp}
theorem Ga {l1 l2:Addr} {ys:List V} {n:Nat} (hn1:xs.length=n) (hn2:ys.length=n) (f:Nat->Option V) (hD:H1 D=none) (hq1:H1 l1=some (.tup xs)) (hq2:H1 l2=some (.tup ys)) (hx:n<=100000)
 (hs:∀i x y H (G:Hp->Prop) (F:VK),xs[i]? = some x->ys[i]? = some y->Same H1 H->(∀H',Same H H'->f i=none->G H')->(∀y H',Same H H'->f i=some y->F y H')->tc (some x::some y::rest) H fun b H3=>if b=true then te (some x::some y::rest) H3 F else G H3)
 (hd:∀H,Same H1 H->H D=some (.lst ((List.range n).filterMap f))->Q (.ref D) H):oM (VL K l1 l2) (QM K 2 (Dg (iV 0) (Dg (iV 1) Ve))) tc te Q D (none::none::rest) H1:=by
 refine ⟨fun i m σ H=>m=n - i/\i<=n/\(∃u v,σ=u::v::rest)/\Same H1 H/\H D=some (.lst ((List.range i).filterMap f)),⟨n,by simp,Nat.zero_le _,⟨none,none,rfl⟩,aL hD,aq⟩, ?_⟩;rintro i m σ H ⟨rfl,hi,⟨u,v,rfl⟩,sm,e⟩
 by_cases hlt:i<n
 ·have q1:dg K H l1 xs:=dg.of (sm _ _ hq1)
  have q2:dg K H l2 ys:=dg.of (sm _ _ hq2);have hx1:xs[i]? = some (xs[i]'(by omega)):=List.getElem?_eq_getElem _;have hy1:ys[i]? = some (ys[i]'(by omega)):=List.getElem?_eq_getElem _;refine .inr ⟨⟨xs,ys,_,_,q1,q2,hx1,hy1⟩,fun σ' H'=>(∃u v,σ'=u::v::rest)/\Same H1 H'/\H' D=some (.lst ((List.range (i+1)).filterMap f)),fun σ' H' p'=>⟨n - (i+1),by omega,rfl,hlt,p'⟩, ?_⟩;rintro x H' ⟨p,y,z,rfl,hp,e1,e2,rfl⟩;have sp:=aL (o:=HO.tup [y,z]) hp;refine ⟨p,[y,z],rfl,dg.of aq,rfl,_,_,rfl,_,_,rfl,rfl, ?_⟩;refine hs i y z _ _ _ (e1 _ q1) (e2 _ q2) (sm.trans sp) (fun H3 s3 ef=>⟨⟨_,_,rfl⟩,(sm.trans sp).trans s3,by rw [s3 _ _ (sp _ _ e),eY,ef];simp⟩) (fun y H4 s4 ef=> ?_);refine ⟨_,s4 _ _ (sp _ _ e), ?_,⟨_,_,rfl⟩,((sm.trans sp).trans s4).newly hD, ?_⟩
  ·have:=wG f i
   rw [sizeLine_eq];omega
  ·rw [aq,eY,ef];rfl
 ·have ei:i=n:=by omega
  subst ei;exact .inl ⟨⟨xs,ys,dg.of (sm _ _ hq1),dg.of (sm _ _ hq2),by omega⟩,hd H sm e⟩
end
end L2
set_option Elab.async false
set_option linter.all false
set_option maxRecDepth 100000
set_option maxHeartbeats 4000000
namespace Prf
open PySem L2
def inR (x:Int):Prop:=0<=x/\x<1000
def allR (l:List Int):Prop:=∀x∈l,inR x
theorem DP {l:List Int} (h:allR l) (i:Nat):inR ((l[i]?).getD 0):=by
 cases e:l[i]? with
 | none=>exact ⟨by decide,by decide⟩
 | some x=>exact h x (List.mem_of_getElem? e)
theorem xG {l:List Int} (h:allR l) (i:Nat) {x:Int} (hx:inR x):allR (l.set i x):=fun y hy=>by
 rcases List.mem_or_eq_of_mem_set hy with m|e
 ·exact h y m
 ·rw [e];exact hx
theorem zZ (x:Int):inR (x % 1000):=⟨Int.emod_nonneg _ (by decide),Int.emod_lt_of_pos _ (by decide)⟩
theorem KY {bs:List Int} (h:allR bs):∀e:D_,inR (vx bs e)
 | .one (.num n)=>zZ n
 | .one (.box b)=>DP h b
 | .two true x y=>zZ _
 | .two false x y=>zZ _
theorem Q5 {s:bG} (h:allR s.bs) (r:Rw):allR (ud s r).bs:=by
 cases r<;>first |exact h|exact xG h _ (KY h _)
theorem Ni:∀(n:Nat) (s:bG),allR s.bs->allR (led n s).bs
 | 0,s,h=>by
   unfold led;split
   ·exact h
   ·split<;>exact h
 | n+1,s,h=>by
   unfold led;split
   ·exact h
   ·split
    ·exact h
    ·exact Ni n _ (Q5 h _)
def Pu (x:Str):Prop:=x = "waits" \/ x = "ends" \/ x = "lost"
theorem wA:∀(n:Nat) (s:bG),Pu (led n s).st
 | 0,s=>by
   unfold led;split
   ·exact .inr (.inl rfl)
   ·split
    ·exact .inl rfl
    ·exact .inr (.inr rfl)
 | n+1,s=>by
   unfold led;split
   ·exact .inr (.inl rfl)
   ·split
    ·exact .inl rfl
    ·exact wA n _
structure o_ (S:g_):Prop where
 n:allR S.ns
 b:∀s∈S.hs,allR s.bs
 t:∀s∈S.hs,Pu s.st
theorem Ra {ns bs:List Int} (h:allR ns) (hb:allR bs) (r:Rw):allR (cZ ns bs r):=by
 cases r<;>first |exact h|exact xG h _ (KY hb _)
theorem Rb {ns bs:List Int} (h:allR ns) (hb:allR bs) (r:Rw):allR (p8 ns bs r):=by
 cases r<;>first |exact hb|exact xG hb _ (DP h _)
theorem o_.turn {S:g_} (g:o_ S) (k:Nat):o_ (cX S k):=by
 unfold cX;split
 ·exact g
 ·rename_i s es
  split
  ·exact g
  ·rename_i r er
   have hb:=g.b s (List.mem_of_getElem? es);refine ⟨Ra g.n hb r,fun s' hs'=> ?_,fun s' hs'=> ?_⟩
   ·rcases List.mem_or_eq_of_mem_set hs' with m|e
    ·exact g.b s' m
    ·rw [e]
     exact Ni _ _ (Rb g.n hb r)
   ·rcases List.mem_or_eq_of_mem_set hs' with m|e
    ·exact g.t s' m
    ·rw [e]
     exact wA _ _
theorem JQ {m:Nat} {ns:List Int} {rws:List (List Rw)} (h:allR ns):o_ (uL m ns rws):=⟨h,fun s hs=>by
 obtain ⟨r,_,rfl⟩:=List.mem_map.mp hs;refine Ni _ _ fun x hx=> ?_;rw [(List.mem_replicate.mp hx).2];exact ⟨by decide,by decide⟩,fun s hs=>by
 obtain ⟨r,_,rfl⟩:=List.mem_map.mp hs;exact wA _ _⟩
theorem Am:∀b:Fin 8,PyData.strOk (rA b.val)=true:=by decide +kernel
theorem Gd {x:Ko} (h:KQ x):(yC x).canLay0=true/\(yC x).depth<=1:=by
 cases x with
 | num n=>exact ⟨by show (PyData.strOk (Str.ofString "number")&&(true&&true))=true;decide +kernel,by show (max 0 (max 0 0))+1<=1;decide⟩
 | box b=>
   refine ⟨?_,by show (max 0 (max 0 0))+1<=1;decide⟩;show (PyData.strOk (Str.ofString "box")&&(PyData.strOk (rA b)&&true))=true;rw [show PyData.strOk (rA b)=true from Am ⟨b,h⟩];decide +kernel
theorem tG {e:D_} (h:sX e):(lR e).canLay0=true/\(lR e).depth<=2:=by
 cases e with
 | one x=>obtain ⟨a,b⟩:=Gd (x:=x) h;exact ⟨a,by show (yC x).depth<=2;omega⟩
 | two p x y=>
   obtain ⟨a1,b1⟩:=Gd h.1;obtain ⟨a2,b2⟩:=Gd h.2;refine ⟨?_, ?_⟩
   ·show (PyData.strOk (if p then Str.ofString "plus" else Str.ofString "minus")&&(PyData.canLay0 (yC x)&&(PyData.canLay0 (yC y)&&true)))=true
    rw [a1,a2];cases p<;>decide +kernel
   ·show max 0 (max (yC x).depth (max (yC y).depth 0))+1<=2
    omega
theorem Ob {m:Nat} {r:Rw} (h:BW m r):(lK r).canLay0=true/\(lK r).depth<=3:=by
 cases r with
 | load b c=>
   refine ⟨?_,by show max 0 (max 0 (max 0 0))+1<=3;decide⟩;show (PyData.strOk (Str.ofString "load")&&(PyData.strOk (rA b)&&(true&&true)))=true;rw [show PyData.strOk (rA b)=true from Am ⟨b,h.1⟩];decide +kernel
 | store c e=>
   obtain ⟨a,d⟩:=tG h.2;refine ⟨?_, ?_⟩
   ·show (PyData.strOk (Str.ofString "store")&&(true&&(PyData.canLay0 (lR e)&&true)))=true
    rw [a];decide +kernel
   ·show max 0 (max 0 (max (lR e).depth 0))+1<=3
    omega
 | swap b c e=>
   obtain ⟨a,d⟩:=tG h.2.2;refine ⟨?_, ?_⟩
   ·show (PyData.strOk (Str.ofString "swap")&&(PyData.strOk (rA b)&&(true&&(PyData.canLay0 (lR e)&&true))))=true
    rw [a,show PyData.strOk (rA b)=true from Am ⟨b,h.1⟩];decide +kernel
   ·show max 0 (max 0 (max 0 (max (lR e).depth 0)))+1<=3
    omega
 | uy b e=>
   obtain ⟨a,d⟩:=tG h.2;refine ⟨?_, ?_⟩
   ·show (PyData.strOk (Str.ofString "let")&&(PyData.strOk (rA b)&&(PyData.canLay0 (lR e)&&true)))=true
    rw [a,show PyData.strOk (rA b)=true from Am ⟨b,h.1⟩];decide +kernel
   ·show max 0 (max 0 (max (lR e).depth 0))+1<=3
    omega
 | say e=>
   obtain ⟨a,d⟩:=tG (e:=e) h;refine ⟨?_, ?_⟩
   ·show (PyData.strOk (Str.ofString "say")&&(PyData.canLay0 (lR e)&&true))=true
    rw [a];decide +kernel
   ·show max 0 (max (lR e).depth 0)+1<=3
    omega
 | go k=>exact ⟨by show (PyData.strOk (Str.ofString "go")&&(true&&true))=true;decide +kernel,by show max 0 (max 0 0)+1<=3;decide⟩
 | xU q e f k=>
   obtain ⟨a1,b1⟩:=tG h.1;obtain ⟨a2,b2⟩:=tG h.2;refine ⟨?_, ?_⟩
   ·show (PyData.strOk (Str.ofString "unless")&&(PyData.strOk (if q then Str.ofString "=" else Str.ofString "<")&&(PyData.canLay0 (lR e)&&(PyData.canLay0 (lR f)&&(true&&true)))))=true
    rw [a1,a2];cases q<;>decide +kernel
   ·show max 0 (max 0 (max (lR e).depth (max (lR f).depth (max 0 0))))+1<=3
    omega
def j7 (l:List Int):PyData:= .list (l.map PyData.int)
theorem qW (l:List Int):(j7 l).canLay0=true/\(j7 l).depth<=1:=⟨jf PyData.int l fun _ _=>rfl,by
 have:=gD PyData.int 0 l fun _ _=>by show 0<=0;decide
 show PyData.depthAll (l.map PyData.int)+1<=1;omega⟩
def sE (s:bG):PyData:= .tuple [.str s.st,if s.st = "waits" then .int s.pos else .none,j7 s.bs,j7 s.sy]
theorem W4 {x:Str} (h:Pu x):PyData.strOk x=true:=by
 rcases h with rfl|rfl|rfl<;>decide +kernel
theorem Ir {s:bG} (h:Pu s.st):(sE s).canLay0=true/\(sE s).depth<=2:=by
 obtain ⟨a1,b1⟩:=qW s.bs;obtain ⟨a2,b2⟩:=qW s.sy;have a3:(if s.st = "waits" then PyData.int s.pos else .none).canLay0=true:=by split<;>rfl
 have b3:(if s.st = "waits" then PyData.int s.pos else .none).depth=0:=by split<;>rfl
 refine ⟨?_, ?_⟩
 ·show (PyData.strOk s.st&&(PyData.canLay0 (if s.st = "waits" then PyData.int s.pos else .none)&&(PyData.canLay0 (j7 s.bs)&&(PyData.canLay0 (j7 s.sy)&&true))))=true
  rw [a1,a2,a3,W4 h];rfl
 ·show max 0 (max (PyData.depth (if s.st = "waits" then PyData.int s.pos else .none)) (max (j7 s.bs).depth (max (j7 s.sy).depth 0)))+1<=2
  omega
def qF (rws:List Rw):PyData:= .list (rws.map lK)
def Hq (S:g_):PyData:= .tuple [.int S.m,.list (S.hs.map fun s=>qF s.rws)]
def I_ (S:g_) (cs:List Int):PyData:= .tuple [Hq S,j7 S.ns,.list (S.hs.map sE),j7 cs]
theorem Dq {m:Nat} {rws:List Rw} (h:∀r∈rws,BW m r):(qF rws).canLay0=true/\(qF rws).depth<=4:=⟨jf lK rws fun r hr=>(Ob (h r hr)).1,by
 have:=gD lK 3 rws fun r hr=>(Ob (h r hr)).2;show PyData.depthAll (rws.map lK)+1<=4;omega⟩
theorem Ge {S:g_} {cs:List Int} (g:o_ S) (h:∀s∈S.hs,∀r∈s.rws,BW S.m r):SeqAt.shaped (I_ S cs)=true:=by
 obtain ⟨a1,b1⟩:=qW S.ns;obtain ⟨a2,b2⟩:=qW cs;have a3:PyData.canLay0 (.list (S.hs.map sE))=true:=jf sE S.hs fun s hs=>(Ir (g.t s hs)).1;have b3:=gD sE 2 S.hs fun s hs=>(Ir (g.t s hs)).2;have a4:PyData.canLay0 (.list (S.hs.map fun s=>qF s.rws))=true:=jf (fun s:bG=>qF s.rws) S.hs fun s hs=>(Dq (h s hs)).1;have b4:=gD (fun s:bG=>qF s.rws) 4 S.hs fun s hs=>(Dq (h s hs)).2
 have e1:PyData.canLay0 (I_ S cs)=true:=by
  show ((true&&(PyData.canLay0 (.list (S.hs.map fun s=>qF s.rws))&&true))&&(PyData.canLay0 (j7 S.ns)&&(PyData.canLay0 (.list (S.hs.map sE))&&(PyData.canLay0 (j7 cs)&&true))))=true;rw [a1,a2,a3,a4];rfl
 have e2:PyData.depth (I_ S cs)<=64:=by
  show max (max 0 (max (PyData.depthAll (S.hs.map fun s=>qF s.rws)+1) 0)+1) (max (j7 S.ns).depth (max (PyData.depthAll (S.hs.map sE)+1) (max (j7 cs).depth 0)))+1<=64;omega
 unfold SeqAt.shaped;rw [e1,decide_eq_true e2];rfl
mutual
theorem Di:∀d:PyData,d.canLay0=true->PyData.eqv d d=true
 | .none,_=>rfl
 | .bool b,_=>by simp [PyData.eqv]
 | .int i,_=>by simp [PyData.eqv]
 | .str x,_=>by simp [PyData.eqv]
 | .list ds,h=>by simp only [PyData.eqv];exact sY ds (by simpa [PyData.canLay0] using h)
 | .tuple ds,h=>by simp only [PyData.eqv];exact sY ds (by simpa [PyData.canLay0] using h)
 | .dict _,h=>by simp [PyData.canLay0] at h
theorem sY:∀ds:List PyData,PyData.canLayAll0 ds=true->PyData.eqvAll ds ds=true
 | [],_=>rfl
 | d::ds,h=>by
   simp only [PyData.canLayAll0,Bool.and_eq_true] at h;simp only [PyData.eqvAll,Bool.and_eq_true];exact ⟨Di d h.1,sY ds h.2⟩
end
theorem Vj {d:PyData} (h:SeqAt.shaped d=true):PyData.eqv d d=true:=by
 unfold SeqAt.shaped at h;rw [Bool.and_eq_true] at h;exact Di d h.1
def isLoad:Rw->Bool
 | .load _ _=>true
 | _=>false
theorem qU {ns bs:List Int} {r:Rw} {c:Nat} (h:gJ r≠c):(cZ ns bs r)[c]? = ns[c]? :=by
 cases r<;>first |rfl|(simp only [gJ] at h;simp only [cZ];rw [List.getElem?_set_ne h])
theorem jq {ns bs:List Int} {r:Rw} (h:isLoad r=true):cZ ns bs r=ns:=by
 cases r<;>first |rfl|cases h
def apart (r q:Rw):Prop:=gJ r≠gJ q\/(isLoad r=true/\isLoad q=true)
theorem apart.symm {r q:Rw} (h:apart r q):apart q r:=by
 rcases h with h|⟨a,b⟩
 ·exact .inl h.symm
 ·exact .inr ⟨b,a⟩
theorem apart.boxes {ns bs cs:List Int} {r q:Rw} (h:apart r q):p8 (cZ ns bs r) cs q=p8 ns cs q:=by
 rcases h with h|⟨a,_⟩
 ·cases q<;>first |rfl|(simp only [p8];have h':=qU (ns:=ns) (bs:=bs) h;simp only [gJ] at h';rw [h'])
 ·rw [jq a]
theorem apart.read {ns bs:List Int} {r q:Rw} (h:apart r q):vV (cZ ns bs r) q=vV ns q:=by
 rcases h with h|⟨a,_⟩
 ·cases q<;>first |rfl|(simp only [vV];have h':=qU (ns:=ns) (bs:=bs) h;simp only [gJ] at h';rw [h'])
 ·rw [jq a]
theorem apart.cells {ns bs cs:List Int} {r q:Rw} (h:apart r q):cZ (cZ ns bs r) cs q=cZ (cZ ns cs q) bs r:=by
 rcases h with h|⟨a,b⟩
 ·cases r<;>cases q<;>first |rfl|(simp only [gJ] at h;simp only [cZ];exact List.set_comm _ _ h)
 ·rw [jq a,jq b,jq a]
theorem lE {S:g_} {k:Nat} {s:bG} {r:Rw} (es:S.hs[k]? = some s) (er:s.rws[s.pos]? = some r):cX S k={S with ns:=cZ S.ns s.bs r,hs:=S.hs.set k (j8 S.ns s r),ts:=S.ts++[(k:Int)]}:=by
 unfold cX;simp only [es,er]
theorem lD {S:g_} {f g:Nat} {s t:bG} {r q:Rw} (n:f≠g) (es:S.hs[f]? = some s) (er:s.rws[s.pos]? = some r) (et:S.hs[g]? = some t) (eq:t.rws[t.pos]? = some q):
 (cX S f).hs[g]? = some t/\cX (cX S f) g={S with ns:=cZ (cZ S.ns s.bs r) t.bs q,hs:=(S.hs.set f (j8 S.ns s r)).set g (j8 (cZ S.ns s.bs r) t q),ts:=S.ts++[(f:Int)]++[(g:Int)]}:=by
 have e1:=lE es er;have e2:(cX S f).hs[g]? = some t:=by rw [e1];show (S.hs.set f _)[g]? = _;rw [List.getElem?_set_ne n];exact et
 refine ⟨e2, ?_⟩;rw [lE e2 eq,e1]
theorem Jc {S:g_} {f g:Nat} {s t:bG} {r q:Rw} (n:f≠g) (es:S.hs[f]? = some s) (er:s.rws[s.pos]? = some r) (et:S.hs[g]? = some t) (eq:t.rws[t.pos]? = some q) (ap:apart r q):
 (cX (cX S f) g).ns=(cX (cX S g) f).ns/\(cX (cX S f) g).hs=(cX (cX S g) f).hs:=by
 rw [(lD n es er et eq).2,(lD n.symm et eq es er).2];refine ⟨ap.cells, ?_⟩;show (S.hs.set f _).set g _=(S.hs.set g _).set f _;unfold j8;rw [ap.boxes,ap.symm.boxes,List.set_comm _ _ n]
end Prf
set_option Elab.async false
set_option linter.all false
set_option maxRecDepth 100000
set_option maxHeartbeats 4000000
namespace L2
open PySem
def nw (H H':Hp):Hp:=fun x=>match H x with
 | none=>H' x
 | some _=>none
theorem yK {H H':Hp} {x:Addr} {o:HO} (n:H x=none) (e:H' x=some o):nw H H' x=some o:=by
 unfold nw;rw [n];exact e
theorem Ft {H H':Hp} {x:Addr} {o:HO} (e:nw H H' x=some o):H x=none/\H' x=some o:=by
 unfold nw at e;cases q:H x with
 | none=>rw [q] at e;exact ⟨rfl,e⟩
 | some u=>rw [q] at e;cases e
theorem Qz (H H':Hp):Same (nw H H') H':=fun x o e=>(Ft e).2
section
variable {K:PySem.W.Frag} {a D:Addr} {xs:List V} {te:TE} {Q:VK} {rest:St} {H1:Hp}
def nwB (H1:Hp) (D:Addr) (H:Hp):Hp:=fun x=>if x=D then none else nw H1 H x
theorem HJ {H H1:Hp} {x:Addr} {o:HO} (e:nwB H1 D H x=some o):x≠D/\H1 x=none/\H x=some o:=by
 unfold nwB at e
 by_cases z:x=D
 ·rw [if_pos z] at e;cases e
 ·rw [if_neg z] at e;exact ⟨z,Ft e⟩
theorem MK {H H1:Hp} {x:Addr} {o:HO} (z:x≠D) (n:H1 x=none) (e:H x=some o):nwB H1 D H x=some o:=by
 unfold nwB;rw [if_neg z];exact yK n e
theorem MJ {H H4:Hp} {o:HO} (s:Same H H4):Same (nwB H1 D H) (nwB H1 D (upd H4 D o)):=fun x u e=>by
 obtain ⟨z,n,h⟩:=HJ e;exact MK z n (by rw [aF z];exact s _ _ h)
theorem QB {H H4:Hp} {o u:HO} (s:Same H1 H) (e:H D=some u):Same (nw H H4) (nwB H1 D (upd H4 D o)):=fun x v h=>by
 obtain ⟨n,h⟩:=Ft h;have z:x≠D:=(aD e n).symm;exact MK z (s.free n) (by rw [aF z];exact h)
theorem Uv {H:Hp}:Same (nwB H1 D H) (nw H1 H):=fun x o e=>by
 obtain ⟨_,n,h⟩:=HJ e;exact yK n h
theorem J0 (f:Nat->PyData) (hD:H1 D=none) (hq:bH K H1 a xs) (hx:xs.length<=100000)
 (hs:∀i x H (F:VK),xs[i]? = some x->Same H1 H->(∀y H',Same H H'->Dat (nw H H') y (f i)->F y H')->te (some x::rest) H F)
 (hd:∀H,Same H1 H->Dat (nw H1 H) (.ref D) (.list ((List.range xs.length).map f))->Q (.ref D) H):oM (Sx K a) (iV 0) En te Q D (none::rest) H1:=by
 refine lO (K:=K) (xs:=xs) (fun i σ H=>(∃v,σ=v::rest)/\Same H1 H /\ ∃vs,H D=some (.lst vs)/\aO (nwB H1 D H) vs ((List.range i).map f)) ⟨⟨none,rfl⟩,aL hD,[],aq,by simp [aO]⟩ (fun i σ H _ ⟨_,sm,_⟩=>sm.ZQ _ _ hq) ?_ (fun σ H ⟨_,sm,vs,e,d⟩=>hd H sm (wL (yK hD e) (d.same Uv _)));rintro i x σ H hi ⟨⟨v,rfl⟩,sm,vs,e,d⟩;have hil:i<xs.length:=(List.getElem?_eq_some_iff.mp hi).1;refine hs i x H _ hi sm fun y H4 s4 dy=> ?_;have hl:vs.length=i:=by rw [d.length];simp
 refine ⟨vs,s4 _ _ e, ?_,⟨_,rfl⟩,(sm.trans s4).newly hD,vs++[y],aq, ?_⟩
 ·rw [sizeLine_eq];omega
 ·rw [List.range_succ,List.map_append]
  exact jL (d.same (MJ s4) _) (dy.same (QB sm e) _)
end
end L2
set_option Elab.async false
set_option linter.all false
set_option maxRecDepth 100000
set_option maxHeartbeats 4000000
namespace Prf
open PySem L2
structure Tc where
 (k:Nat) (r:Rw) (rd wr:Option Int)
def Kr (S:g_) (t:Tc):Prop:=∃s,S.hs[t.k]? = some s/\s.st = "waits" /\ s.rws[s.pos]? = some t.r/\t.rd=vV S.ns t.r/\t.wr=GK s.bs t.r
def Run:g_->List Tc->g_->Prop
 | S,[],S'=>S'=S
 | S,t::l,S'=>Kr S t/\Run (cX S t.k) l S'
structure yx (S T:g_):Prop where
 m:S.m=T.m
 ns:S.ns=T.ns
 hs:S.hs=T.hs
 ts:S.ts.Perm T.ts
theorem yx.refl (S:g_):yx S S:=⟨rfl,rfl,rfl,List.Perm.refl _⟩
theorem yx.trans {S T U:g_} (a:yx S T) (b:yx T U):yx S U:=⟨a.m.trans b.m,a.ns.trans b.ns,a.hs.trans b.hs,a.ts.trans b.ts⟩
theorem Kr.alk {S T:g_} {t:Tc} (h:Kr S t) (a:yx S T):Kr T t:=by
 obtain ⟨s,h1,h2,h3,h4,h5⟩:=h;exact ⟨s,by rw [←a.hs];exact h1,h2,h3,by rw [←a.ns];exact h4,h5⟩
theorem Kr.turn {S:g_} {t:Tc} (h:Kr S t):∃s,S.hs[t.k]? = some s/\s.rws[s.pos]? = some t.r/\cX S t.k={S with ns:=cZ S.ns s.bs t.r,hs:=S.hs.set t.k (j8 S.ns s t.r),ts:=S.ts++[(t.k:Int)]}:=by
 obtain ⟨s,h1,_,h3,_⟩:=h;exact ⟨s,h1,h3,lE h1 h3⟩
theorem K5 {S T:g_} {t:Tc} (h:Kr S t) (a:yx S T):yx (cX S t.k) (cX T t.k):=by
 obtain ⟨s,h1,h3,e⟩:=h.turn;have h1':T.hs[t.k]? = some s:=by rw [←a.hs];exact h1
 rw [e,lE h1' h3];exact ⟨a.m,by show cZ _ _ _=cZ _ _ _;rw [a.ns],by show List.set _ _ _=List.set _ _ _;rw [a.hs,a.ns],a.ts.append_right _⟩
theorem Run.alk:∀{l:List Tc} {S T S':g_},Run S l S'->yx S T -> ∃T',Run T l T'/\yx S' T'
 | [],S,T,S',h,a=>⟨T,rfl,by have h:S'=S:=h;rw [h];exact a⟩
 | t::l,S,T,S',⟨h1,h2⟩,a=>by
   obtain ⟨T',r,a'⟩:=Run.alk h2 (K5 h1 a);exact ⟨T',⟨h1.alk a,r⟩,a'⟩
theorem Run.det:∀{l:List Tc} {S T T':g_},Run S l T->Run S l T'->T=T'
 | [],S,T,T',h,h'=>by
   have h:T=S:=h;have h':T'=S:=h';rw [h,h']
 | t::l,S,T,T',h,h'=>Run.det h.2 h'.2
theorem Run.app:∀{p q:List Tc} {S S':g_},Run S (p++q) S' ↔ ∃T,Run S p T/\Run T q S'
 | [],q,S,S'=>⟨fun h=>⟨S,rfl,h⟩,fun ⟨T,h1,h2⟩=>by have h1:T=S:=h1;rw [h1] at h2;exact h2⟩
 | t::p,q,S,S'=>by
   constructor
   ·rintro ⟨h1,h2⟩
    obtain ⟨T,a,b⟩:=Run.app.mp h2;exact ⟨T,⟨h1,a⟩,b⟩
   ·rintro ⟨T,⟨h1,a⟩,b⟩
    exact ⟨h1,Run.app.mpr ⟨T,a,b⟩⟩
def stepT (x y:Tc):Prop:=x.k=y.k \/ ¬apart x.r y.r
theorem Run.swap {S S':g_} {x y:Tc} {l:List Tc} (n:¬stepT x y) (h:Run S (x::y::l) S'):∃Kl,Run S (y::x::l) Kl/\yx S' Kl:=by
 obtain ⟨hx,hy,hl⟩:=h;have nk:x.k≠y.k:=fun z=>n (.inl z);have ap:apart x.r y.r:=Classical.byContradiction fun z=>n (.inr z);obtain ⟨s,s1,s2,s3,s4,s5⟩:=id hx;obtain ⟨t,t1,t2,t3,t4,t5⟩:=id hy;have ex:=lE s1 s3
 have t1':S.hs[y.k]? = some t:=by
  rw [ex] at t1;have t1:(S.hs.set x.k _)[y.k]? = some t:=t1;rwa [List.getElem?_set_ne nk] at t1
 have ey:=lE t1' t3
 have hy':Kr S y:=⟨t,t1',t2,t3,by
  rw [t4,ex];exact ap.read,t5⟩
 have s1':(cX S y.k).hs[x.k]? = some s:=by
  rw [ey];show (S.hs.set y.k _)[x.k]? = some s;rw [List.getElem?_set_ne (Ne.symm nk)];exact s1
 have hx':Kr (cX S y.k) x:=⟨s,s1',s2,s3,by
  rw [s4,ey];exact ap.symm.read.symm,s5⟩
 obtain ⟨w1,w2⟩:=Jc nk s1 s3 t1' t3 ap
 have al:yx (cX (cX S x.k) y.k) (cX (cX S y.k) x.k):=by
  refine ⟨?_,w1,w2, ?_⟩
  ·rw [(lD nk s1 s3 t1' t3).2,(lD (Ne.symm nk) t1' t3 s1 s3).2]
  ·rw [(lD nk s1 s3 t1' t3).2,(lD (Ne.symm nk) t1' t3 s1 s3).2]
   show (S.ts++[(x.k:Int)]++[(y.k:Int)]).Perm (S.ts++[(y.k:Int)]++[(x.k:Int)]);rw [List.append_assoc,List.append_assoc];exact List.Perm.append_left _ (List.Perm.swap _ _ _)
 obtain ⟨Kl,r,a⟩:=hl.alk al;exact ⟨Kl,⟨hy',hx',r⟩,a⟩
theorem Run.front:∀{pre:List Tc} {S S':g_} {x:Tc} {post:List Tc},(∀p∈pre,¬stepT p x)->Run S (pre++x::post) S' -> ∃Kl,Run S (x::(pre++post)) Kl/\yx S' Kl
 | [],S,S',x,post,_,h=>⟨S',h,yx.refl _⟩
 | p::pre,S,S',x,post,n,⟨h1,h2⟩=>by
   obtain ⟨T,r,a⟩:=Run.front (fun q hq=>n q (.tail _ hq)) h2;obtain ⟨U,r',a'⟩:=Run.swap (n p (.head _)) (show Run S (p::x::(pre++post)) T from ⟨h1,r⟩);exact ⟨U,r',a.trans a'⟩
inductive VG (l:List Tc):List Nat->Prop
 | nil:VG l []
 | snoc {o:List Nat} {a:Nat} {x:Tc} (h:VG l o) (e:l[a]? = some x) (n:a∉o) (q:∀m y,m<a->l[m]? = some y->stepT y x->m∈o):VG l (o++[a])
def pick (l:List Tc) (o:List Nat):List Tc:=o.filterMap fun i=>l[i]?
def tV (l:List Tc) (o:List Nat):List Nat:=(List.range l.length).filter fun i=> !o.contains i
theorem qR {p:Nat->Bool} {a:Nat}:∀n,a<n->p a=true->(List.range n).filter p=(List.range a).filter p++a::((List.range n).filter fun i=>p i&&decide (a<i))
 | 0,h,_=>by omega
 | n+1,h,q=>by
   rw [List.range_succ,List.filter_append,List.filter_append];rcases Nat.lt_or_ge a n with l|l
   ·have f:List.filter (fun i=>p i&&decide (a<i)) [n]=List.filter p [n]:=by
     rw [List.filter_cons,List.filter_cons];cases p n<;>simp [l]
    rw [qR n l q,f];simp
   ·have:a=n:=by omega
    subst this;have f1:List.filter p [a]=[a]:=by rw [List.filter_cons,if_pos q];rfl
    have f2:(List.range a).filter (fun i=>p i&&decide (a<i))=[]:=List.filter_eq_nil_iff.mpr fun i hi z=>by
     have:=List.mem_range.mp hi;simp at z;omega
    have f3:List.filter (fun i=>p i&&decide (a<i)) [a]=[]:=by rw [List.filter_cons];simp
    rw [f1,f2,f3];simp
theorem Jk {l:List Tc} {o:List Nat} {a:Nat} (ha:a<l.length) (n:a∉o):∃pre post,tV l o=pre++a::post/\tV l (o++[a])=pre++post /\ ∀m∈pre,m<a/\m∉o:=by
 have pa:(!o.contains a)=true:=by simpa using n
 have e:=qR (p:=fun i=> !o.contains i) l.length ha pa;refine ⟨_,_,e, ?_,fun m hm=> ?_⟩
 ·unfold tV
  have c:∀i,(!(o++[a]).contains i)=((!o.contains i) && !decide (i=a)):=fun i=>by
   rw [List.contains_append]
   by_cases q:i=a<;>simp [q]
  have e2:(List.range l.length).filter (fun i=> !(o++[a]).contains i)=((List.range l.length).filter fun i=> !o.contains i).filter fun i=> !decide (i=a):=by
   rw [List.filter_filter];refine List.filter_congr fun i _=> ?_;rw [c,Bool.and_comm]
  rw [e2,e,List.filter_append,List.filter_cons];simp only [decide_true,Bool.not_true,Bool.false_eq_true,if_false];congr 1
  ·exact List.filter_eq_self.mpr fun i hi=>by
    have:=List.mem_range.mp (List.mem_filter.mp hi).1;simp;omega
  ·exact List.filter_eq_self.mpr fun i hi=>by
    have:=(List.mem_filter.mp hi).2;simp at this ⊢;omega
 ·obtain ⟨h1,h2⟩:=List.mem_filter.mp hm
  exact ⟨List.mem_range.mp h1,by simpa using h2⟩
theorem vZ (l:List Tc) (a b:List Nat):pick l (a++b)=pick l a++pick l b:=by unfold pick;rw [List.filterMap_append]
theorem yJ {l:List Tc} {a:Nat} {x:Tc} (e:l[a]? = some x) (b:List Nat):pick l (a::b)=x::pick l b:=by
 unfold pick;rw [List.filterMap_cons,e]
theorem BZ (l:List Tc):pick l (tV l [])=l:=by
 unfold pick tV;have:(List.range l.length).filter (fun i=> !([]:List Nat).contains i)=List.range l.length:=List.filter_eq_self.mpr fun i _=>by simp
 rw [this];refine List.ext_getElem? fun i=> ?_
 have gen:∀n,n<=l.length->(List.range n).filterMap (fun i=>l[i]?)=l.take n:=by
  intro n
  induction n with
  | zero=>intro _;rfl
  | succ n ih=>
    intro hn;rw [List.range_succ,List.filterMap_append,ih (by omega),List.take_add_one];congr 1
 rw [gen _ (Nat.le_refl _),List.take_length]
theorem Run.other {l:List Tc} {S S':g_} (h:Run S l S') {o:List Nat} (O:VG l o):∃T Kl,Run S (pick l o) T/\Run T (pick l (tV l o)) Kl/\yx S' Kl:=by
 induction O with
 | nil=>exact ⟨S,S',rfl,by rw [BZ];exact h,yx.refl _⟩
 | @snoc o a x O e n q ih=>
   obtain ⟨T,S1,r1,r2,al⟩:=ih;have ha:a<l.length:=(List.getElem?_eq_some_iff.mp e).1;obtain ⟨pre,post,e1,e2,e3⟩:=Jk ha n;rw [e1,vZ,yJ e] at r2
   have np:∀p∈pick l pre,¬stepT p x:=fun p hp st=>by
    unfold pick at hp;obtain ⟨m,hm,em⟩:=List.mem_filterMap.mp hp;obtain ⟨lm,nm⟩:=e3 m hm;exact nm (q m p lm em st)
   obtain ⟨S2,r3,al2⟩:=Run.front np r2;obtain ⟨r3a,r3b⟩:=r3;refine ⟨cX T x.k,S2, ?_,by rw [e2,vZ];exact r3b,al.trans al2⟩;rw [vZ,yJ e];exact Run.app.mpr ⟨T,r1,r3a,rfl⟩
theorem Run.end {l:List Tc} {S S' T:g_} (h:Run S l S') {o:List Nat} (O:VG l o) (all:∀i,i<l.length->i∈o) (r:Run S (pick l o) T):yx S' T:=by
 obtain ⟨U,Kl,r1,r2,al⟩:=h.other O
 have:tV l o=[]:=List.filter_eq_nil_iff.mpr fun i hi=>by
  have:=all i (List.mem_range.mp hi);simpa using this
 rw [this] at r2;have r2:Kl=U:=r2;rw [r.det r1,←r2];exact al
end Prf
set_option Elab.async false
set_option linter.all false
set_option maxRecDepth 100000
set_option maxHeartbeats 4000000
namespace L2
open PySem PySem.Spec PyProof.Rows
section
variable {P:Program} {w:World} {K:PySem.W.Frag} {mg:Str->Option Value} {base:Heap}
theorem yt.ok {x qual:Str} {st:Stmt} {ds:List Value} {f:Addr} {fd:FuncData} {N ps:List Str} {k:Nat} {sp:Sp} (F:yt K x qual st ds f fd) (S:bf N ps (ao st)) (len:∀vs H Q E,sp vs H Q E->vs.length=ps.length)
 (hb:∀(cdv:Value) (A:Around) (outer:List Env) (s:Shared) (H:Hp) (vs:List V) (Q:VK) (E:XK),eV k (A.deeper (envOfC qual (ao st) s.heap.objs.size f cdv))->sp vs H Q E ->
   ∃t,Eb (m5 jA P w K mg base N qual (ao st) f cdv A outer s H E).V5 (aH st) t/\t {nx:=fun _ H'=>Q .non H',rt:=Q} (start N vs) H):cj P w K mg base jA (k+1) f fd ps sp:=by
 obtain ⟨oc,od,T,kV,doc,pm,an,cdv,ct,osl,tc,td,tn,Ek,rfl,lk,hcd,_⟩:=F.ex;refine Ii lk hcd S len fun A outer s H vs Q E hr q=> ?_;obtain ⟨t,h1,h2⟩:=hb cdv A outer s H vs Q E hr q;exact ⟨t,h1.V5,h2⟩
end
section
variable {X:Cx} {k:Nat} {x kn:Str} {ps:List Str} {sp:Sp} {o7:List V} {e ke:Expr} {es:List Expr} {te:TE} {t:TA} {p pos kpos:Pos} {E:St->XK}
end
end L2
set_option Elab.async false
set_option linter.all false
set_option maxRecDepth 100000
set_option maxHeartbeats 4000000
namespace L2
open PySem PySem.Spec PyProof.Rows
section
variable {X:Cx} {K:PySem.W.Frag}
inductive PlU (H:Hp):V->Value->Prop where
 | of {v:V} {t:Value} (h:Zu H v t):PlU H v t
 | str (y:Str):PlU H (.str y) (.type "str")
 | non:PlU H .non (.type "NoneType")
def Xh (K:PySem.W.Frag):List V->Hp->VK->Prop:=fun xs H Q=>∃(x:V) (t:Value) (p:Addr) (ns:List String) (b:Bool),xs=[x,.ref p]/\PlU H x t/\H p=some (.tup (ns.map V.ty))/\PySem.W.kitAny K t (ns.map Value.type)=some b/\Q (.bl b) H
theorem Gg (hk:X.K=K):iw X (.builtin "isinstance") (Xh K):=by
 intro pins s σ H xs us Q I r h;obtain ⟨x,t,p,ns,b,rfl,ty,hp,e,q⟩:=h;cases ty with
 | of h=>exact Gh hk pins s σ H _ us Q I r ⟨x,t,p,ns,b,rfl,h,hp,e,q⟩
 | str y=>
   subst hk;obtain ⟨u,w',rfl,r1,r2⟩:=vals2 r;cases (show w'=Value.ref p from r2);obtain ⟨its,rv,⟨o,ho,hc,m,hd⟩,hz⟩:=I.tuple (dg.of hp);have ei:=pK rv;subst ei;obtain ⟨c0,d0,dt,sl⟩:=o;simp only at hc hd;subst hc hd;obtain ⟨t,q1⟩:=(show ∃t,u=Value.str y t from r1);cases q1;exact PySem.W.kia_tup PySem.W.kitx_str I.oA True.intro ho e (fun z=>nomatch z) fun tk=>⟨.bl b,H,I.tok _,rfl,q⟩
 | non=>
   subst hk;obtain ⟨u,w',rfl,r1,r2⟩:=vals2 r;cases (show w'=Value.ref p from r2);obtain ⟨its,rv,⟨o,ho,hc,m,hd⟩,hz⟩:=I.tuple (dg.of hp);have ei:=pK rv;subst ei;obtain ⟨c0,d0,dt,sl⟩:=o;simp only at hc hd;subst hc hd;cases (show u=Value.none from r1);exact PySem.W.kia_tup PySem.W.kitx_none I.oA True.intro ho e (fun z=>nomatch z) fun tk=>⟨.bl b,H,I.tok _,rfl,q⟩
theorem Gu (K:PySem.W.Frag):PySem.W.kitAny K (.type "str") (["list","tuple"].map Value.type)=some false:=by kernel_rfl
theorem Gw (K:PySem.W.Frag):PySem.W.kitAny K (.type "NoneType") (["list","tuple"].map Value.type)=some false:=by kernel_rfl
end
end L2
set_option Elab.async false
set_option linter.all false
set_option maxRecDepth 100000
set_option maxHeartbeats 4000000
namespace Prf
open PySem L2
def top (i:Nat):Stmt:=PySem.Challenge.pw_fewnotes_k22_whole_other_orders_tell_the.main.body.getD i (.Pass ⟨0,0,0,0⟩)
abbrev fD:Stmt:=top 8
abbrev fH:Stmt:=top 9
abbrev gw:Stmt:=top 12
abbrev dY:Stmt:=inClass (top 16) 0
abbrev cN:Stmt:=inClass (top 16) 2
abbrev cO:Stmt:=inClass (top 16) 3
abbrev gB:Stmt:=inClass (top 16) 4
abbrev dF:Stmt:=inClass (top 16) 5
abbrev dX:Stmt:=inClass (top 16) 6
abbrev bY:Stmt:=inClass (top 16) 7
abbrev bO:Stmt:=inClass (top 17) 0
abbrev dD:Stmt:=inClass (top 17) 1
abbrev b_:Stmt:=inClass (top 17) 2
abbrev cQ:Stmt:=inClass (top 17) 3
abbrev dW:Stmt:=inClass (top 17) 6
abbrev cL:Stmt:=inClass (top 17) 7
abbrev cC:Stmt:=inClass (top 17) 9
abbrev cB:Stmt:=inClass (top 17) 10
abbrev cM:Stmt:=inClass (top 17) 11
abbrev cD:Stmt:=inClass (top 17) 12
abbrev cA:Stmt:=top 18
abbrev iB:Stmt:=top 20
abbrev dB:Stmt:=top 21
abbrev fB:Stmt:=top 22
abbrev cJ:Stmt:=top 23
abbrev gq:Stmt:=top 24
abbrev fG:Stmt:=top 25
abbrev gA:Stmt:=top 27
abbrev jH:Stmt:=top 28
abbrev iD:Stmt:=top 29
abbrev iC:Stmt:=top 30
abbrev jF:Stmt:=top 31
abbrev fJ:Stmt:=top 32
abbrev iG:Stmt:=top 33
abbrev iH:Stmt:=top 34
abbrev jE:Stmt:=top 35
abbrev cR:Stmt:=top 36
abbrev jj:Stmt:=top 37
abbrev jG:Stmt:=top 38
abbrev qD:Stmt:=top 39
structure yX (mg:Str->Option Value):Prop where
 Sh:mg "abs" = none
 Oo:mg "all" = none
 Zk:mg "any" = none
 Gr:mg "bool" = none
 DG:mg "enumerate" = none
 Dz:mg "int" = none
 cg:mg "isinstance" = none
 gR:mg "len" = none
 iQ:mg "list" = none
 aiP:mg "max" = none
 Zj:mg "min" = none
 fW:mg "range" = none
 Om:mg "sorted" = none
 Ax:mg "tuple" = none
 Zi:mg "zip" = none
theorem Bw:bf ["value"] ["value"] (ao fD):=⟨rfl,rfl,rfl,by decide +kernel,rfl,by decide +kernel,by decide +kernel⟩
theorem BJ:bf ["value","count"] ["value","count"] (ao fH):=⟨rfl,rfl,rfl,by decide +kernel,rfl,by decide +kernel,by decide +kernel⟩
theorem E_:bf ["row"] ["row"] (ao gw):=⟨rfl,rfl,rfl,by decide +kernel,rfl,by decide +kernel,by decide +kernel⟩
theorem zN:bf ["self","rows"] ["self","rows"] (ao dY):=⟨rfl,rfl,rfl,by decide +kernel,rfl,by decide +kernel,by decide +kernel⟩
theorem nA:bf ["self","row"] ["self"] (ao cN):=⟨rfl,rfl,rfl,by decide +kernel,rfl,by decide +kernel,by decide +kernel⟩
theorem ju:bf ["self","done"] ["self"] (ao cO):=⟨rfl,rfl,rfl,by decide +kernel,rfl,by decide +kernel,by decide +kernel⟩
theorem Fb:bf ["self","row"] ["self","row"] (ao gB):=⟨rfl,rfl,rfl,by decide +kernel,rfl,by decide +kernel,by decide +kernel⟩
theorem kJ:bf ["self","row","left","right"] ["self","row"] (ao dF):=⟨rfl,rfl,rfl,by decide +kernel,rfl,by decide +kernel,by decide +kernel⟩
theorem zM:bf ["self","box","number"] ["self","box","number"] (ao dX):=⟨rfl,rfl,rfl,by decide +kernel,rfl,by decide +kernel,by decide +kernel⟩
theorem gn:bf ["self","part","left","right"] ["self","part"] (ao bY):=⟨rfl,rfl,rfl,by decide +kernel,rfl,by decide +kernel,by decide +kernel⟩
theorem kE:bf ["self","program","cells","one"] ["self","program","cells"] (ao bO):=⟨rfl,rfl,rfl,by decide +kernel,rfl,by decide +kernel,by decide +kernel⟩
theorem kj:bf ["self","hand","one","touch"] ["self","hand"] (ao dD):=⟨rfl,rfl,rfl,by decide +kernel,rfl,by decide +kernel,by decide +kernel⟩
theorem dU:bf ["self","one","row","cell","read","written"] ["self","one"] (ao b_):=⟨rfl,rfl,rfl,by decide +kernel,rfl,by decide +kernel,by decide +kernel⟩
theorem vP:bf ["self"] ["self"] (ao cQ):=⟨rfl,rfl,rfl,by decide +kernel,rfl,by decide +kernel,by decide +kernel⟩
theorem zL:bf ["self","hand"] ["self","hand"] (ao dW):=⟨rfl,rfl,rfl,by decide +kernel,rfl,by decide +kernel,by decide +kernel⟩
theorem uq:bf ["self"] ["self"] (ao cL):=⟨rfl,rfl,rfl,by decide +kernel,rfl,by decide +kernel,by decide +kernel⟩
theorem rP:bf ["self","hand"] ["self","hand"] (ao cC):=⟨rfl,rfl,rfl,by decide +kernel,rfl,by decide +kernel,by decide +kernel⟩
theorem lG:bf ["self","hands"] ["self"] (ao cB):=⟨rfl,rfl,rfl,by decide +kernel,rfl,by decide +kernel,by decide +kernel⟩
theorem ur:bf ["self","other"] ["self","other"] (ao cM):=⟨rfl,rfl,rfl,by decide +kernel,rfl,by decide +kernel,by decide +kernel⟩
theorem rQ:bf ["self"] ["self"] (ao cD):=⟨rfl,rfl,rfl,by decide +kernel,rfl,by decide +kernel,by decide +kernel⟩
theorem rO:bf ["cells","count"] ["cells","count"] (ao cA):=⟨rfl,rfl,rfl,by decide +kernel,rfl,by decide +kernel,by decide +kernel⟩
theorem lF:bf ["program","order","cells","works","web","hand","touch"] ["program","order","cells"] (ao iB):=⟨rfl,rfl,rfl,by decide +kernel,rfl,by decide +kernel,by decide +kernel⟩
theorem gO:bf ["program","order","cells","works","touches","hand","touch"] ["program","order","cells"] (ao dB):=⟨rfl,rfl,rfl,by decide +kernel,rfl,by decide +kernel,by decide +kernel⟩
theorem nY:bf ["web","order","k","place"] ["web","order"] (ao fB):=⟨rfl,rfl,rfl,by decide +kernel,rfl,by decide +kernel,by decide +kernel⟩
theorem uo:bf ["one","other"] ["one","other"] (ao cJ):=⟨rfl,rfl,rfl,by decide +kernel,rfl,by decide +kernel,by decide +kernel⟩
theorem EY:bf ["web","place","later"] ["web","place","later"] (ao gq):=⟨rfl,rfl,rfl,by decide +kernel,rfl,by decide +kernel,by decide +kernel⟩
theorem Bx:bf ["web","order"] ["web","order"] (ao fG):=⟨rfl,rfl,rfl,by decide +kernel,rfl,by decide +kernel,by decide +kernel⟩
theorem jd:bf ["script","figures","stir","cell"] ["script"] (ao gA):=⟨rfl,rfl,rfl,by decide +kernel,rfl,by decide +kernel,by decide +kernel⟩
theorem vR:bf ["spring","many","found","stir"] ["spring","many"] (ao jH):=⟨rfl,rfl,rfl,by decide +kernel,rfl,by decide +kernel,by decide +kernel⟩
theorem Ji:bf ["spring","boxes"] ["spring","boxes"] (ao iD):=⟨rfl,rfl,rfl,by decide +kernel,rfl,by decide +kernel,by decide +kernel⟩
theorem rR:bf ["spring","boxes","kind","one"] ["spring","boxes"] (ao iC):=⟨rfl,rfl,rfl,by decide +kernel,rfl,by decide +kernel,by decide +kernel⟩
theorem lJ:bf ["spring","room","boxes","many","word","box","cell","to","one"] ["spring","room","boxes","many"] (ao jF):=⟨rfl,rfl,rfl,by decide +kernel,rfl,by decide +kernel,by decide +kernel⟩
theorem gb:bf ["spring","hands","room","boxes","team","hand","many"] ["spring"] (ao fJ):=⟨rfl,rfl,rfl,by decide +kernel,rfl,by decide +kernel,by decide +kernel⟩
theorem lH:bf ["spring","works","shape","order","k","waiting"] ["spring","works"] (ao iG):=⟨rfl,rfl,rfl,by decide +kernel,rfl,by decide +kernel,by decide +kernel⟩
theorem Jj:bf ["one","other"] ["one","other"] (ao iH):=⟨rfl,rfl,rfl,by decide +kernel,rfl,by decide +kernel,by decide +kernel⟩
theorem Li:bf ["one","other"] ["one","other"] (ao jE):=⟨rfl,rfl,rfl,by decide +kernel,rfl,by decide +kernel,by decide +kernel⟩
theorem dJ:bf ["spring","web","waits","free","order","again","i","j"] ["spring","web"] (ao cR):=⟨rfl,rfl,rfl,by decide +kernel,rfl,by decide +kernel,by decide +kernel⟩
theorem BK:bf ["found","due"] ["found","due"] (ao jj):=⟨rfl,rfl,rfl,by decide +kernel,rfl,by decide +kernel,by decide +kernel⟩
theorem vQ:bf ["program","order","numbers","works","hand"] ["program","order","numbers"] (ao jG):=⟨rfl,rfl,rfl,by decide +kernel,rfl,by decide +kernel,by decide +kernel⟩
theorem jc:bf ["script","spring","plain","program","numbers","order","web","rows","works","again","other","hands"] ["script"] (ao qD):=⟨rfl,rfl,rfl,by decide +kernel,rfl,by decide +kernel,by decide +kernel⟩
structure gH (K:PySem.W.Frag) (C:Addr):Prop where
 cls:Cls K C
 pR:gM K C "rows"
 ux:gM K C "at"
 mW:gM K C "in_boxes"
 sI:gM K C "sayings"
 j6:gM K C "state"
structure dz (K:PySem.W.Frag) (C:Addr):Prop where
 cls:Cls K C
 sJ:gM K C "program"
 jK:gM K C "numbers"
 oU:gM K C "hands"
 uT:gM K C "turns"
section
variable {P:Program} {w:World} {K:PySem.W.Frag} {mg:Str->Option Value} {base:Heap}
def bC (H:Hp) (r:Addr):Prop:=∃f t c:Int,H r=some (.lst [.int f,.int t,.int c])/\0<=f/\0<=t/\t<2305843009213693951/\0<=c
theorem bC.keep {H H':Hp} {r:Addr} (h:bC H r) (k:Same H H'):bC H' r:=by
 obtain ⟨f,t,c,e,q⟩:=h;exact ⟨f,t,c,k _ _ e,q⟩
theorem bC.keep' {H H':Hp} {r x:Addr} (h:bC H r) (k:Kp x H H') (n:r≠x):bC H' r:=by
 obtain ⟨f,t,c,e,q⟩:=h;exact ⟨f,t,c,k _ _ e n,q⟩
def mQ (K:PySem.W.Frag):Sp:=fun vs H Q _=>∃(r:Addr) (m:Int),vs=[.ref r,.int m]/\bC H r/\0<m/\m<1073741824 /\ ∀(n:Int) (H':Hp),0<=n->n<m->bC H' r->Kp r H H'->Q (.int n) H'
theorem Qx {f:Addr} {fd:FuncData} (F:jX K "_law_draw" "_law_draw" jH f fd):cj P w K mg base jA 1 f fd ["spring","many"] (mQ K):=by
 refine F.ok vR (fun vs H Q E h=> ?_) (fun cdv A outer s H vs Q E hr h=> ?_)
 ·obtain ⟨r,m,rfl,_⟩:=h
  rfl
 ·obtain ⟨r,m,rfl,⟨f,t,c,hs,hf,ht,JL,hc⟩,m0,m1,k⟩:=h
  refine ⟨_,(aB (cG (aY Xp (aN (aX (K:=K) rfl) (pv 0) aC (fun _ _=>rfl)) aC (aR _)) (aB (bB (i:=2) vR.nd rfl (Or.inl rfl) (cP kO (aN (aX (K:=K) rfl) (pv 0) aC (fun _ _=>rfl)) (pv 1)))
   (aB (rY (cP HB (aN (aX (K:=K) rfl) (pv 0) aC (fun _ _=>rfl)) (pv 1)) (sG (pv 0) aC set_list))
   (aG (aZ (pv 2))))) bF)
   (aB (rY (cP iJ (aN (aX (K:=K) rfl) (pv 0) aC (fun _ _=>rfl)) aC) (sG (pv 0) aC set_list))
   (aB (bB (i:=3) vR.nd rfl (Or.inl rfl) (cP kO (cP zW (aN (aX (K:=K) rfl) (pv 0) aC (fun _ _=>rfl)) (aN (aX (K:=K) rfl) (pv 0) aC (fun _ _=>rfl))) aC))
   (aB (rY (cP kO (cP iJ (cP iJ (pv 3) (cP zW (cP zW aC (aN (aX (K:=K) rfl) (pv 0) aC (fun _ _=>rfl))) (aN (aX (K:=K) rfl) (pv 0) aC (fun _ _=>rfl)))) aC) aC) (sG (pv 0) aC set_list))
   (aG (aZ (cP kO (cP HB (aN (aX (K:=K) rfl) (pv 0) aC (fun _ _=>rfl)) aC) (pv 1)))))))), ?_⟩
  refine ⟨_,rfl,_,_,_,_,rfl,rfl,bH.of hs,rfl,_,_,rfl,rfl,_,rfl, ?_⟩;refine bQ (fun h0=> ?_) (fun h0=> ?_)
  ·
   refine ⟨_,rfl,_,_,_,_,rfl,rfl,bH.of hs,rfl,_,rfl,_,_,rfl,rfl,m0, ?_⟩;refine ⟨_,rfl,_,_,_,_,rfl,rfl,bH.of hs,rfl,_,rfl,_,_,rfl,rfl,⟨m0,m1⟩,_,rfl,_,_,_,_,rfl,rfl,hs,rfl, ?_⟩;refine ⟨_,rfl, ?_⟩;exact k _ _ (Int.emod_nonneg _ (by omega)) (Int.emod_lt_of_pos _ m0) ⟨_,_,_,aq,Int.ediv_nonneg hf (by omega),ht,JL,hc⟩ Kp.set
  ·
   refine ⟨_,rfl,_,_,_,_,rfl,rfl,bH.of hs,rfl,_,_,rfl,rfl,_,rfl,_,_,_,_,rfl,rfl,hs,rfl, ?_⟩;refine ⟨_,rfl,_,_,_,_,rfl,rfl,bH.of aq,rfl,_,rfl,_,_,_,_,rfl,rfl,bH.of aq,rfl,_,_,rfl,rfl,.inl ⟨by omega,by omega⟩,_,_,rfl,rfl,(by show (0:Int)<2305843009213693951;decide), ?_⟩
   refine ⟨_,rfl,_,rfl,_,_,_,_,rfl,rfl,bH.of aq,rfl,_,_,rfl,rfl,.inl ⟨by decide,by decide⟩,_,rfl,_,_,_,_,rfl,rfl,bH.of aq,rfl,_,_,rfl,rfl,.inr ⟨by omega,by omega⟩,_,_,rfl,rfl,_,_,rfl,rfl,_,_,rfl,rfl,(by show (0:Int)<2305843009213693951;decide),
    _,rfl,_,_,_,_,rfl,rfl,aq,rfl, ?_⟩
   refine ⟨_,rfl,_,_,_,_,rfl,rfl,bH.of aq,rfl,_,_,rfl,rfl,(by show ZD _ 65537;exact ⟨by decide,by decide⟩),_,rfl,_,_,rfl,rfl,m0, ?_⟩;refine k _ _ (Int.emod_nonneg _ (by omega)) (Int.emod_lt_of_pos _ m0) ⟨_,_,_,aq,hf,Int.emod_nonneg _ (by decide),Int.emod_lt_of_pos _ (by decide), ?_⟩ ?_
   ·show 0<=c+1
    omega
   ·rw [Pk]
    exact Kp.set
def vN (K:PySem.W.Frag):Sp:=fun vs H Q _=>∃(a:Addr) (ns:List Int),vs=[.ref a]/\bH K H a (ns.map V.int)/\ns.length<=63 /\ ∀(r:Addr) (H':Hp),H r=none->bC H' r->Same H H'->Q (.ref r) H'
theorem Gj:Builtin.Int.intBits ((10:Int) ^ ((60:Int).toNat))<=200:=PySem.intBits_le_iff.mpr (by decide)
theorem Jq {f:Addr} {fd:FuncData} (F:jX K "_law_spring" "_law_spring" gA f fd) (Bt:yX mg):cj P w K mg base jA 1 f fd ["script"] (vN K):=by
 refine F.ok jd (fun vs H Q E h=> ?_) (fun cdv A outer s H vs Q E hr h=> ?_)
 ·obtain ⟨a,ns,rfl,_⟩:=h
  rfl
 ·obtain ⟨a,ns,rfl,hs,hlen,k⟩:=h
  refine ⟨_,(aB (bB (i:=1) jd.nd rfl (Or.inl rfl) aC)
   (aB (bB (i:=2) jd.nd rfl (Or.inl rfl) aC)
   (aB (jQ PassesOwn.never rfl (dM (K:=K) rfl (Cg (Bu (K:=K) rfl) (pv 0) Hs (Hr aC))) (bJ (i:=3) jd.nd rfl (Or.inl rfl))
   (aB (cG (aY Rv (aQ Ds (by rfl) Bt.Sh Og (aj (pv 3) aA)) (cP Fj aC aC) (aR _)) (aG (bB (i:=1) jd.nd rfl (Or.inl rfl) (cP iJ (cP Ql (pv 1) (cP Fj aC aC)) (cP kO (aQ Ds (by rfl) Bt.Sh Og (aj (pv 3) aA)) (cP Fj aC aC))))) bF)
   (aG (bB (i:=2) jd.nd rfl (Or.inl rfl) (cP kO (cP iJ (cP iJ (cP zW (pv 2) aC) (cP kO (pv 3) aC)) aC) aC)))))
   (aG (aZ (fQ (aj (pv 1) (aj (pv 2) (aj aC aA))))))))), ?_⟩
  refine ⟨_,rfl,_,rfl,_,_,rfl,hs,fun p hp=> ?_⟩
  have afo:yc (ns.map V.int) none (some 63)=ns.map V.int:=by
   unfold yc;rw [HT.BL,show (some (63:Int))=some ((63:Nat):Int) from rfl,HT.G5,List.length_map,List.drop_zero,Nat.min_eq_right hlen,Nat.sub_zero,List.take_of_length_le (by simp)]
  rw [afo]
  refine ⟨p,rfl,⟨_,bH.of aq⟩,oG (K:=K) (a:=p) (xs:=ns.map V.int) (fun i σ H2=>∃(f t:Int) (v:Option V),σ=[some (.ref a),some (.int f),some (.int t),v]/\H2=upd H p (.lst (ns.map V.int))/\0<=f/\Builtin.Int.intBits f<=201*i/\0<=t/\t<2305843009213693951)
   ⟨0,88651,none,rfl,rfl,by decide,by decide,by decide,by decide⟩ (fun i σ H2 _ ⟨_,_,_,_,e,_⟩=>by rw [e];exact bH.of aq) ?_ ?_⟩
  ·rintro i y σ H2 hi ⟨f,t,v,rfl,rfl,hf,hb,ht,JL⟩
   have hil:i<ns.length:=by have:=(List.getElem?_eq_some_iff.mp hi).1;rwa [List.length_map] at this
   obtain ⟨z,rfl⟩:∃z,y=V.int z:=by
    rw [List.getElem?_map] at hi;cases e:ns[i]? with
    | none=>rw [e] at hi;cases hi
    | some z=>rw [e] at hi;exact ⟨z,(Option.some.inj hi).symm⟩
   refine ⟨_,rfl,_,rfl,_,_,rfl,rfl,(by show VN 10 18;exact ⟨by decide,by decide,by decide⟩),_,_,rfl,rfl,_,rfl, ?_⟩;have hcp:VN 10 60:=⟨by decide,by decide,by decide⟩;refine bQ (fun _=> ?_) (fun _=> ?_)
   ·have hmul:IntMulOk f ((10:Int) ^ ((60:Int).toNat)):=IntMulOk.of_le hb Gj (by omega)
    have hpos:(0:Int)<(10:Int) ^ ((60:Int).toNat):=by decide
    have habs:(0:Int)<=(if z<0 then -z else z) % ((10:Int) ^ ((60:Int).toNat)):=Int.emod_nonneg _ (Int.ne_of_gt hpos)
    have Yj:Builtin.Int.intBits ((if z<0 then -z else z) % ((10:Int) ^ ((60:Int).toNat)))<=200:=
     PySem.intBits_le_of_natAbs (y:=(10:Int) ^ ((60:Int).toNat)) (by have:=Int.emod_lt_of_pos (if z<0 then -z else z) hpos;omega) Gj
    refine ⟨_,rfl,_,_,rfl,rfl,hcp,_,_,rfl,rfl,hmul,_,rfl,_,rfl,_,_,rfl,rfl,hcp,_,_,rfl,rfl,hpos,_,_,rfl,rfl, ?_⟩;refine ⟨_,rfl,_,_,rfl,rfl,.inr ⟨by decide,by decide⟩,_,rfl,_,_,rfl,rfl,(by show (0:Int)<2305843009213693921;decide),_,_,rfl,rfl,_,_,rfl,rfl,_,_,rfl,rfl,(by show (0:Int)<2305843009213693951;decide), ?_⟩;refine ⟨_,_,_,rfl,rfl,Int.add_nonneg (Int.mul_nonneg hf (Int.le_of_lt hpos)) habs, ?_,Int.emod_nonneg _ (by decide),Int.emod_lt_of_pos _ (by decide)⟩;have q:=PySem.intBits_add_le (PySem.intBits_mul_le hb Gj) Yj;have:max (201*i+200) 200+1=201*(i+1):=by omega
    rw [this] at q;exact q
   ·refine ⟨_,rfl,_,_,rfl,rfl,.inr ⟨by decide,by decide⟩,_,rfl,_,_,rfl,rfl,(by show (0:Int)<2305843009213693921;decide),_,_,rfl,rfl,_,_,rfl,rfl,_,_,rfl,rfl,(by show (0:Int)<2305843009213693951;decide), ?_⟩
    exact ⟨_,_,_,rfl,rfl,hf,by omega,Int.emod_nonneg _ (by decide),Int.emod_lt_of_pos _ (by decide)⟩
  ·rintro σ H2 ⟨f,t,v,rfl,rfl,hf,hb,ht,JL⟩
   refine ⟨_,rfl,_,rfl,(by show 3<=sizeLine;decide),fun r hr'=> ?_⟩;exact k r _ ((aL hp).free hr') ⟨f,t,0,aq,hf,ht,JL,by decide⟩ ((aL hp).trans (aL hr'))
abbrev lq:=Int×Str×Int
def tD (x:lq):PyData:= .tuple [.int x.1,.str x.2.1,.int x.2.2]
theorem Ac (x:lq):Bg (tD x)=true:=rfl
theorem Q8 {H:Hp} {t:Addr} {x:lq} (h:H t=some (.tup [.int x.1,.str x.2.1,.int x.2.2])):Dat H (.ref t) (tD x):=by
 simp only [tD,Dat];exact ⟨t,_,rfl,h,by simp only [aO,Dat,and_self]⟩
def iu (H:Hp) (a:Addr) (ws:List lq):Prop:=∃vs,H a=some (.lst vs)/\aO H vs (ws.map tD)
theorem iu.same {H H':Hp} {a:Addr} {ws:List lq} (h:iu H a ws) (k:Same H H'):iu H' a ws:=by
 obtain ⟨vs,e,d⟩:=h;exact ⟨vs,k _ _ e,aO.keep k.tups _ (jo _ Ac ws) d⟩
theorem iu.kp {H H':Hp} {a r:Addr} {ws:List lq} {ys:List V} (h:iu H a ws) (hr:H r=some (.lst ys)) (k:Kp r H H') (n:a≠r):iu H' a ws:=by
 obtain ⟨vs,e,d⟩:=h;exact ⟨vs,k _ _ e n,aO.keep (k.tups hr) _ (jo _ Ac ws) d⟩
theorem iu.spr {H H':Hp} {a r:Addr} {ws:List lq} (h:iu H a ws) (hr:bC H r) (k:Kp r H H') (n:a≠r):iu H' a ws:=by
 obtain ⟨f,t,c,e,_⟩:=hr;exact h.kp e k n
theorem uf {H:Hp} {v:V} {x:lq} (h:Dat H v (tD x)):∃t,v = .ref t/\H t=some (.tup [.int x.1,.str x.2.1,.int x.2.2]):=by
 simp only [tD,Dat] at h;obtain ⟨t,vs,e,q,d⟩:=h
 match vs,d with
 | [a,b,c],d=>
   simp only [aO,Dat,and_true] at d;obtain ⟨rfl,rfl,rfl⟩:=d;exact ⟨t,e,q⟩
 | [],d=>simp only [aO] at d
 | [_],d=>simp only [aO,and_false] at d
 | [_,_],d=>simp only [aO,and_false] at d
 | _::_::_::_::_,d=>simp only [aO,and_false] at d
theorem uP {H:Hp} {a:Addr} {ws:List lq} {i:Nat} {x:lq} (h:iu H a ws) (e:ws[i]? = some x):∃vs t,H a=some (.lst vs)/\vs[i]? = some (.ref t)/\H t=some (.tup [.int x.1,.str x.2.1,.int x.2.2]):=by
 obtain ⟨vs,ha,d⟩:=h;obtain ⟨v,ev,dv⟩:=d.getD (i:=i) (d:=tD x) (by rw [List.getElem?_map,e];rfl);obtain ⟨t,rfl,ht⟩:=uf dv;exact ⟨vs,t,ha,ev,ht⟩
def mt (x y:lq):Bool:=if x.1=y.1 then false else if x.2.2=y.2.2 then (if x.2.1 = "load" then !decide (y.2.1 = "load") else true) else false
def Jf (K:PySem.W.Frag):Sp:=fun vs H Q _=>∃(a b:Addr) (x y:lq),vs=[.ref a,.ref b]/\H a=some (.tup [.int x.1,.str x.2.1,.int x.2.2])/\H b=some (.tup [.int y.1,.str y.2.1,.int y.2.2])/\Q (.bl (mt x y)) H
theorem HN {K:PySem.W.Frag} {a b:Addr} {x y:lq} {H:Hp} {Q:VK} (ha:H a=some (.tup [.int x.1,.str x.2.1,.int x.2.2])) (hb:H b=some (.tup [.int y.1,.str y.2.1,.int y.2.2])) (k:Q (.bl (mt x y)) H) {D:Ends} (hD:D.rt=Q):
 (Pn (WT (tOr (K9 (GR rEq (GR (Ca K) (Bp 0) (tC (.int 0))) (GR (Ca K) (Bp 1) (tC (.int 0))))) (K9 (GR ZW (GR (Ca K) (Bp 0) (tC (.int 2))) (GR (Ca K) (Bp 1) (tC (.int 2)))))) (Tp (tC (.bl false))) K_)
   (Tp (WM (GR ZW (GR (Ca K) (Bp 0) (tC (.int 1))) (tC (.str "load"))) (GR ZW (GR (Ca K) (Bp 1) (tC (.int 1))) (tC (.str "load")))))) D [some (.ref a),some (.ref b)] H:=by
 refine ⟨_,rfl,_,_,_,_,rfl,rfl,dg.of ha,rfl,_,rfl,_,_,_,_,rfl,rfl,dg.of hb,rfl,rfl,_,rfl, ?_⟩;refine bQ (fun h1=> ?_) (fun h1=> ?_)
 ·have e:x.1=y.1:=by injection (of_decide_eq_true h1)
  have em:mt x y=false:=by unfold mt;rw [if_pos e]
  refine (show D.rt (.bl false) H from ?_);rw [hD,←em];exact k
 ·have e:¬x.1=y.1:=fun z=>h1 (decide_eq_true (by rw [z]))
  refine ⟨_,rfl,_,_,_,_,rfl,rfl,dg.of ha,rfl,_,rfl,_,_,_,_,rfl,rfl,dg.of hb,rfl,rfl,_,rfl, ?_⟩
  by_cases e2:x.2.2=y.2.2
  ·refine qM (by rw [e2]) ?_
   refine ⟨_,rfl,_,_,_,_,rfl,rfl,dg.of ha,rfl,rfl,_,rfl, ?_⟩
   by_cases e3:x.2.1 = "load"
   ·refine qM (by rw [e3]) ?_
    refine ⟨_,rfl,_,_,_,_,rfl,rfl,dg.of hb,rfl,rfl, ?_⟩
    have em:mt x y = !decide (V.str y.2.1=V.str "load"):=by
     unfold mt;rw [if_neg e,if_pos e2,if_pos e3];congr 1;rw [Bool.eq_iff_iff,decide_eq_true_iff,decide_eq_true_iff];exact ⟨fun z=>by rw [z],fun z=>by injection z⟩
    rw [←em,hD];exact k
   ·have ne:¬V.str x.2.1=V.str "load" :=fun z=>e3 (by injection z)
    rw [decide_eq_false ne];refine iK ?_;have em:mt x y=true:=by unfold mt;rw [if_neg e,if_pos e2,if_neg e3]
    rw [←em,hD];exact k
  ·have ne:¬V.int x.2.2=V.int y.2.2:=fun z=>e2 (by injection z)
   rw [decide_eq_false ne];refine iK ?_;have em:mt x y=false:=by unfold mt;rw [if_neg e,if_neg e2]
   refine (show D.rt (.bl false) H from ?_);rw [hD,←em];exact k
theorem uw {f:Addr} {fd:FuncData} (F:jX K "touches_meet" "touches_meet" cJ f fd):cj P w K mg base jA 1 f fd ["one","other"] (Jf K):=by
 refine F.ok uo (fun vs H Q E h=> ?_) (fun cdv A outer s H vs Q E hr h=> ?_)
 ·obtain ⟨a,b,x,y,rfl,_⟩:=h
  rfl
 ·obtain ⟨a,b,x,y,rfl,ha,hb,k⟩:=h
  exact ⟨_,(aB (cG (PW.pt (tW (aY cU (aN (aP (K:=K) rfl) (pv 0) aC (fun _ _=>rfl)) (aN (aP (K:=K) rfl) (pv 1) aC (fun _ _=>rfl)) (aR _)) (pQ (aY oh (aN (aP (K:=K) rfl) (pv 0) aC (fun _ _=>rfl)) (aN (aP (K:=K) rfl) (pv 1) aC (fun _ _=>rfl)) (aR _))))) (aG (aZ j4)) bF)
   (aG (aZ (Hw (d7 oh (aN (aP (K:=K) rfl) (pv 0) aC (fun _ _=>rfl)) bA (aR _)) (mU (d7 oh (aN (aP (K:=K) rfl) (pv 1) aC (fun _ _=>rfl)) bA (aR _))))))),HN (K:=K) ha hb k rfl⟩
theorem Jv {f:Addr} {fd:FuncData} (F:jX K "_law_meets" "_law_meets" iH f fd):cj P w K mg base jA 1 f fd ["one","other"] (Jf K):=by
 refine F.ok Jj (fun vs H Q E h=> ?_) (fun cdv A outer s H vs Q E hr h=> ?_)
 ·obtain ⟨a,b,x,y,rfl,_⟩:=h
  rfl
 ·obtain ⟨a,b,x,y,rfl,ha,hb,k⟩:=h
  exact ⟨_,(aB (cG (PW.pt (tW (aY cU (aN (aP (K:=K) rfl) (pv 0) aC (fun _ _=>rfl)) (aN (aP (K:=K) rfl) (pv 1) aC (fun _ _=>rfl)) (aR _)) (pQ (aY oh (aN (aP (K:=K) rfl) (pv 0) aC (fun _ _=>rfl)) (aN (aP (K:=K) rfl) (pv 1) aC (fun _ _=>rfl)) (aR _))))) (aG (aZ j4)) bF)
   (aG (aZ (Hw (d7 oh (aN (aP (K:=K) rfl) (pv 0) aC (fun _ _=>rfl)) bA (aR _)) (mU (d7 oh (aN (aP (K:=K) rfl) (pv 1) aC (fun _ _=>rfl)) bA (aR _))))))),HN (K:=K) ha hb k rfl⟩
def W3 (ws:List lq) (i j:Nat):Bool:=match ws[i]?,ws[j]? with |some x,some y=>decide (x.1=y.1)||mt x y|_,_=>false
def mO (ws:List lq) (i j:Nat):Bool:=decide (i<j)&&W3 ws i j
theorem Eo {ws:List lq} {i j:Nat} (h:mO ws i j=true):i<j/\j<ws.length:=by
 unfold mO W3 at h;simp only [Bool.and_eq_true,decide_eq_true_eq] at h;refine ⟨h.1, ?_⟩
 by_cases l:j<ws.length
 ·exact l
 ·have e:ws[j]? = none:=by simp;(clear h;omega)
  rw [e] at h;cases ws[i]? <;> simp at h
theorem uY {vs:List V} {i:Nat} {v:V} (h:vs[i]? = some v):uM vs (i:Int)=some v:=d_ h
def Et (K:PySem.W.Frag):Sp:=fun vs H Q _=>∃(a:Addr) (ws:List lq) (i j:Nat),vs=[.ref a,.int i,.int j]/\iu H a ws/\i<ws.length/\j<ws.length/\Q (.bl (mO ws i j)) H
theorem Fq {f:Addr} {fd:FuncData} (F:jX K "is_step" "is_step" gq f fd) (xP:FnAt P w K mg base 1 "touches_meet" ["one","other"] (Jf K)):cj P w K mg base jA 2 f fd ["web","place","later"] (Et K):=by
 refine F.ok EY (fun vs H Q E h=> ?_) (fun cdv A outer s H vs Q E hr h=> ?_)
 ·obtain ⟨a,ws,i,j,rfl,_⟩:=h
  rfl
 ·obtain ⟨a,ws,i,j,rfl,W,hi,hj,k⟩:=h
  refine ⟨_,(aB (cG (aY Rv (pv 1) (pv 2) (aR _)) (aG (aZ j4)) bF)
   (aG (aZ (Hw (d7 cU (aN (aP (K:=K) rfl) (aN (aX (K:=K) rfl) (pv 0) (pv 1) (fun _ _=>rfl)) aC (fun _ _=>rfl)) (aN (aP (K:=K) rfl) (aN (aX (K:=K) rfl) (pv 0) (pv 2) (fun _ _=>rfl)) aC (fun _ _=>rfl)) (aR _)) (mU (bM xP (hr.mono (by decide)) (by rfl) (aj (aN (aX (K:=K) rfl) (pv 0) (pv 1) (fun _ _=>rfl)) (aj (aN (aX (K:=K) rfl) (pv 0) (pv 2) (fun _ _=>rfl)) aA)))))))), ?_⟩
  refine ⟨_,rfl,_,rfl,_,_,rfl,rfl,_,rfl, ?_⟩
  by_cases l:i<j
  ·rw [decide_eq_false (show ¬(j:Int)<=(i:Int) by omega)]
   refine iy ?_;obtain ⟨x,ex⟩:∃x,ws[i]? = some x:=⟨ws[i],by simp [hi]⟩;obtain ⟨y,ey⟩:∃y,ws[j]? = some y:=⟨ws[j],by simp [hj]⟩;obtain ⟨vs,t1,ha,e1,ht1⟩:=uP W ex;obtain ⟨vs',t2,ha',e2,JL⟩:=uP W ey;have ev:vs=vs':=by rw [ha] at ha';injection ha' with q;injection q
   subst ev;have es:mO ws i j=(decide (x.1=y.1)||mt x y):=by unfold mO W3;rw [ex,ey,decide_eq_true l,Bool.true_and]
   refine ⟨_,rfl,_,rfl,_,_,_,_,rfl,rfl,bH.of ha,uY e1,_,_,_,_,rfl,rfl,dg.of ht1,rfl,_,rfl,_,rfl,_,_,_,_,rfl,rfl,bH.of ha,uY e2,_,_,_,_,rfl,rfl,dg.of JL,rfl,rfl,_,rfl, ?_⟩
   by_cases q:x.1=y.1
   ·rw [show decide (V.int x.1=V.int y.1)=true by simp [q]]
    refine iK ?_;rw [decide_eq_true q,Bool.true_or] at es;rw [←es];exact k
   ·rw [show decide (V.int x.1=V.int y.1)=false by simp [q]]
    refine iy ?_;rw [decide_eq_false q,Bool.false_or] at es;exact ⟨_,rfl,_,rfl,_,_,_,_,rfl,rfl,bH.of ha,uY e1,_,rfl,_,rfl,_,_,_,_,rfl,rfl,bH.of ha,uY e2,t1,t2,x,y,rfl,ht1,JL,by rw [←es];exact k⟩
  ·rw [decide_eq_true (show (j:Int)<=(i:Int) by omega)]
   refine iK ?_;have es:mO ws i j=false:=by unfold mO;rw [decide_eq_false l,Bool.false_and]
   rw [←es];exact k
def zA (K:PySem.W.Frag):Sp:=fun vs H Q _=>∃(a b:Addr) (x y:lq),vs=[.ref a,.ref b]/\H a=some (.tup [.int x.1,.str x.2.1,.int x.2.2])/\H b=some (.tup [.int y.1,.str y.2.1,.int y.2.2])/\Q (.bl (decide (x.1=y.1)||mt x y)) H
theorem Mx {f:Addr} {fd:FuncData} (F:jX K "_law_step" "_law_step" jE f fd) (Ox:FnAt P w K mg base 1 "_law_meets" ["one","other"] (Jf K)):cj P w K mg base jA 2 f fd ["one","other"] (zA K):=by
 refine F.ok Li (fun vs H Q E h=> ?_) (fun cdv A outer s H vs Q E hr h=> ?_)
 ·obtain ⟨a,b,x,y,rfl,_⟩:=h
  rfl
 ·obtain ⟨a,b,x,y,rfl,ha,hb,k⟩:=h
  refine ⟨_,(aG (aZ (Hw (d7 cU (aN (aP (K:=K) rfl) (pv 0) aC (fun _ _=>rfl)) (aN (aP (K:=K) rfl) (pv 1) aC (fun _ _=>rfl)) (aR _)) (mU (bM Ox (hr.mono (by decide)) (by rfl) (aj (pv 0) (aj (pv 1) aA))))))), ?_⟩;refine ⟨_,rfl,_,_,_,_,rfl,rfl,dg.of ha,rfl,_,rfl,_,_,_,_,rfl,rfl,dg.of hb,rfl,rfl,_,rfl, ?_⟩
  by_cases q:x.1=y.1
  ·rw [show decide (V.int x.1=V.int y.1)=true by simp [q]]
   rw [decide_eq_true q,Bool.true_or] at k;exact iK k
  ·rw [show decide (V.int x.1=V.int y.1)=false by simp [q]]
   rw [decide_eq_false q,Bool.false_or] at k;exact iy ⟨_,rfl,_,rfl,a,b,x,y,rfl,ha,hb,k⟩
def xT (i:Int) (n:Nat):Prop:=0<=i/\i<(n:Int)
instance (i:Int) (n:Nat):Decidable (xT i n):=inferInstanceAs (Decidable (_/\_))
def TJ (K:PySem.W.Frag):Sp:=fun vs H Q _=>∃i:Int,vs=[.int i]/\Q (.bl true) H
theorem Cr {f:Addr} {fd:FuncData} (F:jX K "is_whole" "is_whole" fD f fd) (Bt:yX mg):cj P w K mg base jA 1 f fd ["value"] (TJ K):=by
 refine F.ok Bw (fun vs H Q E h=> ?_) (fun cdv A outer s H vs Q E hr h=> ?_)
 ·obtain ⟨i,rfl,_⟩:=h
  rfl
 ·obtain ⟨i,rfl,k⟩:=h
  refine ⟨_,(aG (aZ (v7 (aQ (dR (K:=K) (cv:= .ty "int") (c:= .type "int") rfl rfl) (by rfl) Bt.cg bR (aj (pv 0) (aj (gC (v:= .ty "int") (by rfl) Bt.Dz wV rfl) aA))) (mU (Ui (aQ (dR (K:=K) (cv:= .ty "bool") (c:= .type "bool") rfl rfl) (by rfl) Bt.cg bR (aj (pv 0) (aj (gC (v:= .ty "bool") (by rfl) Bt.Gr Aq rfl) aA)))))))), ?_⟩;refine ⟨_,rfl,_,_,true,rfl,.int i,C_ K,true,rfl, ?_⟩;refine iK ?_;exact ⟨_,rfl,_,_,false,rfl,.int i,mY K,false,rfl,k⟩
def qy (K:PySem.W.Frag):Sp:=fun vs H Q _=>∃(i:Int) (n:Nat),vs=[.int i,.int n]/\Q (.bl (decide (xT i n))) H
theorem Cv {f:Addr} {fd:FuncData} (F:jX K "is_below" "is_below" fH f fd) (GC:FnAt P w K mg base 1 "is_whole" ["value"] (TJ K)):cj P w K mg base jA 2 f fd ["value","count"] (qy K):=by
 refine F.ok BJ (fun vs H Q E h=> ?_) (fun cdv A outer s H vs Q E hr h=> ?_)
 ·obtain ⟨i,n,rfl,_⟩:=h
  rfl
 ·obtain ⟨i,n,rfl,k⟩:=h
  refine ⟨_,(aG (aZ (v7 (bM GC (hr.mono (by decide)) (by rfl) (aj (pv 0) aA)) (mU (Mf Xo Cp aC (pv 0) (pv 1)))))), ?_⟩;refine ⟨_,rfl,i,rfl,true,rfl, ?_⟩;refine iK ?_;refine ⟨_,rfl,_,_,rfl,rfl,_,rfl, ?_⟩;refine bQ (fun h0=> ?_) (fun h0=> ?_)
  ·refine ⟨_,rfl,_,_,rfl,rfl, ?_⟩
   have e:decide (xT i n)=decide (i<(n:Int)):=by
    have h0:=of_decide_eq_true h0;rw [Bool.eq_iff_iff,decide_eq_true_iff,decide_eq_true_iff];exact ⟨fun z=>z.2,fun z=>⟨h0,z⟩⟩
   show Q (.bl (decide (i<(n:Int)))) H;rw [←e];exact k
  ·have e:decide (xT i n)=false:=decide_eq_false fun z=>h0 (decide_eq_true z.1)
   rw [←e];exact k
theorem Aj (x y:Int):PyData.eqv (.int x) (.int y)=decide (x=y):=by
 simp only [PyData.eqv];rw [Bool.eq_iff_iff];simp
theorem gQ {H:Hp} {a:Addr} {ns:List Int} (h:H a=some (.lst (ns.map V.int))):Dat H (.ref a) (.list (ns.map PyData.int)):=wL h (aO.ints ns)
theorem shaped_ints (ns:List Int):SeqAt.shaped (.list (ns.map PyData.int))=true:=Bv PyData.int 0 (by decide) (fun _ _=>rfl) (fun _ _=>by show 0<=0;decide)
def gI (cs:List Int) (h:Int):Int:=(cs[h.toNat]?).getD 0
theorem Gs {cs:List Int} {h:Int} (h0:0<=h) (h1:h<cs.length):uM (cs.map V.int) h=some (.int (gI cs h)):=by
 obtain ⟨m,rfl⟩:=Int.eq_ofNat_of_zero_le h0;have:m<cs.length:=by omega
 refine d_ ?_;simp [gI,this]
theorem Vf {cs:List Int} {i:Nat} {c:Int} (h:cs[i]? = some c):gI cs i=c:=by simp [gI,h]
theorem Ia {n:Nat} {i:Int} (h0:0<=i) (h1:i<n):Ib n i=some i.toNat:=by unfold Ib;rw [if_pos h0,if_pos h1]
theorem Nz {cs:List Int} {h k v:Int} (h0:0<=h) (h1:h<cs.length) (k0:0<=k):gI (cs.set h.toNat v) k=if k=h then v else gI cs k:=by
 unfold gI;rw [List.getElem?_set]
 by_cases e:k=h
 ·subst e
  have:k.toNat<cs.length:=by omega
  simp [this]
 ·have:¬h.toNat=k.toNat:=by omega
  simp [e,this]
def LI (H:Hp) (a:Addr) (os:List Int):Prop:=H a=some (.lst (os.map V.int))
def zQ (n:Nat):List Int:=(List.range n).map fun k:Nat=>(k:Int)
def t_ (n:Nat) (os:List Int):Bool:=os.isPerm (zQ n)
theorem oX {n:Nat} {os:List Int}:t_ n os=true↔os.Perm (zQ n):=List.isPerm_iff
theorem CK {n:Nat} {x:Int}:x∈zQ n↔xT x n:=by
 unfold zQ xT;rw [List.mem_map];constructor
 ·rintro ⟨k,hk,rfl⟩
  rw [List.mem_range] at hk;omega
 ·rintro ⟨h0,h1⟩
  exact ⟨x.toNat,by rw [List.mem_range];omega,by omega⟩
theorem BX (n:Nat):(zQ n).Pairwise (fun x y:Int=>x<=y):=by
 unfold zQ;rw [List.pairwise_map];exact (List.pairwise_lt_range (n:=n)).imp fun h=>by omega
theorem Jg {n:Nat} {os ms:List Int} (p:ms.Perm os) (s:ms.Pairwise (fun x y:Int=>x<=y)):decide (ms=zQ n)=t_ n os:=by
 rw [Bool.eq_iff_iff,decide_eq_true_iff,oX];constructor
 ·intro e
  rw [←e];exact p.symm
 ·intro q
  exact List.Perm.eq_of_pairwise (le:=fun x y:Int=>x<=y) (fun a b _ _ h1 h2=>Int.le_antisymm h1 h2) s (BX n) (p.trans q)
theorem Mh {n:Nat} {os:List Int} (o:t_ n os=true) {i:Nat} {x:Int} (e:os[i]? = some x):xT x n:=CK.mp ((oX.mp o).mem_iff.mp (List.mem_of_getElem? e))
def rM (K:PySem.W.Frag):Sp:=fun vs H Q _=>∃(a b:Addr) (ws:List lq) (os:List Int),vs=[.ref a,.ref b]/\iu H a ws/\ws.length<=300/\LI H b os/\os.length<=1000 /\ ∀H',Same H H'->Q (.bl (t_ ws.length os)) H'
theorem Cu {f:Addr} {fd:FuncData} (F:jX K "is_order" "is_order" fG f fd) (jW:FnAt P w K mg base 2 "is_below" ["value","count"] (qy K)) (Bt:yX mg):cj P w K mg base jA 3 f fd ["web","order"] (rM K):=by
 refine F.ok Bx (fun vs H Q E h=> ?_) (fun cdv A outer s H vs Q E hr h=> ?_)
 ·obtain ⟨a,b,ws,os,rfl,_⟩:=h
  rfl
 ·obtain ⟨a,b,ws,os,rfl,W,wl,B,ol,k⟩:=h
  have FQ:=hr.units
  refine ⟨_,(aB (cG (PW.pt (tW (jP (iI (aQ (dR (K:=K) (cv:= .ty "list") (c:= .type "list") rfl rfl) (by rfl) Bt.cg bR (aj (pv 1) (aj (gC (v:= .ty "list") (by rfl) Bt.iQ fV rfl) aA))))) (pQ (jP (iI (aQ (jy (K:=K) rfl rfl) (by rfl) Bt.Oo Gi (aj (gZ rfl (N:=["place","web"]) (own:=["place"]) (caps:=[0]) (bw.of (by kernel_rfl)) (dM (K:=K) rfl (pv 1)) (fun _ _ _ _=>(bJ (i:=0) (show List.Nodup (["place","web"]:List Str) by decide +kernel) rfl (Or.inl rfl))) (fun _ _ _ _=>dZ) (fun _ _ _ _=>(bM jW (hr.mono (by decide)) (by rfl) (aj (pv 0) (aj (aQ (bh (K:=K) rfl) (by rfl) Bt.gR eN (aj (pv 1) aA)) aA))))) aA))))))) (aG (aZ j4)) bF)
   (aG (aZ (d7 (HD (K:=K) rfl FQ) (aQ (Dr (K:=K) rfl) (by rfl) Bt.Om J6 (aj (pv 1) aA)) (Cj rfl (by rfl) Bt.iQ (by rfl) Bt.fW (aj (aQ (bh (K:=K) rfl) (by rfl) Bt.gR eN (aj (pv 0) aA)) aA)) (aR _))))), ?_⟩
  obtain ⟨vs,ha,dv⟩:=W;have Eh:vs.length=ws.length:=by rw [dv.length,List.length_map]
  refine ⟨_,rfl,_,_,true,rfl,.lst B,gP K,_,rfl, ?_⟩;refine iy ?_;refine ⟨_,rfl,b,rfl,⟨_,bH.of B⟩,fun D hD=> ?_⟩;refine lN (K:=K) (a:=b) (xs:=os.map V.int) (fun i=>(os[i]?).map fun x=>V.bl (decide (xT x ws.length))) hD (bH.of B) (by rw [List.length_map];omega) (fun i x H1 G F hi s1 kG kF=> ?_) (fun H1 s1 e1=> ?_)
  ·rw [List.getElem?_map] at hi
   cases e:os[i]? with
   | none=>rw [e] at hi;cases hi
   | some z=>
     rw [e] at hi;cases hi;exact ⟨_,rfl,_,rfl,a,_,rfl,.inl (bH.of (s1 _ _ ha)),z,ws.length,by rw [Eh];rfl,kF _ _ (Same.refl _) (by rw [e];rfl)⟩
  ·rw [List.length_map,qQ] at e1
   have e1':H1 D=some (.lst ((os.map fun x=>decide (xT x ws.length)).map V.bl)):=by rw [e1,List.map_map];rfl
   refine ⟨D,_,rfl,bH.of e1',_,rfl, ?_⟩;cases hall:(os.map fun x=>decide (xT x ws.length)).all id with
   | false=>
     refine (show if true=true then _ else _ from iK ?_)
     have e:t_ ws.length os=false:=by
      cases q:t_ ws.length os with
      | false=>rfl
      | true=>
        rw [oX] at q;rw [List.all_eq_false] at hall;obtain ⟨x,hx,nx⟩:=hall;rw [List.mem_map] at hx;obtain ⟨y,hy,rfl⟩:=hx;exact absurd (decide_eq_true (CK.mp (q.mem_iff.mp hy))) nx
     have kk:=k H1 s1;rw [e] at kk;exact kk
   | true=>
     refine (show if false=true then _ else _ from iy ?_);refine ⟨_,rfl,b,os,rfl,bH.of (s1 _ _ B),fun l ms hl pm sm=> ?_⟩;have s2:=aL (o:=HO.lst (ms.map V.int)) hl;refine ⟨_,rfl,a,_,rfl,.inl (bH.of (s2 _ _ (s1 _ _ ha))),ws.length,by rw [Eh],by omega,fun l2 hl2=> ?_⟩;have s3:=aL (o:=HO.lst ((zQ ws.length).map V.int)) hl2;refine ⟨_,_,gQ (s3 _ _ aq),gQ (ns:=zQ ws.length) aq,shaped_ints _,shaped_ints _, ?_⟩;have kk:=k _ ((s1.trans s2).trans s3);rw [←Jg pm sm] at kk;rw [wI PyData.int Aj];exact kk
def VJ (ws:List lq) (os:List Int):Prop:=∀(k l:Nat) (p q:Int),k<l->os[k]? = some p->os[l]? = some q->mO ws q.toNat p.toNat=false
def zy (K:PySem.W.Frag):Sp:=fun vs H Q _=>∃(a b:Addr) (ws:List lq) (os:List Int),vs=[.ref a,.ref b]/\iu H a ws/\ws.length<=300/\LI H b os/\os.length<=1000/\t_ ws.length os=true /\ ∀(r:Bool) H',(r=true↔VJ ws os)->Same H H'->Q (.bl r) H'
theorem Mr {f:Addr} {fd:FuncData} (F:jX K "same_run" "same_run" fB f fd) (GD:FnAt P w K mg base 3 "is_order" ["web","order"] (rM K)) (Kd:FnAt P w K mg base 2 "is_step" ["web","place","later"] (Et K)) (Bt:yX mg):cj P w K mg base jA 4 f fd ["web","order"] (zy K):=by
 refine F.ok nY (fun vs H Q E h=> ?_) (fun cdv A outer s H vs Q E hr h=> ?_)
 ·obtain ⟨a,b,ws,os,rfl,_⟩:=h
  rfl
 ·obtain ⟨a,b,ws,os,rfl,W,wl,B,ol,ho,k1⟩:=h
  refine ⟨_,(aB (cG (jP (iI (bM GD (hr.mono (by decide)) (by rfl) (aj (pv 0) (aj (pv 1) aA))))) (aG Ls) bF)
   (aB (jQ PassesOwn.never rfl (LQ (K:=K) rfl (by rfl) Bt.DG (aj (pv 1) aA)) (Hv (K:=K) (n:=2) rfl rfl (qH (bJ (i:=2) nY.nd rfl (Or.inl rfl)) (qH (bJ (i:=3) nY.nd rfl (Or.inr rfl)) Hu)))
   (aG (cG (iI (aQ (uF (K:=K) rfl rfl) (by rfl) Bt.Zk Vu (aj (gZ rfl (N:=["behind","web","place"]) (own:=["behind"]) (caps:=[0,3]) (bw.of (by kernel_rfl)) (dM (K:=K) rfl (Cg (Bu (K:=K) rfl) (pv 1) (Hr (cP iJ (pv 2) aC)) Hs)) (fun _ _ _ _=>(bJ (i:=0) (show List.Nodup (["behind","web","place"]:List Str) by decide +kernel) rfl (Or.inl rfl))) (fun _ _ _ _=>dZ) (fun _ _ _ _=>(bM Kd (hr.mono (by decide)) (by rfl) (aj (pv 1) (aj (pv 0) (aj (pv 2) aA)))))) aA))) (aG (aZ j4)) bF)))
   (aG (aZ j4)))), ?_⟩
  refine ⟨_,rfl,_,rfl,a,b,ws,os,rfl,W,wl,B,ol,fun H1 s1=> ?_⟩;refine ⟨_,rfl, ?_⟩;rw [ho];refine (show if false=true then _ else _ from iy ?_)
  ·have B1:LI H1 b os:=s1 _ _ B
   have W1:=W.same s1;refine ⟨_,rfl,b,_,rfl,bH.of B1, ?_⟩
   refine NK (K:=K) (a:=b) (xs:=os.map V.int) (fun i σ H2=>∃(x1 x2:Option V),σ=[some (.ref a),some (.ref b),x1,x2]/\Same H1 H2 /\ ∀(k l:Nat) (p q:Int),k<i->k<l->os[k]? = some p->os[l]? = some q->mO ws q.toNat p.toNat=false)
    ⟨none,none,rfl,Same.refl _,fun k l p q h=>absurd h (Nat.not_lt_zero _)⟩ (fun i σ H2 _ ⟨_,_,_,sm,_⟩=>bH.of (sm _ _ B1)) ?_ ?_
   ·rintro i y σ H2 t hi ⟨x1,x2,rfl,sm,inv⟩ ht
    rw [List.getElem?_map] at hi;cases e:os[i]? with
    | none=>rw [e] at hi;cases hi
    | some z=>
      rw [e] at hi;cases hi;have hil:i<os.length:=(List.getElem?_eq_some_iff.mp e).1;obtain ⟨z0,z1⟩:=Mh ho e;have st:=aL (o:=HO.tup [V.int (i:Int),V.int z]) ht;have smt:=sm.trans st;refine ⟨t,_,rfl,dg.of aq,rfl,_,_,rfl,_,_,rfl,rfl, ?_⟩;refine ⟨_,rfl,_,rfl,_,_,rfl,rfl,_,rfl,b,_,rfl,bH.of (smt _ _ B1),fun p hp=> ?_⟩;have sp:=aL (o:=HO.lst (yc (os.map V.int) (some ((i:Int)+1)) none)) hp
      have afC:yc (os.map V.int) (some ((i:Int)+1)) none=(os.drop (i+1)).map V.int:=by
       rw [show (i:Int)+1=((i+1:Nat):Int) by omega,N8,List.map_drop]
      rw [afC] at sp ⊢;refine ⟨p,rfl,⟨_,bH.of aq⟩,fun D hD=> ?_⟩;refine lN (K:=K) (a:=p) (xs:=(os.drop (i+1)).map V.int) (fun j=>(os.drop (i+1))[j]?.map fun x=>V.bl (mO ws x.toNat z.toNat)) hD (bH.of aq) (by rw [List.length_map,List.length_drop];omega) (fun j x H3 G F hj s3 kG kF=> ?_) (fun H3 s3 e3=> ?_)
      ·rw [List.getElem?_map] at hj
       cases ej:(os.drop (i+1))[j]? with
       | none=>rw [ej] at hj;cases hj
       | some v=>
         rw [ej] at hj;cases hj;rw [List.getElem?_drop] at ej;obtain ⟨v0,v1⟩:=Mh ho ej;exact ⟨_,rfl,_,rfl,_,rfl,a,ws,v.toNat,z.toNat,by rw [Int.toNat_of_nonneg v0,Int.toNat_of_nonneg z0];rfl,(W1.same smt).same (sp.trans s3),by omega,by omega,kF _ _ (Same.refl _) (by rw [List.getElem?_drop,ej];rfl)⟩
      ·rw [List.length_map,qQ] at e3
       have e3':H3 D=some (.lst (((os.drop (i+1)).map fun x=>mO ws x.toNat z.toNat).map V.bl)):=by rw [e3,List.map_map];rfl
       refine ⟨D,_,rfl,bH.of e3',_,rfl, ?_⟩;have sA:=(smt.trans sp).trans s3;cases hany:((os.drop (i+1)).map fun x=>mO ws x.toNat z.toNat).any id with
       | true=>
         refine (show if true=true then _ else _ from iK ?_);refine k1 false _ ⟨fun h=>Bool.noConfusion h,fun kp=> ?_⟩ (s1.trans sA);rw [List.any_eq_true] at hany;obtain ⟨x,hx,ex⟩:=hany;rw [List.mem_map] at hx;obtain ⟨y,hy,rfl⟩:=hx;obtain ⟨j,hj⟩:=List.getElem?_of_mem hy;rw [List.getElem?_drop] at hj;have:=kp i (i+1+j) z y (by omega) e hj;rw [this] at ex;cases ex
       | false=>
         refine (show if false=true then _ else _ from iy ?_);refine ⟨_,_,rfl,sA,fun k l p' q hk hkl ep eq=> ?_⟩
         by_cases hki:k<i
         ·exact inv k l p' q hki hkl ep eq
         ·have:k=i:=by omega
          subst this;rw [e] at ep;cases ep;rw [List.any_eq_false] at hany;have:=hany (mO ws q.toNat z.toNat) (List.mem_map.mpr ⟨q,List.mem_of_getElem? (i:=l - (k+1)) (by rw [List.getElem?_drop,show k+1+(l - (k+1))=l by omega];exact eq),rfl⟩);simpa using this
   ·rintro σ H2 ⟨x1,x2,rfl,sm,inv⟩
    rw [List.length_map] at inv;exact k1 true _ ⟨fun _ k l p q hkl ep eq=>inv k l p q (List.getElem?_eq_some_iff.mp ep).1 hkl ep eq,fun _=>rfl⟩ (s1.trans sm)
theorem LI.kp {H H':Hp} {a r:Addr} {os:List Int} (h:LI H a os) (k:Kp r H H') (n:a≠r):LI H' a os:=k _ _ h n
theorem Ep {H:Hp} {r p:Addr} (S:bC H r) (hp:H p=none):p≠r:=by
 obtain ⟨f,t,c,e,_⟩:=S;exact (aD e hp).symm
def cW (ws:List lq) (os:List Nat) (j:Nat):Nat->Nat
 | 0=>0
 | m+1=>cW ws os j m+(if mO ws m j=true/\m∉os then 1 else 0)
theorem uX {ws:List lq} {os:List Nat} {x:Nat} (hx:x∉os) (j:Nat):∀m,cW ws (os++[x]) j m+(if x<m/\mO ws x j=true then 1 else 0)=cW ws os j m
 | 0=>by simp [cW]
 | m+1=>by
   have ih:=uX (ws:=ws) hx j m;unfold cW
   by_cases e:m=x
   ·subst e
    rw [if_neg (show ¬(m<m/\mO ws m j=true) by omega)] at ih;cases hs:mO ws m j with
    | true=>
      rw [if_neg (show ¬(true=true/\m∉os++[m]) by simp),if_pos (show m<m+1/\true=true by simp),if_pos (show true=true/\m∉os by simp [hx])];omega
    | false=>
      rw [if_neg (show ¬(false=true/\m∉os++[m]) by simp),if_neg (show ¬(m<m+1/\false=true) by simp),if_neg (show ¬(false=true/\m∉os) by simp)];omega
   ·have e1:(m∉os++[x])↔m∉os:=by simp [e]
    have e2:(x<m+1)↔x<m:=by omega
    simp only [e1,e2];omega
theorem Iu {ws:List lq} {os:List Nat} {j:Nat}:∀{m},(∀i,i<m->mO ws i j=true->i∈os)->cW ws os j m=0
 | 0,_=>rfl
 | m+1,h=>by
   unfold cW;rw [Iu fun i hi=>h i (by omega),if_neg fun z=>z.2 (h m (by omega) z.1)]
theorem Sg {ws:List lq} {os:List Nat} {j:Nat}:∀{m},cW ws os j m=0 -> ∀i,i<m->mO ws i j=true->i∈os
 | 0,_,i,hi,_=>absurd hi (Nat.not_lt_zero _)
 | m+1,h,i,hi,hs=>by
   unfold cW at h
   by_cases e:i=m
   ·subst e
    refine Decidable.byContradiction fun n=> ?_;rw [if_pos ⟨hs,n⟩] at h;omega
   ·exact Sg (m:=m) (by omega) i (by omega) hs
theorem Od {α:Type} (ws:List lq) (j:Nat) (g:Nat->α):∀m,((List.range m).filterMap fun i=>if mO ws i j=true then some (g i) else none).length=cW ws [] j m
 | 0=>rfl
 | m+1=>by
   rw [eY,List.length_append,Od ws j g m];show _=cW ws [] j m+(if mO ws m j=true/\m∉([]:List Nat) then 1 else 0);cases mO ws m j<;>simp
def nI (l:List Nat):List Int:=l.map fun n:Nat=>(n:Int)
def Bd (ws:List lq) (os:List Nat):Prop:=∀(k l p q:Nat),k<l->os[k]? = some p->os[l]? = some q->mO ws q p=false
structure FO (ws:List lq) (os fs:List Nat):Prop where
 nd:os.Nodup
 lt:∀x∈os,x<ws.length
 cl:∀j∈os,∀i,mO ws i j=true->i∈os
 kp:Bd ws os
 Pb:fs.Nodup
 fm:∀x,x∈fs↔x<ws.length/\x∉os/\cW ws os x x=0
theorem NP (ws:List lq):FO ws [] ((List.range ws.length).filter fun j=>cW ws [] j j==0) where
 nd:=List.nodup_nil
 lt:=by simp
 cl:=by simp
 kp:=fun k l p q _ e=>by simp at e
 Pb:=List.Nodup.sublist List.filter_sublist List.nodup_range
 fm:=fun x=>by simp
theorem FO.some {ws:List lq} {os fs:List Nat} (h:FO ws os fs) (hl:os.length<ws.length):0<fs.length:=by
 have ex:∃x,x<ws.length/\x∉os:=by
  refine Decidable.byContradiction fun n=> ?_;have:=List.Nodup.length_le_of_subset (List.nodup_range (n:=ws.length)) (l₂:=os) fun x hx=>Decidable.byContradiction fun m=>n ⟨x,List.mem_range.mp hx,m⟩;rw [List.length_range] at this;omega
 obtain ⟨x,hx,nx⟩:=ex
 have least:∀x,x<ws.length->x∉os -> ∃y,y<ws.length/\y∉os /\ ∀i,i<y->i∈os:=fun x=>by
  induction x using Nat.strongRecOn with
  | _ x ih=>
    intro hx nx
    by_cases q:∃i,i<x/\i∉os
    ·obtain ⟨i,hi,ni⟩:=q
     exact ih i hi (by omega) ni
    ·exact ⟨x,hx,nx,fun i hi=>Decidable.byContradiction fun m=>q ⟨i,hi,m⟩⟩
 obtain ⟨y,hy,ny,al⟩:=least x hx nx;have:y∈fs:=(h.fm y).mpr ⟨hy,ny,Iu fun i hi _=>al i hi⟩;exact List.length_pos_of_mem this
def kW (ws:List lq) (os:List Nat) (x j y:Nat):Nat:=if y<j then cW ws (os++[x]) y y else cW ws os y y
structure Mid (ws:List lq) (os:List Nat) (x j:Nat) (ms:List Int) (fs:List Nat):Prop where
 ml:ms.length=ws.length
 mg:∀y,y<ws.length->y∉os->y≠x->gI ms (y:Int)=(kW ws os x j y:Int)
 Pb:fs.Nodup
 fm:∀y,y∈fs↔y<ws.length/\y∉os/\y≠x/\kW ws os x j y=0
theorem JD {ws:List lq} {os fs:List Nat} {x k:Nat} {ms:List Int} (h:FO ws os fs) (ml:ms.length=ws.length) (mg:∀y,y<ws.length->y∉os->gI ms (y:Int)=(cW ws os y y:Int)) (e:fs[k]? = some x):Mid ws os x (x+1) ms (fs.eraseIdx k):=by
 have hxf:x∈fs:=List.mem_of_getElem? e;obtain ⟨hx,nx,zx⟩:=(h.fm x).mp hxf
 have eq:∀y,y≠x->kW ws os x (x+1) y=cW ws os y y:=fun y ny=>by
  unfold kW;split
  ·have:=uX (ws:=ws) nx y y
   rw [if_neg (show ¬(x<y/\mO ws x y=true) by omega)] at this;omega
  ·rfl
 refine ⟨ml,fun y hy ny nyx=>by rw [eq y nyx];exact mg y hy ny,h.Pb.eraseIdx k,fun y=> ?_⟩;have pw:=List.pairwise_iff_getElem.mp h.Pb;obtain ⟨hk,ek⟩:=List.getElem?_eq_some_iff.mp e
 have e1:y∈fs.eraseIdx k↔y∈fs/\y≠x:=by
  rw [List.mem_eraseIdx_iff_getElem];constructor
  ·rintro ⟨i,hi,nik,ei⟩
   refine ⟨by rw [←ei];exact List.getElem_mem hi,fun q=> ?_⟩;rw [←ei,←ek] at q;rcases Nat.lt_or_gt_of_ne nik with l|l
   ·exact pw i k hi hk l q
   ·exact pw k i hk hi l q.symm
  ·rintro ⟨hy,ny⟩
   obtain ⟨i,hi,ei⟩:=List.getElem_of_mem hy;exact ⟨i,hi,fun q=>ny (by subst q;rw [←ei,ek]),ei⟩
 rw [e1,h.fm y];constructor
 ·rintro ⟨⟨a,b,c⟩,d⟩
  exact ⟨a,b,d,by rw [eq y d];exact c⟩
 ·rintro ⟨a,b,d,c⟩
  exact ⟨⟨a,b,by rw [←eq y d];exact c⟩,d⟩
theorem z9 {ws:List lq} {os:List Nat} {x j y:Nat} (n:y≠j):kW ws os x (j+1) y=kW ws os x j y:=by
 unfold kW
 by_cases h:y<j
 ·rw [if_pos h,if_pos (by omega)]
 ·rw [if_neg h,if_neg (by omega)]
theorem Nf {ws:List lq} {os fs:List Nat} {x j:Nat} {ms:List Int} (h:Mid ws os x j ms fs) (nx:x∉os) (hs:mO ws x j=false):Mid ws os x (j+1) ms fs:=by
 have eq:∀y,kW ws os x (j+1) y=kW ws os x j y:=fun y=>by
  by_cases e:y=j
  ·subst e
   unfold kW;rw [if_pos (by omega),if_neg (by omega)];have:=uX (ws:=ws) nx y y;rw [if_neg (show ¬(x<y/\mO ws x y=true) by rw [hs];simp)] at this;omega
  ·exact z9 e
 exact ⟨h.ml,fun y a b c=>by rw [eq y];exact h.mg y a b c,h.Pb,fun y=>by rw [eq y];exact h.fm y⟩
theorem QF {ws:List lq} {os:List Nat} {x j:Nat} (nx:x∉os) (hs:mO ws x j=true):kW ws os x j j=kW ws os x (j+1) j+1:=by
 unfold kW;rw [if_neg (by omega),if_pos (by omega)];have:=uX (ws:=ws) nx j j;rw [if_pos (show x<j/\mO ws x j=true from ⟨(Eo hs).1,hs⟩)] at this;omega
theorem Nb {ws:List lq} {os fs:List Nat} {x j:Nat} {ms:List Int} (h:Mid ws os x j ms fs) (nx:x∉os) (cl:∀j∈os,∀i,mO ws i j=true->i∈os) (hs:mO ws x j=true):
 gI ms (j:Int) - 1=(kW ws os x (j+1) j:Int)/\Mid ws os x (j+1) (ms.set ((j:Int)).toNat (gI ms (j:Int) - 1)) (if kW ws os x (j+1) j=0 then fs++[j] else fs):=by
 obtain ⟨l1,l2⟩:=Eo hs;have nj:j∉os:=fun q=>nx (cl j q x hs);have e1:=h.mg j l2 nj (by omega);have e2:=QF nx hs;have e3:gI ms (j:Int) - 1=(kW ws os x (j+1) j:Int):=by omega
 have njf:j∉fs:=fun q=>by have:=((h.fm j).mp q).2.2.2;omega
 refine ⟨e3,by rw [List.length_set];exact h.ml,fun y a b c=> ?_, ?_,fun y=> ?_⟩
 ·have ml:=h.ml
  rw [Nz (by omega) (by omega) (by omega)]
  by_cases e:y=j
  ·subst e
   rw [if_pos rfl,e3]
  ·rw [if_neg (by omega),z9 e]
   exact h.mg y a b c
 ·split
  ·rw [List.nodup_append]
   exact ⟨h.Pb,by simp,fun a ha b hb e=>by simp at hb;subst hb;subst e;exact njf ha⟩
  ·exact h.Pb
 ·by_cases e:y=j
  ·subst e
   constructor
   ·intro hy
    refine ⟨l2,nj,by omega, ?_⟩;split at hy
    ·assumption
    ·exact absurd hy njf
   ·rintro ⟨_,_,_,z⟩
    rw [if_pos z];simp
  ·rw [z9 e,←h.fm y]
   split<;>simp [e]
theorem QT {ws:List lq} {os fs fs':List Nat} {x:Nat} {ms:List Int} (h:FO ws os fs) (hxf:x∈fs) (M:Mid ws os x ws.length ms fs'):FO ws (os++[x]) fs'/\ms.length=ws.length /\ ∀y,y<ws.length->y∉os++[x]->gI ms (y:Int)=(cW ws (os++[x]) y y:Int):=by
 obtain ⟨hx,nx,zx⟩:=(h.fm x).mp hxf;have eq:∀y,y<ws.length->kW ws os x ws.length y=cW ws (os++[x]) y y:=fun y hy=>by unfold kW;rw [if_pos hy]
 refine ⟨⟨?_, ?_, ?_, ?_,M.Pb,fun y=> ?_⟩,M.ml,fun y hy ny=> ?_⟩
 ·rw [List.nodup_append]
  exact ⟨h.nd,by simp,fun a ha b hb e=>by simp at hb;subst hb;subst e;exact nx ha⟩
 ·intro y hy
  rcases List.mem_append.mp hy with q|q
  ·exact h.lt y q
  ·simp at q;omega
 ·intro j hj i hs
  rw [List.mem_append];rcases List.mem_append.mp hj with q|q
  ·exact .inl (h.cl j q i hs)
  ·simp at q
   subst q;exact .inl (Sg zx i (Eo hs).1 hs)
 ·intro k l p q hkl ep eq'
  by_cases hl:l<os.length
  ·rw [List.getElem?_append_left (by omega)] at ep
   rw [List.getElem?_append_left hl] at eq';exact h.kp k l p q hkl ep eq'
  ·have hl2:l<(os++[x]).length:=(List.getElem?_eq_some_iff.mp eq').1
   rw [List.length_append,List.length_singleton] at hl2;have:l=os.length:=by omega
   subst this;rw [List.getElem?_append_right (Nat.le_refl _),Nat.sub_self] at eq';cases eq';rw [List.getElem?_append_left hkl] at ep;cases hs:mO ws x p with
   | false=>rfl
   | true=>exact absurd (h.cl p (List.mem_of_getElem? ep) x hs) nx
 ·rw [M.fm y]
  constructor
  ·rintro ⟨a,b,c,d⟩
   rw [eq y a] at d;exact ⟨a,by simp [b,c],d⟩
  ·rintro ⟨a,b,d⟩
   simp at b;exact ⟨a,b.1,b.2,by rw [eq y a];exact d⟩
 ·simp at ny
  rw [←eq y hy];exact M.mg y hy ny.1 ny.2
theorem HY {r m:Addr} {H H2:Hp} {o:HO} (k:Kp r H H2) (hm:H m=none):Kp r H (upd H2 m o):=fun b u e n=>by rw [aF (aD e hm)];exact k b u e n
theorem bC.upd {H:Hp} {r m:Addr} {o:HO} (S:bC H r) (n:m≠r):bC (L2.upd H m o) r:=S.keep' Kp.set n.symm
theorem LI.upd {H:Hp} {a m:Addr} {o:HO} {os:List Int} (h:LI H a os) (n:m≠a):LI (L2.upd H m o) a os:=by
 show L2.upd H m o a=_;rw [aF n.symm];exact h
theorem pU {α β:Type} (f:α->β):∀(l:List α) (n:Nat),(l.map f).eraseIdx n=(l.eraseIdx n).map f
 | [],_=>by simp
 | _::_,0=>rfl
 | x::l,n+1=>by rw [List.map_cons,List.eraseIdx_cons_succ,List.eraseIdx_cons_succ,List.map_cons,pU f l n]
theorem jw (l:List Nat):(nI l).length=l.length:=by simp [nI]
theorem zY {l:List Nat} {i x:Nat} (e:l[i]? = some x):(nI l)[i]? = some (x:Int):=by unfold nI;rw [List.getElem?_map,e];rfl
theorem GP {H:Hp} {a:Addr} {ws:List lq} {i j:Nat} (W:iu H a ws) (hi:i<ws.length) (hj:j<ws.length) (l:i<j):∃vs t1 t2 x y,H a=some (.lst vs)/\uM vs (i:Int)=some (.ref t1)/\uM vs (j:Int)=some (.ref t2) /\
 H t1=some (.tup [.int x.1,.str x.2.1,.int x.2.2])/\H t2=some (.tup [.int y.1,.str y.2.1,.int y.2.2])/\mO ws i j=(decide (x.1=y.1)||mt x y):=by
 obtain ⟨x,ex⟩:∃x,ws[i]? = some x:=⟨ws[i],by simp [hi]⟩;obtain ⟨y,ey⟩:∃y,ws[j]? = some y:=⟨ws[j],by simp [hj]⟩;obtain ⟨vs,t1,ha,e1,ht1⟩:=uP W ex;obtain ⟨vs',t2,ha',e2,JL⟩:=uP W ey;have ev:vs=vs':=by rw [ha] at ha';injection ha' with q;injection q
 subst ev;exact ⟨vs,t1,t2,x,y,ha,d_ e1,d_ e2,ht1,JL,by unfold mO W3;rw [ex,ey,decide_eq_true l,Bool.true_and]⟩
def zH (K:PySem.W.Frag):Sp:=fun vs H Q _=>∃(r a:Addr) (ws:List lq),vs=[.ref r,.ref a]/\bC H r/\iu H a ws/\ws.length<=300/\a≠r /\
 ∀(c:Addr) (os:List Nat) H',H c=none->LI H' c (nI os)->os.length=ws.length->os.Nodup->(∀x∈os,x<ws.length)->Bd ws os->c≠r->bC H' r->Kp r H H'->Q (.ref c) H'
theorem Jw {f:Addr} {fd:FuncData} (F:jX K "_law_free_order" "_law_free_order" cR f fd) (bU:FnAt P w K mg base 1 "_law_draw" ["spring","many"] (mQ K)) (IV:FnAt P w K mg base 2 "_law_step" ["one","other"] (zA K)) (Bt:yX mg):cj P w K mg base jA 3 f fd ["spring","web"] (zH K):=by
 refine F.ok dJ (fun vs H Q E h=> ?_) (fun cdv A outer s H vs Q E hr h=> ?_)
 ·obtain ⟨r,a,ws,rfl,_⟩:=h
  rfl
 ·obtain ⟨r,a,ws,rfl,S,W,wl,RB,k⟩:=h
  refine ⟨_,(aB (bB (i:=2) dJ.nd rfl (Or.inr rfl) (Ma rfl (xc:= "j") (N:=["j","web"]) (own:=["j"]) (caps:=[1]) (bW.of (by kernel_rfl)) (dO (by rfl) Bt.fW (aj (aQ (bh (K:=K) rfl) (by rfl) Bt.gR eN (aj (pv 1) aA)) aA)) (fun _ _ _ _=>(bJ (i:=0) (show List.Nodup (["j","web"]:List Str) by decide +kernel) rfl (Or.inr rfl) (Or.inl FZ))) (fun _ _ _ _=>dZ) (fun _ _ _ _=>(aQ (bh (K:=K) rfl) (by rfl) Bt.gR eN (aj (gZ rfl (N:=["i","web","j"]) (own:=["i"]) (caps:=[1,0]) (bw.of (by kernel_rfl)) (dO (by rfl) Bt.fW (aj (pv 0) aA)) (fun _ _ _ _=>(bJ (i:=0) (show List.Nodup (["i","web","j"]:List Str) by decide +kernel) rfl (Or.inl rfl))) (fun _ _ _ _=>(zT (iI (bM IV (hr.mono (by decide)) (by rfl) (aj (aN (aX (K:=K) rfl) (pv 1) (pv 0) (fun _ _=>rfl)) (aj (aN (aX (K:=K) rfl) (pv 1) (pv 2) (fun _ _=>rfl)) aA)))))) (fun _ _ _ _=>(pv 0))) aA)))))
   (aB (mR (i:=3) rfl dJ.nd rfl (Or.inl rfl) (N:=["j","waits"]) (own:=["j"]) (caps:=[2]) (bw.of (by kernel_rfl)) (dO (by rfl) Bt.fW (aj (aQ (bh (K:=K) rfl) (by rfl) Bt.gR eN (aj (pv 1) aA)) aA)) (fun _ _ _ _=>(bJ (i:=0) (show List.Nodup (["j","waits"]:List Str) by decide +kernel) rfl (Or.inl rfl))) (fun _ _ _ _=>(zT (aY cU (aN (aX (K:=K) rfl) (pv 1) (pv 0) (fun _ _=>rfl)) aC (aR _)))) (fun _ _ _ _=>(pv 0)))
   (aB (bB (i:=4) dJ.nd rfl (Or.inl rfl) (fQ aA))
   (aB (jQ PassesOwn.never rfl (dO (by rfl) Bt.fW (aj (aQ (bh (K:=K) rfl) (by rfl) Bt.gR eN (aj (pv 1) aA)) aA)) (bJ (i:=5) dJ.nd rfl (Or.inl rfl))
   (aB (bB (i:=6) dJ.nd rfl (Or.inl rfl) (zU (K:=K) rfl PySem.F.plainAttrs_list PySem.F.slot_list_pop PySem.F.type_list_pop MP (pv 3) (aj (bM bU (hr.mono (by decide)) (by rfl) (aj (pv 0) (aj (aQ (bh (K:=K) rfl) (by rfl) Bt.gR eN (aj (pv 3) aA)) aA))) aA)))
   (aB (eX (gk (K:=K) rfl (pv 4) (aj (pv 6) aA)))
   (aG (jQ PassesOwn.never rfl (Jo (by rfl) Bt.fW (aj (cP iJ (pv 6) aC) (aj (aQ (bh (K:=K) rfl) (by rfl) Bt.gR eN (aj (pv 1) aA)) aA))) (bJ (i:=7) dJ.nd rfl (Or.inl rfl))
   (aG (cG (iI (bM IV (hr.mono (by decide)) (by rfl) (aj (aN (aX (K:=K) rfl) (pv 1) (pv 6) (fun _ _=>rfl)) (aj (aN (aX (K:=K) rfl) (pv 1) (pv 7) (fun _ _=>rfl)) aA)))) (aB (rY (cP Fi (aN (aX (K:=K) rfl) (pv 2) (pv 7) (fun _ _=>rfl)) aC) (sG (pv 2) (pv 7) set_list))
   (aG (cG (aY cU (aN (aX (K:=K) rfl) (pv 2) (pv 7) (fun _ _=>rfl)) aC (aR _)) (aG (eX (gk (K:=K) rfl (pv 3) (aj (pv 7) aA)))) bF))) bF)))))))
   (aG (aZ (pv 4))))))), ?_⟩
  obtain ⟨vs,ha,dv⟩:=id W;have Eh:vs.length=ws.length:=by rw [dv.length,List.length_map]
  refine ⟨_,rfl,a,_,rfl,.inl (bH.of ha),_,rfl,by omega,by omega, ?_⟩;rw [Eh,Int.toNat_natCast];intro m hm;refine jM (fun j:Nat=>some (V.int (cW ws [] j j:Nat))) hm (by omega) (fun j H1 G F hj s1 kG kF=> ?_) (fun H1 s1 e1=> ?_)
  ·refine ⟨_,rfl,_,rfl,by omega,by omega, ?_⟩
   rw [show (0+(j:Int)).toNat=j by omega];intro D hD;refine jM (fun i:Nat=>if mO ws i j=true then some (V.int (0+(i:Int))) else none) hD (by omega) (fun i H2 G2 F2 hi s2 kG2 kF2=> ?_) (fun H2 s2 e2=> ?_)
   ·obtain ⟨vs2,t1,t2,x,y,ha2,e1,e2,ht1,JL,es⟩:=GP ((W.same s1).same s2) (i:=i) (j:=j) (by omega) hj hi
    refine ⟨_,rfl,_,rfl,_,_,_,_,rfl,rfl,bH.of ha2,by rw [Int.zero_add];exact e1,_,rfl,_,rfl,_,_,_,_,rfl,rfl,bH.of ha2,by rw [Int.zero_add];exact e2,t1,t2,x,y,rfl,ht1,JL,_,rfl, ?_⟩;rw [←es];cases hs:mO ws i j with
    | true=>exact iK ⟨_,rfl,kF2 _ _ (Same.refl _) (if_pos hs)⟩
    | false=>exact iy (kG2 _ (Same.refl _) (if_neg (by rw [hs];simp)))
   ·refine ⟨D,_,rfl,.inl (bH.of e2), ?_⟩
    refine kF _ _ s2 ?_;rw [Od]
  have e1':H1 m=some (.lst ((nI ((List.range ws.length).map fun j=>cW ws [] j j)).map V.int)):=by
   rw [e1,nI,List.map_map,List.map_map,←List.filterMap_eq_map];rfl
  have hm1:=hm;refine ⟨_,rfl,a,_,rfl,.inl (bH.of (s1 _ _ ha)),_,rfl,by omega,by omega, ?_⟩;rw [Eh,Int.toNat_natCast];intro fr hfr;have gW:∀y,y<ws.length->gI (nI ((List.range ws.length).map fun j=>cW ws [] j j)) (y:Int)=(cW ws [] y y:Int):=fun y hy=>Vf (zY (by rw [List.getElem?_map,List.getElem?_range hy];rfl));refine jM (fun j:Nat=>if cW ws [] j j=0 then some (V.int (j:Int)) else none) hfr (by omega) (fun j H2 G F hj s2 kG kF=> ?_) (fun H2 s2 e2=> ?_)
  ·refine ⟨_,rfl,_,rfl,_,_,_,_,rfl,rfl,bH.of (s2 _ _ e1'),by rw [Int.zero_add];exact Gs (by omega) (by rw [jw,List.length_map,List.length_range];omega),rfl,_,rfl, ?_⟩
   rw [gW j hj]
   by_cases z:cW ws [] j j=0
   ·rw [show decide (V.int (cW ws [] j j:Nat)=V.int 0)=true by simp [z]]
    exact iK ⟨_,rfl,kF _ _ (Same.refl _) (by rw [if_pos z,Int.zero_add])⟩
   ·rw [show decide (V.int (cW ws [] j j:Nat)=V.int 0)=false from decide_eq_false fun q=>z (by injection q with q;omega)]
    exact iy (kG _ (Same.refl _) (if_neg z))
  have e2':H2 fr=some (.lst ((nI ((List.range ws.length).filter fun j=>cW ws [] j j==0)).map V.int)):=by
   rw [e2,nI,List.map_map];congr 2;rw [←List.filterMap_eq_filter,List.map_filterMap];refine wH _ trivial fun j _=> ?_
   by_cases z:cW ws [] j j=0<;>simp [Option.guard,z]
  have s12:=s1.trans s2;have Vc:H fr=none:=s1.free hfr;have nmf:m≠fr:=aD e1' hfr;refine ⟨(by show 0<=sizeLine;decide),fun o ho=> ?_⟩;have s3:=aL (o:=HO.lst []) ho;have s13:=s12.trans s3;have Wb:H o=none:=s12.free ho;have nmo:m≠o:=aD (s2 _ _ e1') ho;have nfo:fr≠o:=aD e2' ho;have nmr:=Ep S hm;have XD:=Ep S Vc;have nor:=Ep S Wb;refine ⟨_,rfl,a,_,rfl,.inl (bH.of (s13 _ _ ha)),_,rfl,by omega,by omega, ?_⟩;rw [Eh,Int.toNat_natCast]
  refine lM (lo:=0) (n:=ws.length) (fun t σ H4=>∃(os fs:List Nat) (ms:List Int) (x1 x2 x3:Option V),σ=[some (.ref r),some (.ref a),some (.ref m),some (.ref fr),some (.ref o),x1,x2,x3] /\
   Kp r H H4/\bC H4 r/\LI H4 m ms/\LI H4 fr (nI fs)/\LI H4 o (nI os)/\FO ws os fs/\os.length=t/\ms.length=ws.length /\ ∀y,y<ws.length->y∉os->gI ms (y:Int)=(cW ws os y y:Int))
   ⟨[],_,_,none,none,none,rfl,.of_same s13,S.keep s13,s3 _ _ (s2 _ _ e1'),s3 _ _ e2',aq,NP ws,rfl,by simp [nI],fun y hy _=>gW y hy⟩ ?_ ?_
  ·rintro t σ H4 ht ⟨os,fs,ms,x1,x2,x3,rfl,kp,S4,M4,F4,O4,fo,ol,ml,mg⟩
   have akz:=fo.some (by omega)
   have fle:fs.length<=ws.length:=by
    have:=List.Nodup.length_le_of_subset fo.Pb (l₂:=List.range ws.length) fun x hx=>List.mem_range.mpr ((fo.fm x).mp hx).1;rwa [List.length_range] at this
   refine ⟨_,rfl,.inl ⟨rfl,_,bH.of F4⟩,_,rfl,_,rfl,fr,_,rfl,.inl (bH.of F4),r,_,rfl,S4,by rw [List.length_map,jw];omega,by rw [List.length_map,jw];omega,fun n H5 n0 n1 S5 k5=> ?_⟩;rw [List.length_map,jw] at n1;obtain ⟨x,ex⟩:∃x,fs[n.toNat]? = some x:=⟨fs[n.toNat]'(by omega),by simp⟩;have hxf:x∈fs:=List.mem_of_getElem? ex;obtain ⟨hx,nx,zx⟩:=(fo.fm x).mp hxf;have kp5:=kp.trans k5;have F5:LI H5 fr (nI fs):=F4.kp k5 XD;have M5:LI H5 m ms:=M4.kp k5 nmr;have O5:LI H5 o (nI os):=O4.kp k5 nor;refine ⟨fr,_,n,n.toNat,V.int (x:Int),rfl,rfl,F5,by omega,by omega, ?_, ?_, ?_⟩
   ·exact (Aa (Ia n0 (by rw [List.length_map,jw];omega))).1
   ·rw [List.getElem?_map,zY ex];rfl
   have F6:LI (upd H5 fr (.lst (((nI fs).map V.int).eraseIdx n.toNat))) fr (nI (fs.eraseIdx n.toNat)):=by
    show upd _ _ _ _=_;rw [aq,nI,nI,pU,pU]
   have XS:Kp r H (upd H5 fr (.lst (((nI fs).map V.int).eraseIdx n.toNat))):=HY kp5 Vc;have S6:=S5.upd (o:= .lst (((nI fs).map V.int).eraseIdx n.toNat)) XD;have M6:LI (upd H5 fr (.lst (((nI fs).map V.int).eraseIdx n.toNat))) m ms:=M5.upd nmf.symm;have O6:LI (upd H5 fr (.lst (((nI fs).map V.int).eraseIdx n.toNat))) o (nI os):=O5.upd nfo;generalize upd H5 fr (.lst (((nI fs).map V.int).eraseIdx n.toNat))=H6 at F6 XS S6 M6 O6 ⊢;refine ⟨_,rfl,.inl ⟨rfl,_,bH.of O6⟩,_,rfl,o,_,_,rfl,rfl,O6,by rw [sizeLine_eq,List.length_map,jw];omega, ?_⟩
   have O7:LI (upd H6 o (.lst ((nI os).map V.int++[V.int (x:Int)]))) o (nI (os++[x])):=by
    show upd _ _ _ _=_;rw [aq,nI,nI,List.map_append,List.map_append];rfl
   have kp7:Kp r H (upd H6 o (.lst ((nI os).map V.int++[V.int (x:Int)]))):=HY XS Wb;have S7:=S6.upd (o:= .lst ((nI os).map V.int++[V.int (x:Int)])) nor;have M7:LI (upd H6 o (.lst ((nI os).map V.int++[V.int (x:Int)]))) m ms:=M6.upd nmo.symm;have F7:LI (upd H6 o (.lst ((nI os).map V.int++[V.int (x:Int)]))) fr (nI (fs.eraseIdx n.toNat)):=F6.upd nfo.symm;generalize upd H6 o (.lst ((nI os).map V.int++[V.int (x:Int)]))=H7 at O7 kp7 S7 M7 F7 ⊢;have W7:iu H7 a ws:=W.spr S kp7 RB;refine ⟨_,rfl,_,_,rfl,rfl,_,rfl,a,_,rfl,.inl (bH.of (kp7 _ _ ha RB)),_,_,rfl,⟨by omega,by omega,by omega,by omega⟩, ?_⟩;rw [Eh]
   refine lM (lo:=(x:Int)+1) (n:=(((ws.length:Nat):Int) - ((x:Int)+1)).toNat) (fun u σ H8=>∃(fs':List Nat) (ms':List Int) (x3:Option V),σ=[some (.ref r),some (.ref a),some (.ref m),some (.ref fr),some (.ref o),some (.int (0+(t:Int))),some (.int (x:Int)),x3] /\
    Kp r H H8/\bC H8 r/\LI H8 m ms'/\LI H8 fr (nI fs')/\LI H8 o (nI (os++[x]))/\Mid ws os x (x+1+u) ms' fs')
    ⟨_,ms,x3,rfl,kp7,S7,M7,F7,O7,JD fo ml mg ex⟩ ?_ ?_
   ·rintro u σ H8 hu' ⟨fs',ms',x3',rfl,RD,S8,M8,F8,O8,md⟩
    have hj:x+1+u<ws.length:=by omega
    have W8:iu H8 a ws:=W.spr S RD RB;obtain ⟨vs8,t1,t2,X,Y,ha8,e1,e2,ht1,JL,es⟩:=GP W8 (i:=x) (j:=x+1+u) hx hj (by omega);have ej:(x:Int)+1+(u:Int)=((x+1+u:Nat):Int):=by omega
    rw [ej];refine ⟨_,rfl,_,rfl,_,_,_,_,rfl,rfl,bH.of ha8,e1,_,rfl,_,rfl,_,_,_,_,rfl,rfl,bH.of ha8,e2,t1,t2,X,Y,rfl,ht1,JL,_,rfl, ?_⟩;rw [←es];cases hs:mO ws x (x+1+u) with
    | false=>
      refine iy ?_;exact ⟨fs',ms',_,rfl,RD,S8,M8,F8,O8,Nf md nx hs⟩
    | true=>
      refine iK ?_;obtain ⟨g1,md'⟩:=Nb md nx fo.cl hs;have ml':=md.ml;refine ⟨_,rfl,_,rfl,_,_,_,_,rfl,rfl,bH.of M8,Gs (by omega) (by omega),_,_,rfl,rfl,_,rfl,_,rfl,m,_,_,_,rfl,rfl,M8,Ia (by omega) (by rw [List.length_map];omega), ?_⟩
      have M9:LI (upd H8 m (.lst ((ms'.map V.int).set ((x+1+u:Nat):Int).toNat (V.int (gI ms' ((x+1+u:Nat):Int) - 1))))) m (ms'.set ((x+1+u:Nat):Int).toNat (gI ms' ((x+1+u:Nat):Int) - 1)):=by
       show upd _ _ _ _=_;rw [aq,List.map_set]
      have kp9:Kp r H (upd H8 m (.lst ((ms'.map V.int).set ((x+1+u:Nat):Int).toNat (V.int (gI ms' ((x+1+u:Nat):Int) - 1))))):=HY RD hm;have S9:=S8.upd (o:= .lst ((ms'.map V.int).set ((x+1+u:Nat):Int).toNat (V.int (gI ms' ((x+1+u:Nat):Int) - 1)))) nmr;have F9:LI (upd H8 m (.lst ((ms'.map V.int).set ((x+1+u:Nat):Int).toNat (V.int (gI ms' ((x+1+u:Nat):Int) - 1))))) fr (nI fs'):=F8.upd nmf;have O9:LI (upd H8 m (.lst ((ms'.map V.int).set ((x+1+u:Nat):Int).toNat (V.int (gI ms' ((x+1+u:Nat):Int) - 1))))) o (nI (os++[x])):=O8.upd nmo;generalize upd H8 m (.lst ((ms'.map V.int).set ((x+1+u:Nat):Int).toNat (V.int (gI ms' ((x+1+u:Nat):Int) - 1))))=H9 at M9 kp9 S9 F9 O9 ⊢;refine ⟨_,rfl,_,rfl,_,_,_,_,rfl,rfl,bH.of M9,Gs (by omega) (by rw [List.length_set];omega),rfl,_,rfl, ?_⟩;rw [Nz (by omega) (by omega) (by omega),if_pos rfl,g1]
      by_cases z:kW ws os x (x+1+u+1) (x+1+u)=0
      ·rw [show decide (V.int (kW ws os x (x+1+u+1) (x+1+u):Nat)=V.int 0)=true by simp [z]]
       refine iK ?_;rw [if_pos z] at md'
       have fl9:fs'.length<=ws.length:=by
        have:=List.Nodup.length_le_of_subset md.Pb (l₂:=List.range ws.length) fun x hx=>List.mem_range.mpr ((md.fm x).mp hx).1;rwa [List.length_range] at this
       refine ⟨_,rfl,.inl ⟨rfl,_,bH.of F9⟩,_,rfl,fr,_,_,rfl,rfl,F9,by rw [sizeLine_eq,List.length_map,jw];omega, ?_⟩;refine ⟨fs'++[x+1+u],_,_,rfl,HY kp9 Vc,S9.upd XD,M9.upd nmf.symm, ?_,O9.upd nfo,md'⟩;show upd _ _ _ _=_;rw [aq,nI,nI,List.map_append,List.map_append];rfl
      ·rw [show decide (V.int (kW ws os x (x+1+u+1) (x+1+u):Nat)=V.int 0)=false from decide_eq_false fun q=>z (by injection q with q;omega)]
       refine iy ?_;rw [if_neg z] at md';exact ⟨fs',_,_,rfl,kp9,S9,M9,F9,O9,md'⟩
   ·rintro σ H8 ⟨fs',ms',x3',rfl,RD,S8,M8,F8,O8,md⟩
    rw [show x+1+(((ws.length:Nat):Int) - ((x:Int)+1)).toNat=ws.length by omega] at md;obtain ⟨fo',ml',mg'⟩:=QT fo hxf md;exact ⟨os++[x],fs',ms',_,_,_,rfl,RD,S8,M8,F8,O8,fo',by simp [ol],ml',mg'⟩
  ·rintro σ H4 ⟨os,fs,ms,x1,x2,x3,rfl,kp,S4,M4,F4,O4,fo,ol,ml,mg⟩
   exact ⟨_,rfl,k o os H4 Wb O4 ol fo.nd fo.lt fo.kp nor S4 kp⟩
section
variable {D r:Addr} {te:TE} {Q:VK} {rest:St} {H1:Hp} {n:Nat}
theorem bC.ne {H:Hp} {r p:Addr} (h:bC H r) (hp:H p=none):p≠r:=by
 obtain ⟨f,t,c,e,_⟩:=h;exact (aD e hp).symm
theorem bC.at {H:Hp} {r:Addr} (h:bC H r):∃o,H r=some o:=by
 obtain ⟨f,t,c,e,_⟩:=h;exact ⟨_,e⟩
theorem bC.tups {H H':Hp} {r:Addr} (h:bC H r) (k:Kp r H H'):∀a xs,H a=some (HO.tup xs)->H' a=some (HO.tup xs):=by
 obtain ⟨f,t,c,e,_⟩:=h;exact k.tups e
theorem Kp.new {H H':Hp} {r p:Addr} (k:Kp r H H') (hp:H' p=none) (hr:∃o,H' r=some o):H p=none:=by
 cases e:H p with
 | none=>rfl
 | some o=>
   by_cases n:p=r
   ·subst n
    obtain ⟨o',ho⟩:=hr;rw [hp] at ho;cases ho
   ·rw [k _ _ e n] at hp
    cases hp
end
def hF (r:Addr) (n:Int) (b sy:Addr) (st:Str):List (Str×V):=[("rows",.ref r),("at",.int n),("in_boxes",.ref b),("sayings",.ref sy),("state",.str st)]
structure o9 where
 (h hx r b sy:Addr)
structure nM (CH:Addr) (H:Hp) (A:o9) (s:bG):Prop where
 h:H A.h=some (.ins CH A.hx (hF A.r s.pos A.b A.sy s.st))
 b:H A.b=some (.lst (s.bs.map V.int))
 y:H A.sy=some (.lst (s.sy.map V.int))
 QD:A.b≠A.sy
 bl:s.bs.length=8
def KH (A:o9) (H H':Hp):Prop:=∀x o,H x=some o->x≠A.h->x≠A.b->x≠A.sy->H' x=some o
theorem KH.of_same {A:o9} {H H':Hp} (k:Same H H'):KH A H H':=fun x o e _ _ _=>k _ _ e
theorem KH.trans {A:o9} {H H1 H2:Hp} (a:KH A H H1) (b:KH A H1 H2):KH A H H2:=fun x o e n1 n2 n3=>b x o (a x o e n1 n2 n3) n1 n2 n3
theorem KH.pP {A:o9} {H:Hp} {o:HO}:KH A H (upd H A.h o):=fun x u e n _ _=>by rw [aF n];exact e
theorem KH.Lh {A:o9} {H:Hp} {o:HO}:KH A H (upd H A.b o):=fun x u e _ n _=>by rw [aF n];exact e
theorem KH.TV {A:o9} {H:Hp} {o:HO}:KH A H (upd H A.sy o):=fun x u e _ _ n=>by rw [aF n];exact e
theorem nM.Z7 {CH:Addr} {H:Hp} {A:o9} {s:bG} (c:nM CH H A s):A.h≠A.b:=eO c.h c.b (by intro z;cases z)
theorem nM.Z6 {CH:Addr} {H:Hp} {A:o9} {s:bG} (c:nM CH H A s):A.h≠A.sy:=eO c.h c.y (by intro z;cases z)
theorem nM.same {CH:Addr} {H H':Hp} {A:o9} {s:bG} (c:nM CH H A s) (k:Same H H'):nM CH H' A s:=⟨k _ _ c.h,k _ _ c.b,k _ _ c.y,c.QD,c.bl⟩
theorem nM.tup {CH:Addr} {H H':Hp} {A:o9} {s:bG} (c:nM CH H A s) (k:KH A H H'):∀x xs,H x=some (.tup xs)->H' x=some (.tup xs):=fun x xs e=>k _ _ e (eO e c.h (by intro z;cases z)) (eO e c.b (by intro z;cases z)) (eO e c.y (by intro z;cases z))
theorem nM.pP {CH:Addr} {H:Hp} {A:o9} {s:bG} (c:nM CH H A s) (n:Nat) (st:Str):nM CH (upd H A.h (.ins CH A.hx (hF A.r n A.b A.sy st))) A {s with pos:=n,st:=st}:=
 ⟨aq,by rw [aF c.Z7.symm];exact c.b,by rw [aF c.Z6.symm];exact c.y,c.QD,c.bl⟩
theorem nM.Lh {CH:Addr} {H:Hp} {A:o9} {s:bG} (c:nM CH H A s) (bs:List Int) (l:bs.length=8):nM CH (upd H A.b (.lst (bs.map V.int))) A {s with bs:=bs}:=
 ⟨by rw [aF c.Z7];exact c.h,aq,by rw [aF c.QD.symm];exact c.y,c.QD,l⟩
theorem nM.TV {CH:Addr} {H:Hp} {A:o9} {s:bG} (c:nM CH H A s) (ys:List Int):nM CH (upd H A.sy (.lst (ys.map V.int))) A {s with sy:=ys}:=
 ⟨by rw [aF c.Z6];exact c.h,by rw [aF c.QD];exact c.b,aq,c.QD,c.bl⟩
theorem zR (r b sy:Addr) (n m:Int) (st:Str):fK "at" (.int m) (hF r n b sy st)=hF r m b sy st:=by rfl
theorem Fg (r b sy:Addr) (n:Int) (st st':Str):fK "state" (.str st') (hF r n b sy st)=hF r n b sy st':=by rfl
theorem Ij (n:Nat):(List.range n).filterMap (fun _=>some (V.int 0))=(List.replicate n 0).map V.int:=by
 induction n with
 | zero=>rfl
 | succ n ih=>rw [eY,ih,List.replicate_succ',List.map_append];rfl
theorem qK {H H':Hp} {o p:Addr} (h:Kp o H H') (ne:p≠o) (n:H' p=none):H p=none:=by
 cases e:H p with
 | none=>rfl
 | some u=>rw [h _ _ e ne] at n;cases n
theorem Zh:∀b:Fin 8,Builtin.Str.occurrences (Str.ofString "abcdefgh") (rA b.val) 0 (Str.ofString "abcdefgh").length 1=[b.val]:=by decide +kernel
theorem Oe {b:Nat} (h:b<8):Builtin.Str.occurrences (Str.ofString "abcdefgh") (rA b) 0 (Str.ofString "abcdefgh").length 1=[b]:=Zh ⟨b,h⟩
def zF (CH:Addr) (K:PySem.W.Frag):Sp:=fun vs H Q _=>∃(a r dx:Addr),vs=[.ref a,.ref r]/\H a=some (.ins CH dx []) /\ ∀(b sy:Addr) (H':Hp),H b=none->H sy=none->b≠sy ->
 H' a=some (.ins CH dx (hF r 0 b sy "waits"))->H' b=some (.lst ((List.replicate 8 0).map V.int))->H' sy=some (.lst [])->Kp a H H'->Q .non H'
theorem Mt {au:Addr} {f:Addr} {fd:FuncData} (F:jX K "__init__" "Hand.__init__" dY f fd) (aK:gH K au) (gG:Gv mg "BOXES" (.str "abcdefgh")):cj P w K mg base jA 1 f fd ["self","rows"] (zF au K):=by
 refine F.ok zN (fun vs H Q E h=> ?_) (fun cdv A outer s H vs Q E hr h=> ?_)
 ·obtain ⟨a,r,dx,rfl,_⟩:=h
  rfl
 ·obtain ⟨a,r,dx,rfl,ha,k⟩:=h
  refine ⟨_,(aB (gY (K:=K) rfl (pv 0) (pv 1) rfl)
   (aB (gY (K:=K) rfl (pv 0) aC rfl)
   (aB (gY (K:=K) rfl (pv 0) (gZ rfl (N:=["box"]) (own:=["box"]) (caps:=[]) (bw.of (by kernel_rfl)) (Ue (jZ (by rfl) gG.choose_spec.1 gG.choose_spec.2)) (fun _ _ _ _=>(bJ (i:=0) (show List.Nodup (["box"]:List Str) by decide +kernel) rfl (Or.inl rfl))) (fun _ _ _ _=>dZ) (fun _ _ _ _=>aC)) rfl)
   (aB (gY (K:=K) rfl (pv 0) (fQ aA) rfl)
   (aG (gY (K:=K) rfl (pv 0) bA rfl)))))), ?_⟩
  refine ⟨_,rfl,_,rfl,a,au,dx,[],rfl,ha,aK.cls,aK.pR,by decide, ?_⟩;refine ⟨_,rfl,a,au,dx,_,rfl,aq,aK.cls,aK.ux,(by show 1<1000;decide), ?_⟩;refine ⟨_,rfl,fun D hD=> ?_⟩;refine JW (fun _=>some (.int 0)) hD (by decide) (fun i c H1 G F hi s1 kG kF=>kF _ H1 (Same.refl _) rfl) (fun H1 s1 e1=> ?_);rw [Ij] at e1;refine ⟨_,rfl,a,au,dx,_,rfl,s1 _ _ aq,aK.cls,aK.mW,(by show 2<1000;decide), ?_⟩;have V8:a≠D:=aD aq hD;refine ⟨(by show 0<=sizeLine;decide),fun q hq=> ?_⟩;have V7:a≠q:=aD aq hq;refine ⟨_,rfl,a,au,dx,_,rfl,(by rw [aF V7];exact aq),aK.cls,aK.sI,(by show 3<1000;decide), ?_⟩;refine ⟨_,rfl,a,au,dx,_,rfl,aq,aK.cls,aK.j6,(by show 4<1000;decide), ?_⟩;have Wg:H D=none:=by rw [aF V8.symm,aF V8.symm] at hD;exact hD
  have nDq:D≠q:=by
   intro e;rw [←e,aF V8.symm,e1] at hq;cases hq
  have hq0:H q=none:=by
   rw [aF V7.symm] at hq;cases e:H q with
   | none=>rfl
   | some o=>
     have:=s1 q o (by rw [aF V7.symm,aF V7.symm];exact e);rw [this] at hq;cases hq
  refine k D q _ Wg hq0 nDq ?_ ?_ ?_ ?_
  ·rw [aq];rfl
  ·rw [aF V8.symm,aF V8.symm,aF nDq,aF V8.symm,e1];rfl
  ·rw [aF V7.symm,aF V7.symm,aq]
  ·intro x o e n
   have nq:x≠q:=aD e hq0;rw [aF n,aF n,aF nq,aF n];exact s1 x o (by rw [aF n,aF n];exact e)
theorem Ss {x:V} {l:List V}:uM (x::l) 0=some x:=d_ (j:=0) rfl
theorem Zm {x y z:V} {l:List V}:uM (x::y::z::l) 2=some z:=d_ (j:=2) rfl
def Dp (r:Rw):V:=if touch r then .int (gJ r) else .non
def qx (K:PySem.W.Frag):Sp:=fun vs H Q _=>∃(v:V) (r:Rw),vs=[v]/\Dat H v (lK r) /\ ∀H',Same H H'->Q (Dp r) H'
theorem Ju {f:Addr} {fd:FuncData} (F:jX K "cell_of" "cell_of" gw f fd):cj P w K mg base jA 1 f fd ["row"] (qx K):=by
 refine F.ok E_ (fun vs H Q E h=> ?_) (fun cdv A outer s H vs Q E hr h=> ?_)
 ·obtain ⟨v,r,rfl,_⟩:=h
  rfl
 ·obtain ⟨v,r,rfl,d,k⟩:=h
  obtain ⟨t,ws,rfl,ht,ps⟩:=Iz d
  refine ⟨_,(aB (cG (aY cU (aN (aP (K:=K) rfl) (pv 0) aC (fun _ _=>rfl)) bA (aR _)) (aG (aZ (aN (aP (K:=K) rfl) (pv 0) aC (fun _ _=>rfl)))) bF)
   (aG (aZ (jR (aY (Fl (K:=K) rfl) (aN (aP (K:=K) rfl) (pv 0) aC (fun _ _=>rfl)) (fP (aj bA (aj bA aA))) (by with_unfolding_all rfl)) (aN (aP (K:=K) rfl) (pv 0) aC (fun _ _=>rfl)) mV)))), ?_⟩
  have cs:(∃c e,r = .store c e) \/ ∃(x:Str) (ys:List V),ws = .str x::ys/\x≠Str.ofString "store" /\ (x=Str.ofString "load" \/ x=Str.ofString "swap" -> ∃y z,ys=y :: .int (gJ r)::z/\touch r=true)/\(x≠Str.ofString "load" -> x≠Str.ofString "swap" -> touch r=false):=by
   cases r with
   | store c e=>exact .inl ⟨c,e,rfl⟩
   | load b c=>exact .inr ⟨_,_,ps,by decide +kernel,fun _=>⟨_,_,rfl,rfl⟩,fun z=>absurd rfl z⟩
   | swap b c e=>
     obtain ⟨x,e1,_⟩:=ps;exact .inr ⟨_,_,e1,by decide +kernel,fun _=>⟨_,_,rfl,rfl⟩,fun _ z=>absurd rfl z⟩
   | uy b e=>
     obtain ⟨x,e1,_⟩:=ps;exact .inr ⟨_,_,e1,by decide +kernel,fun z=>absurd z (by decide +kernel),fun _ _=>rfl⟩
   | say e=>
     obtain ⟨x,e1,_⟩:=ps;exact .inr ⟨_,_,e1,by decide +kernel,fun z=>absurd z (by decide +kernel),fun _ _=>rfl⟩
   | go n=>exact .inr ⟨_,_,ps,by decide +kernel,fun z=>absurd z (by decide +kernel),fun _ _=>rfl⟩
   | xU q e f n=>
     obtain ⟨x,y,e1,_⟩:=ps;exact .inr ⟨_,_,e1,by decide +kernel,fun z=>absurd z (by decide +kernel),fun _ _=>rfl⟩
  rcases cs with ⟨c,e,rfl⟩|⟨x,ys,rfl,nx,h1,h2⟩
  ·obtain ⟨x,rfl,_⟩:=ps
   refine ⟨_,rfl,_,_,_,_,rfl,rfl,dg.of ht,rfl,rfl,_,rfl, ?_⟩;refine bQ (fun _=> ?_) (fun z=>absurd (decide_eq_true rfl) z);exact ⟨_,rfl,_,_,_,_,rfl,rfl,dg.of ht,rfl,k H (Same.refl _)⟩
  refine ⟨_,rfl,_,_,_,_,rfl,rfl,dg.of ht,Ss,rfl,_,rfl, ?_⟩;refine bQ (fun z=>absurd (by simpa using of_decide_eq_true z) nx) (fun _=> ?_);refine ⟨_,rfl,_,_,_,_,rfl,rfl,dg.of ht,Ss,(by show 2<=sizeLine;decide),fun p hp=> ?_⟩;have sp:=aL (o:=HO.tup [V.str (Str.ofString "load"),V.str (Str.ofString "swap")]) hp;refine ⟨p,_,rfl,.inr (dg.of aq),rfl,rfl,_,rfl, ?_⟩
  by_cases z:x=Str.ofString "load" \/ x=Str.ofString "swap"
  ·obtain ⟨y,w',rfl,tr⟩:=h1 z
   refine bQ (fun _=> ?_) (fun q=>absurd ?_ q)
   ·refine ⟨_,rfl,_,_,_,_,rfl,rfl,dg.of (sp _ _ ht),Zm, ?_⟩
    have:=k _ sp;unfold Dp at this;rw [if_pos tr] at this;exact this
   ·rcases z with rfl|rfl<;>decide +kernel
  ·have n1:x≠Str.ofString "load" :=fun q=>z (.inl q)
   have n2:x≠Str.ofString "swap" :=fun q=>z (.inr q);have tr:=h2 n1 n2;refine bQ (fun q=>absurd q ?_) (fun _=> ?_)
   ·simp [inV,QZ,n1.symm,n2.symm]
   ·have:=k _ sp
    unfold Dp at this;rw [if_neg (by rw [tr];decide)] at this;exact this
def Dh:D_->Nat
 | .one _=>1
 | .two _ _ _=>2
def qt (CH:Addr) (n:Nat) (K:PySem.W.Frag):Sp:=fun vs H Q _=>∃(A:o9) (s:bG) (v:V) (e:D_),vs=[.ref A.h,v]/\nM CH H A s/\Dat H v (lR e)/\sX e/\Dh e<=n/\Q (.int (vx s.bs e)) H
theorem Qo {au:Addr} {f:Addr} {fd:FuncData} (F:jX K "value_of" "Hand.value_of" bY f fd):cj P w K mg base jA 1 f fd ["self","part"] (qt au 0 K):=by
 refine F.ok gn (fun vs H Q E h=> ?_) (fun cdv A outer s H vs Q E hr h=> ?_)
 ·obtain ⟨A,s,v,e,rfl,_,_,_,z,_⟩:=h
  cases e<;>simp [Dh] at z
 ·obtain ⟨A,s,v,e,rfl,_,_,_,z,_⟩:=h
  cases e<;>simp [Dh] at z
theorem HF {au:Addr} {n:Nat} {f:Addr} {fd:FuncData} (F:jX K "value_of" "Hand.value_of" bY f fd) (bZ:MethAt P w K mg base (n+1) au "value_of" ["self","part"] (qt au n K)) (aK:gH K au) (gG:Gv mg "BOXES" (.str "abcdefgh")) (iT:Gv mg "ROUND" (.int 1000)):cj P w K mg base jA (n+1+1) f fd ["self","part"] (qt au (n+1) K):=by
 refine F.ok gn (fun vs H Q E h=> ?_) (fun cdv A outer s H vs Q E hr h=> ?_)
 ·obtain ⟨A,s,v,e,rfl,_⟩:=h
  rfl
 ·obtain ⟨B,z,v,e,rfl,c,d,eo,dp,k⟩:=h
  refine ⟨_,(aB (cG (aY cU (aN (aP (K:=K) rfl) (pv 1) aC (fun _ _=>rfl)) bA (aR _)) (aG (aZ (cP kO (aN (aP (K:=K) rfl) (pv 1) aC (fun _ _=>rfl)) (jZ (by rfl) iT.choose_spec.1 iT.choose_spec.2)))) bF)
   (aB (cG (aY cU (aN (aP (K:=K) rfl) (pv 1) aC (fun _ _=>rfl)) bA (aR _)) (aG (aZ (aN (aX (K:=K) rfl) (bK (K:=K) rfl (pv 0) rfl) (zU (K:=K) rfl PySem.F.plainAttrs_str PySem.F.slot_str_index PySem.F.type_str_index yL (jZ (by rfl) gG.choose_spec.1 gG.choose_spec.2) (aj (aN (aP (K:=K) rfl) (pv 1) aC (fun _ _=>rfl)) aA)) (fun _ _=>rfl)))) bF)
   (aB (bB (i:=2) gn.nd rfl (Or.inl rfl) (cT bZ aK.cls (hr.mono (Nat.le_refl _)) (pv 0) (aj (aN (aP (K:=K) rfl) (pv 1) aC (fun _ _=>rfl)) aA)))
   (aB (bB (i:=3) gn.nd rfl (Or.inl rfl) (cT bZ aK.cls (hr.mono (Nat.le_refl _)) (pv 0) (aj (aN (aP (K:=K) rfl) (pv 1) aC (fun _ _=>rfl)) aA)))
   (aG (aZ (cP kO (jR (aY cU (aN (aP (K:=K) rfl) (pv 1) aC (fun _ _=>rfl)) bA (aR _)) (cP iJ (pv 2) (pv 3)) (cP Fi (pv 2) (pv 3))) (jZ (by rfl) iT.choose_spec.1 iT.choose_spec.2)))))))), ?_⟩
  match e,d,eo,dp,k with
  | .one (.num m),d,eo,dp,k=>
    obtain ⟨t,rfl,ht⟩:=Sq (x:= .num m) d;refine ⟨_,rfl,_,_,_,_,rfl,rfl,dg.of ht,rfl,rfl,_,rfl, ?_⟩;refine bQ (fun _=> ?_) (fun z=>absurd (decide_eq_true rfl) z);exact ⟨_,rfl,_,_,_,_,rfl,rfl,dg.of ht,rfl,_,_,rfl,rfl,(by show (0:Int)<1000;decide),k⟩
  | .one (.box b),d,eo,dp,k=>
    obtain ⟨t,rfl,ht⟩:=Sq (x:= .box b) d;refine ⟨_,rfl,_,_,_,_,rfl,rfl,dg.of ht,rfl,rfl,_,rfl, ?_⟩;refine bQ (fun z=>absurd (of_decide_eq_true z) (by decide)) (fun _=> ?_);refine ⟨_,rfl,_,_,_,_,rfl,rfl,dg.of ht,rfl,rfl,_,rfl, ?_⟩;refine bQ (fun _=> ?_) (fun z=>absurd (decide_eq_true rfl) z);have hb:b<8:=eo;refine ⟨_,rfl,B.h,au,B.hx,_,_,rfl,c.h,aK.cls,aK.mW,rfl,rfl,_,rfl,_,_,_,_,rfl,rfl,dg.of ht,rfl,_,_,b,[],rfl,rfl,Oe hb,_,_,_,_,rfl,rfl,bH.of c.b,d_ (v:= .int ((z.bs[b]?).getD 0)) ?_,k⟩;have hl:b<z.bs.length:=by rw [c.bl];exact hb
    rw [List.getElem?_map,List.getElem?_eq_getElem hl];rfl
  | .two p x y,d,eo,dp,k=>
    obtain ⟨t,u,w',rfl,ht,du,dw⟩:=Vx d;have e1:sX (.one x)/\sX (.one y):=eo
    have dn:1<=n:=by
     have:2<=n+1:=dp;omega
    have np:∀q:Bool,(Str.ofString "number")≠(if q then Str.ofString "plus" else Str.ofString "minus"):=by decide +kernel
    have nb:∀q:Bool,(Str.ofString "box")≠(if q then Str.ofString "plus" else Str.ofString "minus"):=by decide +kernel
    refine ⟨_,rfl,_,_,_,_,rfl,rfl,dg.of ht,rfl,rfl,_,rfl, ?_⟩;refine bQ (fun z=>absurd (by simpa using (of_decide_eq_true z).symm) (np p)) (fun _=> ?_);refine ⟨_,rfl,_,_,_,_,rfl,rfl,dg.of ht,rfl,rfl,_,rfl, ?_⟩;refine bQ (fun z=>absurd (by simpa using (of_decide_eq_true z).symm) (nb p)) (fun _=> ?_);refine ⟨_,rfl,B.h,B.hx,_,rfl,c.h,rfl,_,rfl,_,_,_,_,rfl,rfl,dg.of ht,rfl,B,z,u,.one x,rfl,c,du,e1.1,dn, ?_⟩;refine ⟨_,rfl,B.h,B.hx,_,rfl,c.h,rfl,_,rfl,_,_,_,_,rfl,rfl,dg.of ht,rfl,B,z,w',.one y,rfl,c,dw,e1.2,dn, ?_⟩;refine ⟨_,rfl,_,_,_,_,rfl,rfl,dg.of ht,rfl,rfl,_,rfl, ?_⟩;cases p with
    | true=>
      refine bQ (fun _=> ?_) (fun z=>absurd (decide_eq_true rfl) z);exact ⟨_,rfl,_,rfl,_,_,rfl,rfl,_,_,rfl,rfl,(by show (0:Int)<1000;decide),k⟩
    | false=>
      refine bQ (fun z=>absurd (of_decide_eq_true z) (by decide)) (fun _=> ?_);exact ⟨_,rfl,_,rfl,_,_,rfl,rfl,_,_,rfl,rfl,(by show (0:Int)<1000;decide),k⟩
theorem JR (e:D_):Dh e<=2:=by cases e<;>simp [Dh]
def zE (CH:Addr) (K:PySem.W.Frag):Sp:=fun vs H Q _=>∃(A:o9) (s:bG) (v:V) (q:Bool) (e f:D_) (n:Nat),vs=[.ref A.h,v]/\nM CH H A s/\Dat H v (lK (.xU q e f n))/\sX e/\sX f/\Q (.bl (sV s.bs (.xU q e f n))) H
theorem Ms {au:Addr} {f:Addr} {fd:FuncData} (F:jX K "holds" "Hand.holds" dF f fd) (bZ:MethAt P w K mg base 3 au "value_of" ["self","part"] (qt au 2 K)) (aK:gH K au):cj P w K mg base jA 4 f fd ["self","row"] (zE au K):=by
 refine F.ok kJ (fun vs H Q E h=> ?_) (fun cdv A outer s H vs Q E hr h=> ?_)
 ·obtain ⟨A,s,v,q,e,f,n,rfl,_⟩:=h
  rfl
 ·obtain ⟨B,z,v,q,e,f,n,rfl,c,d,o1,o2,k⟩:=h
  refine ⟨_,(aB (bB (i:=2) kJ.nd rfl (Or.inl rfl) (cT bZ aK.cls (hr.mono (by decide)) (pv 0) (aj (aN (aP (K:=K) rfl) (pv 1) aC (fun _ _=>rfl)) aA)))
   (aB (bB (i:=3) kJ.nd rfl (Or.inl rfl) (cT bZ aK.cls (hr.mono (by decide)) (pv 0) (aj (aN (aP (K:=K) rfl) (pv 1) aC (fun _ _=>rfl)) aA)))
   (aG (aZ (jR (aY cU (aN (aP (K:=K) rfl) (pv 1) aC (fun _ _=>rfl)) bA (aR _)) (d7 cU (pv 2) (pv 3) (aR _)) (d7 Cp (pv 2) (pv 3) (aR _))))))), ?_⟩
  obtain ⟨t,ws,rfl,ht,x,y,rfl,dx,dy⟩:=Iz d;refine ⟨_,rfl,B.h,B.hx,_,rfl,c.h,rfl,_,rfl,_,_,_,_,rfl,rfl,dg.of ht,rfl,B,z,x,e,rfl,c,dx,o1,JR e, ?_⟩;refine ⟨_,rfl,B.h,B.hx,_,rfl,c.h,rfl,_,rfl,_,_,_,_,rfl,rfl,dg.of ht,rfl,B,z,y,f,rfl,c,dy,o2,JR f, ?_⟩;refine ⟨_,rfl,_,_,_,_,rfl,rfl,dg.of ht,rfl,rfl,_,rfl, ?_⟩;cases q with
  | true=>
    refine bQ (fun _=> ?_) (fun z=>absurd (decide_eq_true rfl) z);refine ⟨_,rfl,_,rfl,rfl, ?_⟩
    have:decide (V.int (vx z.bs e)=V.int (vx z.bs f))=sV z.bs (.xU true e f n):=by
     show _=decide (vx z.bs e=vx z.bs f);rw [Bool.eq_iff_iff,decide_eq_true_iff,decide_eq_true_iff];exact ⟨fun z=>V.int.inj z,fun z=>by rw [z]⟩
    rw [this];exact k
  | false=>
    refine bQ (fun z=>absurd (of_decide_eq_true z) (by decide)) (fun _=> ?_);exact ⟨_,rfl,_,rfl,_,_,rfl,rfl,k⟩
def zu (CH:Addr) (K:PySem.W.Frag):Sp:=fun vs H Q _=>∃(A:o9) (s:bG) (b:Nat) (i:Int),vs=[.ref A.h,.str (rA b),.int i]/\nM CH H A s/\b<8/\Q .non (upd H A.b (.lst ((s.bs.set b i).map V.int)))
theorem Qq {au:Addr} {f:Addr} {fd:FuncData} (F:jX K "take" "Hand.take" dX f fd) (aK:gH K au) (gG:Gv mg "BOXES" (.str "abcdefgh")):cj P w K mg base jA 1 f fd ["self","box","number"] (zu au K):=by
 refine F.ok zM (fun vs H Q E h=> ?_) (fun cdv A outer s H vs Q E hr h=> ?_)
 ·obtain ⟨A,s,b,i,rfl,_⟩:=h
  rfl
 ·obtain ⟨B,z,b,i,rfl,c,hb,k⟩:=h
  refine ⟨_,(aG (rY (pv 2) (sG (bK (K:=K) rfl (pv 0) rfl) (zU (K:=K) rfl PySem.F.plainAttrs_str PySem.F.slot_str_index PySem.F.type_str_index yL (jZ (by rfl) gG.choose_spec.1 gG.choose_spec.2) (aj (pv 1) aA)) set_list))), ?_⟩;refine ⟨_,rfl,_,rfl,B.h,au,B.hx,_,_,rfl,c.h,aK.cls,aK.mW,rfl,rfl,_,rfl,_,_,b,[],rfl,rfl,Oe hb, ?_⟩;rw [List.map_set] at k;exact ⟨B.b,_,_,b,rfl,rfl,c.b,(by rw [List.length_map,c.bl];unfold Ib;rw [if_pos (by omega),if_pos (by omega)];simp),k⟩
def TQ (CH:Addr) (K:PySem.W.Frag):Sp:=fun vs H Q _=>∃(A:o9) (s:bG) (v:V) (r:Rw) (m:Nat),vs=[.ref A.h,v]/\nM CH H A s/\Dat H v (lK r)/\BW m r/\touch r=false/\s.sy.length<1000000 /\ ∀H',nM CH H' A (ud s r)->KH A H H'->Q .non H'
theorem Xv {au:Addr} {f:Addr} {fd:FuncData} (F:jX K "do" "Hand.do" gB f fd) (bZ:MethAt P w K mg base 3 au "value_of" ["self","part"] (qt au 2 K)) (oK:MethAt P w K mg base 1 au "take" ["self","box","number"] (zu au K)) (Bb:MethAt P w K mg base 4 au "holds" ["self","row"] (zE au K)) (aK:gH K au):cj P w K mg base jA 5 f fd ["self","row"] (TQ au K):=by
 refine F.ok Fb (fun vs H Q E h=> ?_) (fun cdv A outer s H vs Q E hr h=> ?_)
 ·obtain ⟨A,s,v,r,m,rfl,_⟩:=h
  rfl
 ·obtain ⟨B,z,v,r,m,rfl,c,d,ro,tr,sl,k⟩:=h
  refine ⟨_,(aB (vY (K:=K) rfl (pv 0) aC FN)
   (aG (cG (aY cU (aN (aP (K:=K) rfl) (pv 1) aC (fun _ _=>rfl)) bA (aR _)) (aG (eX (cT oK aK.cls (hr.mono (by decide)) (pv 0) (aj (aN (aP (K:=K) rfl) (pv 1) aC (fun _ _=>rfl)) (aj (cT bZ aK.cls (hr.mono (by decide)) (pv 0) (aj (aN (aP (K:=K) rfl) (pv 1) aC (fun _ _=>rfl)) aA)) aA))))) (aG (cG (aY cU (aN (aP (K:=K) rfl) (pv 1) aC (fun _ _=>rfl)) bA (aR _)) (aG (eX (gk (K:=K) rfl (bK (K:=K) rfl (pv 0) rfl) (aj (cT bZ aK.cls (hr.mono (by decide)) (pv 0) (aj (aN (aP (K:=K) rfl) (pv 1) aC (fun _ _=>rfl)) aA)) aA)))) (aG (cG (PW.pt (tW (aY cU (aN (aP (K:=K) rfl) (pv 1) aC (fun _ _=>rfl)) bA (aR _)) (pQ (jP (iI (cT Bb aK.cls (hr.mono (by decide)) (pv 0) (aj (pv 1) aA))))))) (aG (gY (K:=K) rfl (pv 0) (aN (aP (K:=K) rfl) (pv 1) (LR Ei aC) (fun _ _=>rfl)) rfl)) bF))))))), ?_⟩
  refine ⟨_,rfl,B.h,au,B.hx,_,_,rfl,c.h,aK.cls,aK.ux,rfl,_,_,rfl,rfl,B.hx,_,c.h,(by show 5<1000;decide), ?_⟩;rw [zR];have c1:=c.pP (z.pos+1) z.st;have k1:KH B H (upd H B.h (.ins au B.hx (hF B.r ((z.pos+1:Nat):Int) B.b B.sy z.st))):=KH.pP;have d1:=d.keep (c.tup k1) _ (Ad r);dsimp only;rw [show ((z.pos:Nat):Int)+1=((z.pos+1:Nat):Int) by omega];generalize (upd H B.h (.ins au B.hx (hF B.r ((z.pos+1:Nat):Int) B.b B.sy z.st)))=H1 at c1 k1 d1 ⊢;obtain ⟨t,ws,rfl,ht,ps⟩:=Iz d1;cases r with
  | load b cc=>cases tr
  | store cc e=>cases tr
  | swap b cc e=>cases tr
  | uy b e=>
    obtain ⟨x,rfl,dx⟩:=ps;refine ⟨_,rfl,_,_,_,_,rfl,rfl,dg.of ht,rfl,rfl,_,rfl, ?_⟩;refine bQ (fun _=> ?_) (fun z=>absurd (decide_eq_true rfl) z);refine ⟨_,rfl,B.h,B.hx,_,rfl,c1.h,rfl,_,rfl,_,_,_,_,rfl,rfl,dg.of ht,rfl,_,rfl,B.h,B.hx,_,rfl,c1.h,rfl,_,rfl,_,_,_,_,rfl,rfl,dg.of ht,rfl,B,_,x,e,rfl,c1,dx,ro.2,JR e, ?_⟩;exact ⟨B,_,b,_,rfl,c1,ro.1,k _ (c1.Lh _ (by rw [List.length_set];exact c1.bl)) (k1.trans KH.Lh)⟩
  | say e=>
    obtain ⟨x,rfl,dx⟩:=ps;refine ⟨_,rfl,_,_,_,_,rfl,rfl,dg.of ht,rfl,rfl,_,rfl, ?_⟩;refine bQ (fun z=>absurd (of_decide_eq_true z) (by decide)) (fun _=> ?_);refine ⟨_,rfl,_,_,_,_,rfl,rfl,dg.of ht,rfl,rfl,_,rfl, ?_⟩;refine bQ (fun _=> ?_) (fun z=>absurd (decide_eq_true rfl) z);refine ⟨_,rfl,B.h,au,B.hx,_,_,rfl,c1.h,aK.cls,aK.sI,rfl,.inl ⟨rfl,_,bH.of c1.y⟩,_,rfl,B.h,B.hx,_,rfl,c1.h,rfl,_,rfl,_,_,_,_,rfl,rfl,dg.of ht,rfl,B,_,x,e,rfl,c1,dx,ro,JR e, ?_⟩;refine ⟨_,_,_,rfl,rfl,c1.y,(by rw [List.length_map,sizeLine_eq];show z.sy.length<_;omega), ?_⟩;have:=k _ (c1.TV (z.sy++[vx z.bs e])) (k1.trans KH.TV);rw [List.map_append] at this;exact this
  | go n=>
    obtain rfl:=ps;refine ⟨_,rfl,_,_,_,_,rfl,rfl,dg.of ht,rfl,rfl,_,rfl, ?_⟩;refine bQ (fun z=>absurd (of_decide_eq_true z) (by decide)) (fun _=> ?_);refine ⟨_,rfl,_,_,_,_,rfl,rfl,dg.of ht,rfl,rfl,_,rfl, ?_⟩;refine bQ (fun z=>absurd (of_decide_eq_true z) (by decide)) (fun _=> ?_);refine ⟨_,rfl,_,_,_,_,rfl,rfl,dg.of ht,rfl,rfl,_,rfl, ?_⟩;refine bQ (fun _=> ?_) (fun z=>absurd (decide_eq_true rfl) z);refine iK ?_;refine ⟨_,rfl,_,rfl,_,_,_,_,rfl,rfl,dg.of ht,rfl,_,rfl,B.h,au,B.hx,_,rfl,c1.h,aK.cls,aK.ux,(by show 5<1000;decide), ?_⟩;rw [zR];exact k _ (c1.pP n z.st) (k1.trans KH.pP)
  | xU q e f n=>
    obtain ⟨x,y,rfl,dx,dy⟩:=ps;refine ⟨_,rfl,_,_,_,_,rfl,rfl,dg.of ht,rfl,rfl,_,rfl, ?_⟩;refine bQ (fun z=>absurd (of_decide_eq_true z) (by decide)) (fun _=> ?_);refine ⟨_,rfl,_,_,_,_,rfl,rfl,dg.of ht,rfl,rfl,_,rfl, ?_⟩;refine bQ (fun z=>absurd (of_decide_eq_true z) (by decide)) (fun _=> ?_);refine ⟨_,rfl,_,_,_,_,rfl,rfl,dg.of ht,rfl,rfl,_,rfl, ?_⟩;refine bQ (fun z=>absurd (of_decide_eq_true z) (by decide)) (fun _=> ?_);refine ⟨_,rfl,B.h,B.hx,_,rfl,c1.h,rfl,_,rfl,B,_,_,q,e,f,n,rfl,c1,d1,ro.1,ro.2,_,rfl, ?_⟩;cases hh:sV z.bs (.xU q e f n) with
    | true=>
      refine iy ?_;refine k _ ?_ k1;show nM au H1 B {z with pos:=if sV z.bs (.xU q e f n) then z.pos+1 else n};rw [hh];exact c1
    | false=>
      refine iK ?_;refine ⟨_,rfl,_,rfl,_,_,_,_,rfl,rfl,dg.of ht,rfl,_,rfl,B.h,au,B.hx,_,rfl,c1.h,aK.cls,aK.ux,(by show 5<1000;decide), ?_⟩;rw [zR];refine k _ ?_ (k1.trans KH.pP);show nM au _ B {z with pos:=if sV z.bs (.xU q e f n) then z.pos+1 else n};rw [hh];exact c1.pP n z.st
def eU (H:Hp) (r:Addr) (m:Nat) (rws:List Rw):Prop:=∃ts,H r=some (.lst ts)/\aO H ts (rws.map lK)/\(∀x∈rws,BW m x)/\rws.length<=1000
theorem Dd (rws:List Rw):pX (rws.map lK)=true:=jo lK Ad rws
theorem eU.keep {H H':Hp} {r:Addr} {m:Nat} {rws:List Rw} (h:eU H r m rws) (k:∀o,H r=some o->H' r=some o) (t:∀x xs,H x=some (.tup xs)->H' x=some (.tup xs)):eU H' r m rws:=by
 obtain ⟨ts,e,d,q⟩:=h;exact ⟨ts,k _ e,d.keep t _ (Dd rws),q⟩
theorem eU.same {H H':Hp} {r:Addr} {m:Nat} {rws:List Rw} (h:eU H r m rws) (k:Same H H'):eU H' r m rws:=h.keep (fun o e=>k _ _ e) k.tups
def zB (CH:Addr) (K:PySem.W.Frag):Sp:=fun vs H Q _=>∃(A:o9) (s:bG) (m:Nat),vs=[.ref A.h]/\nM CH H A s/\eU H A.r m s.rws/\A.r≠A.b/\A.r≠A.sy/\s.sy.length<900000 /\ ∀H',nM CH H' A (lead s)->KH A H H'->Q .non H'
theorem Qu {au:Addr} {f:Addr} {fd:FuncData} (F:jX K "lead_on" "Hand.lead_on" cO f fd) (tR:FnAt P w K mg base 1 "cell_of" ["row"] (qx K)) (Kc:MethAt P w K mg base 5 au "do" ["self","row"] (TQ au K)) (aK:gH K au) (fX:Gv mg "MOST_UNTOUCHING" (.int 60)) (Bt:yX mg):cj P w K mg base jA 6 f fd ["self"] (zB au K):=by
 refine F.ok ju (fun vs H Q E h=> ?_) (fun cdv A outer s H vs Q E hr h=> ?_)
 ·obtain ⟨A,s,m,rfl,_⟩:=h
  rfl
 ·obtain ⟨B,s,m,rfl,c,R,Xx,Z5,sl,k⟩:=h
  refine ⟨_,(aB (bB (i:=1) ju.nd rfl (Or.inl rfl) aC)
   (aB (Lr PassesOwn.never (PW.pt (Ua (aY Cp (bK (K:=K) rfl (pv 0) rfl) (aQ (bh (K:=K) rfl) (by rfl) Bt.gR eN (aj (bK (K:=K) rfl (pv 0) rfl) aA)) (aR _)) (Qa (aY Mi (bM tR (hr.mono (by decide)) (by rfl) (aj (aN (aX (K:=K) rfl) (bK (K:=K) rfl (pv 0) rfl) (bK (K:=K) rfl (pv 0) rfl) (fun _ _=>rfl)) aA)) mV (aR _))))) (aB (cG (aY cU (pv 1) (jZ (by rfl) fX.choose_spec.1 fX.choose_spec.2) (aR _)) (aB (gY (K:=K) rfl (pv 0) bA rfl)
   (aG Qc)) bF)
   (aB (eX (cT Kc aK.cls (hr.mono (by decide)) (pv 0) (aj (aN (aX (K:=K) rfl) (bK (K:=K) rfl (pv 0) rfl) (bK (K:=K) rfl (pv 0) rfl) (fun _ _=>rfl)) aA)))
   (aG (Uc (i:=1) ju.nd rfl (Or.inl rfl) aC FN)))))
   (aG (gY (K:=K) rfl (pv 0) (jR (aY Cp (bK (K:=K) rfl (pv 0) rfl) (aQ (bh (K:=K) rfl) (by rfl) Bt.gR eN (aj (bK (K:=K) rfl (pv 0) rfl) aA)) (aR _)) bA bA) rfl)))), ?_⟩
  have nrh:B.r≠B.h:=by
   obtain ⟨ts,e,_⟩:=R;exact eO e c.h (by intro z;cases z)
  refine ⟨fun n σ H1=>∃(d:Nat) (z:bG),σ=[some (.ref B.h),some (.int d)]/\d<=60/\n=60 - d/\nM au H1 B z/\KH B H H1/\led (60 - d) z=lead s/\z.rws=s.rws/\z.sy.length<=s.sy.length+d,
   ⟨60,0,s,rfl,by decide,rfl,c,KH.of_same (Same.refl _),rfl,rfl,Nat.le_refl _⟩,fun n σ H1 hσ=> ?_⟩
  obtain ⟨d,z,rfl,d60,rfl,c1,k1,hl,zr,zs⟩:=hσ
  have R1:eU H1 B.r m z.rws:=by
   rw [zr];exact R.keep (fun o e=>k1 _ _ e nrh Xx Z5) (c.tup k1)
  obtain ⟨ts,hts,Wi,ro,rl⟩:=R1;have ln:ts.length=z.rws.length:=by rw [Wi.length,List.length_map]
  refine ⟨_,rfl,B.h,au,B.hx,_,_,rfl,c1.h,aK.cls,aK.ux,rfl,_,rfl,B.h,au,B.hx,_,_,rfl,c1.h,aK.cls,aK.pR,rfl,B.r,_,rfl,.inl (bH.of hts),_,_,rfl,rfl,_,rfl, ?_⟩;cases er:z.rws[z.pos]? with
  | none=>
    have ge:z.rws.length<=z.pos:=List.getElem?_eq_none_iff.mp er;have lf:¬decide (((z.pos:Nat):Int)<((ts.length:Nat):Int))=true:=by rw [ln];simp;omega
    refine bQ (fun q=>absurd q lf) (fun _=> ?_);refine iy ?_;refine ⟨_,rfl,B.h,au,B.hx,_,_,rfl,c1.h,aK.cls,aK.ux,rfl,_,rfl,B.h,au,B.hx,_,_,rfl,c1.h,aK.cls,aK.pR,rfl,B.r,_,rfl,.inl (bH.of hts),_,_,rfl,rfl,_,rfl, ?_⟩;refine bQ (fun q=>absurd q lf) (fun _=> ?_);refine ⟨_,rfl,B.h,au,B.hx,_,rfl,c1.h,aK.cls,aK.j6,(by show 5<1000;decide), ?_⟩;rw [Fg];refine k _ ?_ (k1.trans KH.pP)
    have:lead s={z with st:= "ends" }:=by
     rw [←hl];cases e60:60 - d<;>simp only [led,er]
    rw [this];exact c1.pP z.pos "ends"
  | some r=>
    have lt:z.pos<z.rws.length:=(List.getElem?_eq_some_iff.mp er).1;have lT:decide (((z.pos:Nat):Int)<((ts.length:Nat):Int))=true:=by rw [ln];simp;omega
    obtain ⟨v,ev,dv⟩:=Wi.getD (i:=z.pos) (d:=lK r) (by rw [List.getElem?_map,er];rfl);refine bQ (fun _=> ?_) (fun q=>absurd lT q);refine ⟨_,rfl,B.h,au,B.hx,_,_,rfl,c1.h,aK.cls,aK.pR,rfl,_,rfl,B.h,au,B.hx,_,_,rfl,c1.h,aK.cls,aK.ux,rfl,_,_,_,_,rfl,rfl,bH.of hts,d_ ev,v,r,rfl,dv,fun H2 s2=>⟨rfl,_,rfl, ?_⟩⟩;have c2:=c1.same s2;have Yb:=s2 _ _ hts;have k2:=k1.trans (KH.of_same (A:=B) s2);cases tr:touch r with
    | true=>
      refine bQ (fun q=>absurd (of_decide_eq_true q) (by unfold Dp;rw [if_pos tr];intro z;cases z)) (fun _=> ?_);refine ⟨_,rfl,B.h,au,B.hx,_,_,rfl,c2.h,aK.cls,aK.ux,rfl,_,rfl,B.h,au,B.hx,_,_,rfl,c2.h,aK.cls,aK.pR,rfl,B.r,_,rfl,.inl (bH.of Yb),_,_,rfl,rfl,_,rfl, ?_⟩;refine bQ (fun _=> ?_) (fun q=>absurd lT q);refine ⟨_,rfl,B.h,au,B.hx,_,rfl,c2.h,aK.cls,aK.j6,(by show 5<1000;decide), ?_⟩;rw [Fg];refine k _ ?_ (k2.trans KH.pP)
      have:lead s={z with st:= "waits" }:=by
       rw [←hl];cases e60:60 - d<;>simp only [led,er,tr,if_true]
      rw [this];exact c2.pP z.pos "waits"
    | false=>
      refine bQ (fun _=> ?_) (fun q=>absurd (decide_eq_true (by unfold Dp;rw [if_neg (by rw [tr];decide)])) q);refine ⟨fun σ' H'=>∃m',m'<60 - d /\ ∃(d:Nat) (z:bG),σ'=[some (.ref B.h),some (.int d)]/\d<=60/\m'=60 - d/\nM au H' B z/\KH B H H'/\led (60 - d) z=lead s/\z.rws=s.rws/\z.sy.length<=s.sy.length+d,fun _ _ q=>q, ?_⟩;refine ⟨_,rfl,rfl,_,rfl, ?_⟩
      by_cases e6:d=60
      ·subst e6
       refine bQ (fun _=> ?_) (fun q=>absurd (decide_eq_true rfl) q);refine ⟨_,rfl,B.h,au,B.hx,_,rfl,c2.h,aK.cls,aK.j6,(by show 5<1000;decide), ?_⟩;rw [Fg];refine k _ ?_ (k2.trans KH.pP)
       have:lead s={z with st:= "lost" }:=by
        rw [←hl];show led 0 z=_;simp only [led,er,tr];rfl
       rw [this];exact c2.pP z.pos "lost"
      ·refine bQ (fun q=>absurd (by have:=V.int.inj (of_decide_eq_true q);omega) e6) (fun _=> ?_)
       refine ⟨_,rfl,B.h,B.hx,_,rfl,c2.h,rfl,_,rfl,B.h,au,B.hx,_,_,rfl,c2.h,aK.cls,aK.pR,rfl,_,rfl,B.h,au,B.hx,_,_,rfl,c2.h,aK.cls,aK.ux,rfl,_,_,_,_,rfl,rfl,bH.of Yb,d_ ev,B,z,v,r,m,rfl,c2,dv.same s2 _,ro r (List.mem_of_getElem? er),tr,by omega,fun H3 c3 k3=> ?_⟩;refine ⟨_,rfl,_,_,rfl,rfl,60 - (d+1),by omega,d+1,ud z r,rfl,by omega,rfl,c3,k2.trans k3, ?_,by rw [yQ,zr], ?_⟩
       ·rw [←hl,show 60 - d=(60 - (d+1))+1 by omega]
        simp only [led,er,tr];rfl
       ·have:=Dj z r
        omega
def wF (pg nb hs tn:Addr):List (Str×V):=[("program",.ref pg),("numbers",.ref nb),("hands",.ref hs),("turns",.ref tn)]
def ou (m:Int) (ns:List Int):Prop:=(ns.length:Int)=m /\ ∀x∈ns,0<=x/\x<1000
def pO (CN:Addr) (K:PySem.W.Frag):Sp:=fun vs H Q E=>∃(cl:Addr) (m:Int) (ns:List Int),vs=[.ref cl,.int m]/\H cl=some (.lst (ns.map V.int))/\ns.length<=100/\(ou m ns -> ∀H',Same H H'->Q .non H')/\(¬ou m ns -> ∀H',Same H H'->E (.ref CN) none H')
theorem Cw {f:Addr} {fd:FuncData} (F:jX K "check_numbers" "check_numbers" cA f fd) (jW:FnAt P w K mg base 2 "is_below" ["value","count"] (qy K)) (iT:Gv mg "ROUND" (.int 1000)) (Bt:yX mg) {aW:Addr} (jh:Xr K mg aW "NoNumber"):cj P w K mg base (um P w) 3 f fd ["cells","count"] (pO aW K):=by
 refine F.V4 rO (fun vs H Q E h=> ?_) (fun cdv A outer s H vs Q E hr h hR=> ?_)
 ·obtain ⟨cl,m,ns,rfl,_⟩:=h
  rfl
 ·obtain ⟨cl,m,ns,rfl,hc,nl,k1,k2⟩:=h
  refine ⟨_,(aB (cG (PW.pt (tW (jP (iI (aQ (dR (K:=K) (cv:= .ty "list") (c:= .type "list") rfl rfl) (by rfl) Bt.cg bR (aj (pv 0) (aj (gC (v:= .ty "list") (by rfl) Bt.iQ fV rfl) aA))))) (pQ (aY oh (aQ (bh (K:=K) rfl) (by rfl) Bt.gR eN (aj (pv 0) aA)) (pv 1) (aR _))))) (aG (qG PySem.F.excBase_ValueError jh.ex jh.bd (by rfl) rfl rfl hR (aj bA aA))) bF)
   (aG (cG (jP (iI (aQ (jy (K:=K) rfl rfl) (by rfl) Bt.Oo Gi (aj (gZ rfl (N:=["number"]) (own:=["number"]) (caps:=[]) (bw.of (by kernel_rfl)) (dM (K:=K) rfl (pv 0)) (fun _ _ _ _=>(bJ (i:=0) (show List.Nodup (["number"]:List Str) by decide +kernel) rfl (Or.inl rfl))) (fun _ _ _ _=>dZ) (fun _ _ _ _=>(bM jW (hr.mono (by decide)) (by rfl) (aj (pv 0) (aj (jZ (by rfl) iT.choose_spec.1 iT.choose_spec.2) aA))))) aA)))) (aG (qG PySem.F.excBase_ValueError jh.ex jh.bd (by rfl) rfl rfl hR (aj bA aA))) bF))), ?_⟩
  refine ⟨_,rfl,_,_,true,rfl,.lst hc,gP K,true,rfl, ?_⟩;refine iy ?_;refine ⟨_,rfl,cl,_,rfl,.inl (bH.of hc),_,rfl,rfl,_,rfl, ?_⟩;rw [List.length_map]
  by_cases el:(ns.length:Int)=m
  rotate_left
  ·refine bQ (fun _=> ?_) (fun z=>absurd (by simp [el]) z)
   exact ⟨(by show 1<=sizeLine;decide),k2 (fun z=>el z.1) H (Same.refl _)⟩
  refine qM (by rw [el]) ?_;refine ⟨_,rfl,cl,rfl,⟨_,bH.of hc⟩,fun D hD=> ?_⟩;refine lN (K:=K) (fun i=>(ns[i]?).map fun x=>V.bl (decide (xT x 1000))) hD (bH.of hc) (by rw [List.length_map];omega) (fun i v H2 G F hi s2 kG kF=> ?_) (fun H2 s2 e2=> ?_)
  ·rw [List.getElem?_map] at hi
   cases ei:ns[i]? with
   | none=>rw [ei] at hi;cases hi
   | some z=>
     rw [ei] at hi;cases hi;exact ⟨_,rfl,z,1000,rfl,kF _ H2 (Same.refl _) (by rw [ei];rfl)⟩
  rw [List.length_map,qQ] at e2;refine ⟨D,ns.map (fun x=>decide (xT x 1000)),rfl,bH.of (by rw [e2,List.map_map];rfl),_,rfl, ?_⟩
  by_cases al:∀x∈ns,xT x 1000
  ·have ea:(ns.map (fun x=>decide (xT x 1000))).all id=true:=by
    rw [List.all_map,List.all_eq_true];intro h hh;exact decide_eq_true (al h hh)
   rw [ea];refine iy ?_;exact k1 ⟨el,fun x hx=>al x hx⟩ H2 s2
  ·have ea:(ns.map (fun x=>decide (xT x 1000))).all id=false:=by
    rw [List.all_map,←Bool.not_eq_true,List.all_eq_true];intro z;exact al fun h hh=>of_decide_eq_true (p:=xT h 1000) (z h hh)
   rw [ea];refine iK ?_;exact ⟨(by show 1<=sizeLine;decide),k2 (fun z=>al fun x hx=>z.2 x hx) H2 s2⟩
def rJ (CW CH:Addr) (K:PySem.W.Frag):Sp:=fun vs H Q _=>∃(o dx pg nb hl tn:Addr) (A:o9) (s:bG) (m:Nat) (ns:List Int) (r:Rw),vs=[.ref o,.ref A.h]/\H o=some (.ins CW dx (wF pg nb hl tn))/\H nb=some (.lst (ns.map V.int))/\ns.length=m/\nM CH H A s/\eU H A.r m s.rws /\
 s.rws[s.pos]? = some r/\touch r=true/\nb≠A.b/\nb≠A.sy /\
 ∀t H',H t=none->H' t=some (.tup (El ns s.bs r))->nM CH H' A {s with bs:=p8 ns s.bs r}->H' nb=some (.lst ((cZ ns s.bs r).map V.int))->(∀x u,H x=some u->x≠nb->x≠A.b->H' x=some u)->Q (.ref t) H'
theorem Fo {ak au:Addr} {f:Addr} {fd:FuncData} (F:jX K "touch_by" "Works.touch_by" b_ f fd) (tR:FnAt P w K mg base 1 "cell_of" ["row"] (qx K)) (bZ:MethAt P w K mg base 3 au "value_of" ["self","part"] (qt au 2 K)) (oK:MethAt P w K mg base 1 au "take" ["self","box","number"] (zu au K)) (aM:dz K ak) (aK:gH K au):cj P w K mg base jA 4 f fd ["self","one"] (rJ ak au K):=by
 refine F.ok dU (fun vs H Q E h=> ?_) (fun cdv A outer s H vs Q E hr h=> ?_)
 ·obtain ⟨o,dx,pg,nb,hl,tn,A,s,m,ns,r,rfl,_⟩:=h
  rfl
 ·obtain ⟨o,dx,pg,nb,hl,tn,B,z,m,ns,r,rfl,ho,hnb,nl,c,R,er,tr,Ry,V6,k⟩:=h
  refine ⟨_,(aB (bB (i:=2) dU.nd rfl (Or.inl rfl) (aN (aX (K:=K) rfl) (bK (K:=K) rfl (pv 1) rfl) (bK (K:=K) rfl (pv 1) rfl) (fun _ _=>rfl)))
   (aB (bB (i:=3) dU.nd rfl (Or.inl rfl) (bM tR (hr.mono (by decide)) (by rfl) (aj (pv 2) aA)))
   (aB (bB (i:=4) dU.nd rfl (Or.inl rfl) (jR (aY cU (aN (aP (K:=K) rfl) (pv 2) aC (fun _ _=>rfl)) bA (aR _)) mV (aN (aX (K:=K) rfl) (bK (K:=K) rfl (pv 0) rfl) (pv 3) (fun _ _=>rfl))))
   (aB (bB (i:=5) dU.nd rfl (Or.inl rfl) (jR (aY cU (aN (aP (K:=K) rfl) (pv 2) aC (fun _ _=>rfl)) bA (aR _)) mV (cT bZ aK.cls (hr.mono (by decide)) (pv 1) (aj (aN (aP (K:=K) rfl) (pv 2) (LR Ei aC) (fun _ _=>rfl)) aA))))
   (aB (cG (aY Hy (pv 4) mV (aR _)) (aG (eX (cT oK aK.cls (hr.mono (by decide)) (pv 1) (aj (aN (aP (K:=K) rfl) (pv 2) aC (fun _ _=>rfl)) (aj (pv 4) aA))))) bF)
   (aB (cG (aY Hy (pv 5) mV (aR _)) (aG (rY (pv 5) (sG (bK (K:=K) rfl (pv 0) rfl) (pv 3) set_list))) bF)
   (aG (aZ (fP (aj (aN (aP (K:=K) rfl) (pv 2) aC (fun _ _=>rfl)) (aj (pv 3) (aj (pv 4) (aj (pv 5) aA))))))))))))), ?_⟩
  obtain ⟨ts,hts,Wi,ro,rl⟩:=R;obtain ⟨v,ev,dv⟩:=Wi.getD (i:=z.pos) (d:=lK r) (by rw [List.getElem?_map,er];rfl);have G8:=ro r (List.mem_of_getElem? er);refine ⟨_,rfl,B.h,au,B.hx,_,_,rfl,c.h,aK.cls,aK.pR,rfl,_,rfl,B.h,au,B.hx,_,_,rfl,c.h,aK.cls,aK.ux,rfl,_,_,_,_,rfl,rfl,bH.of hts,d_ ev, ?_⟩;refine ⟨_,rfl,v,r,rfl,dv,fun H1 s1=> ?_⟩;have c1:=c.same s1;have ho1:=s1 _ _ ho;have Ae:=s1 _ _ hnb;obtain ⟨t,ws,rfl,ht,ps⟩:=Iz (dv.same s1 _);have nob:o≠nb:=eO ho1 Ae (by intro z;cases z);have noB:o≠B.b:=eO ho1 c1.b (by intro z;cases z);have ntb:t≠B.b:=eO ht c1.b (by intro z;cases z);have ntn:t≠nb:=eO ht Ae (by intro z;cases z);have cellOf:∀cc,cc<m->ns[cc]? = some ((ns[cc]?).getD 0):=fun cc h=>by rw [List.getElem?_eq_getElem (by omega)];rfl
  have cellAt:∀cc,cc<m->(ns.map V.int)[cc]? = some (.int ((ns[cc]?).getD 0)):=fun cc h=>by rw [List.getElem?_map,cellOf cc h];rfl
  have X4:∀cc,cc<m->Ib (ns.map V.int).length ((cc:Nat):Int)=some cc:=fun cc h=>by rw [List.length_map];unfold Ib;rw [if_pos (by omega),if_pos (by omega)];simp
  cases r with
  | load b cc=>
    obtain rfl:=ps;refine ⟨_,rfl,_,_,_,_,rfl,rfl,dg.of ht,rfl,rfl,_,rfl, ?_⟩;refine bQ (fun z=>absurd (of_decide_eq_true z) (by decide)) (fun _=> ?_);refine ⟨_,rfl,o,ak,dx,_,_,rfl,ho1,aM.cls,aM.jK,rfl,_,rfl,_,_,_,_,rfl,rfl,bH.of Ae,d_ (cellAt cc G8.2), ?_⟩;refine ⟨_,rfl,_,_,_,_,rfl,rfl,dg.of ht,rfl,rfl,_,rfl, ?_⟩;refine bQ (fun _=> ?_) (fun z=>absurd (decide_eq_true rfl) z);refine ⟨_,rfl,rfl,_,rfl, ?_⟩;refine iK ?_;refine ⟨_,rfl,B.h,B.hx,_,rfl,c1.h,rfl,_,rfl,_,_,_,_,rfl,rfl,dg.of ht,rfl,_,rfl,B,z,b,_,rfl,c1,G8.1, ?_⟩;refine ⟨_,rfl,rfl,_,rfl, ?_⟩;refine iy ?_;have c2:=c1.Lh (z.bs.set b ((ns[cc]?).getD 0)) (by rw [List.length_set];exact c1.bl);refine ⟨_,rfl,_,_,_,_,rfl,rfl,dg.of (by rw [aF ntb];exact ht),rfl,_,rfl,_,rfl,_,rfl,(by show 4<=sizeLine;decide),fun p hp=> ?_⟩;have sp:=aL (o:=HO.tup [V.str (Str.ofString "load"),V.int cc,V.int ((ns[cc]?).getD 0),V.non]) hp;refine k p _ ?_ ?_ (c2.same sp) (sp _ _ (by rw [aF Ry];exact Ae)) ?_
    ·refine s1.free ?_
     have:p≠B.b:=fun e=>by rw [e,aq] at hp;cases hp
     rw [aF this] at hp;exact hp
    ·rw [aq]
     show some (HO.tup [V.str (Str.ofString "load"),V.int cc,V.int ((ns[cc]?).getD 0),V.non])=some (HO.tup [V.str (Str.ofString "load"),V.int cc,oV (ns[cc]?),V.non]);rw [cellOf cc G8.2];rfl
    ·intro x u e n1 n2
     exact sp _ _ (by rw [aF n2];exact s1 _ _ e)
  | store cc e=>
    obtain ⟨x,rfl,Vo⟩:=ps;refine ⟨_,rfl,_,_,_,_,rfl,rfl,dg.of ht,rfl,rfl,_,rfl, ?_⟩;refine bQ (fun _=> ?_) (fun z=>absurd (decide_eq_true rfl) z);refine ⟨_,rfl,_,_,_,_,rfl,rfl,dg.of ht,rfl,rfl,_,rfl, ?_⟩;refine bQ (fun z=>absurd (of_decide_eq_true z) (by decide)) (fun _=> ?_);refine ⟨_,rfl,B.h,B.hx,_,rfl,c1.h,rfl,_,rfl,_,rfl,_,_,_,_,rfl,rfl,dg.of ht,rfl,B,z,x,e,rfl,c1,Vo,G8.2,JR e, ?_⟩;refine ⟨_,rfl,rfl,_,rfl, ?_⟩;refine iy ?_;refine ⟨_,rfl,rfl,_,rfl, ?_⟩;refine iK ?_;refine ⟨_,rfl,_,rfl,o,ak,dx,_,_,rfl,ho1,aM.cls,aM.jK,rfl,_,rfl,nb,_,_,cc,rfl,rfl,Ae,X4 cc G8.1, ?_⟩;rw [←List.map_set];refine ⟨_,rfl,_,_,_,_,rfl,rfl,dg.of (by rw [aF ntn];exact ht),rfl,_,rfl,_,rfl,_,rfl,(by show 4<=sizeLine;decide),fun p hp=> ?_⟩;have sp:=aL (o:=HO.tup [V.str (Str.ofString "store"),V.int cc,V.non,V.int (vx z.bs e)]) hp;have nbh:B.h≠nb:=eO c1.h Ae (by intro z;cases z);refine k p _ ?_ aq (nM.same ⟨by rw [aF nbh];exact c1.h,by rw [aF Ry.symm];exact c1.b,by rw [aF V6.symm];exact c1.y,c1.QD,c1.bl⟩ sp) (sp _ _ aq) ?_
    ·refine s1.free ?_
     have:p≠nb:=fun e=>by rw [e,aq] at hp;cases hp
     rw [aF this] at hp;exact hp
    ·intro x u e n1 n2
     exact sp _ _ (by rw [aF n1];exact s1 _ _ e)
  | swap b cc e=>
    obtain ⟨x,rfl,Vo⟩:=ps;refine ⟨_,rfl,_,_,_,_,rfl,rfl,dg.of ht,rfl,rfl,_,rfl, ?_⟩;refine bQ (fun z=>absurd (of_decide_eq_true z) (by decide)) (fun _=> ?_);refine ⟨_,rfl,o,ak,dx,_,_,rfl,ho1,aM.cls,aM.jK,rfl,_,rfl,_,_,_,_,rfl,rfl,bH.of Ae,d_ (cellAt cc G8.2.1), ?_⟩;refine ⟨_,rfl,_,_,_,_,rfl,rfl,dg.of ht,rfl,rfl,_,rfl, ?_⟩;refine bQ (fun z=>absurd (of_decide_eq_true z) (by decide)) (fun _=> ?_);refine ⟨_,rfl,B.h,B.hx,_,rfl,c1.h,rfl,_,rfl,_,rfl,_,_,_,_,rfl,rfl,dg.of ht,rfl,B,z,x,e,rfl,c1,Vo,G8.2.2,JR e, ?_⟩;refine ⟨_,rfl,rfl,_,rfl, ?_⟩;refine iK ?_;refine ⟨_,rfl,B.h,B.hx,_,rfl,c1.h,rfl,_,rfl,_,_,_,_,rfl,rfl,dg.of ht,rfl,_,rfl,B,z,b,_,rfl,c1,G8.1, ?_⟩;refine ⟨_,rfl,rfl,_,rfl, ?_⟩;refine iK ?_;have c2:=c1.Lh (z.bs.set b ((ns[cc]?).getD 0)) (by rw [List.length_set];exact c1.bl);have afj:(upd H1 B.b (.lst ((z.bs.set b ((ns[cc]?).getD 0)).map V.int))) nb=some (.lst (ns.map V.int)):=by rw [aF Ry];exact Ae
    refine ⟨_,rfl,_,rfl,o,ak,dx,_,_,rfl,(by rw [aF noB];exact ho1),aM.cls,aM.jK,rfl,_,rfl,nb,_,_,cc,rfl,rfl,afj,X4 cc G8.2.1, ?_⟩;rw [←List.map_set];refine ⟨_,rfl,_,_,_,_,rfl,rfl,dg.of (by rw [aF ntn,aF ntb];exact ht),rfl,_,rfl,_,rfl,_,rfl,(by show 4<=sizeLine;decide),fun p hp=> ?_⟩;have sp:=aL (o:=HO.tup [V.str (Str.ofString "swap"),V.int cc,V.int ((ns[cc]?).getD 0),V.int (vx z.bs e)]) hp;have nbh:B.h≠nb:=eO c1.h Ae (by intro z;cases z);refine k p _ ?_ ?_ (nM.same ⟨by rw [aF nbh];exact c2.h,by rw [aF Ry.symm];exact c2.b,by rw [aF V6.symm];exact c2.y,c2.QD,c2.bl⟩ sp) (sp _ _ aq) ?_
    ·refine s1.free ?_
     have n1:p≠nb:=fun e=>by rw [e,aq] at hp;cases hp
     rw [aF n1] at hp;have n2:p≠B.b:=fun e=>by rw [e,aq] at hp;cases hp
     rw [aF n2] at hp;exact hp
    ·rw [aq]
     show some (HO.tup [V.str (Str.ofString "swap"),V.int cc,V.int ((ns[cc]?).getD 0),V.int (vx z.bs e)])=some (HO.tup [V.str (Str.ofString "swap"),V.int cc,oV (ns[cc]?),V.int (vx z.bs e)]);rw [cellOf cc G8.2.1];rfl
    ·intro x u e n1 n2
     exact sp _ _ (by rw [aF n1,aF n2];exact s1 _ _ e)
  | uy b e=>cases tr
  | say e=>cases tr
  | go n=>cases tr
  | xU q e f n=>cases tr
structure yj where
 (o dx pg L nb hl tn:Addr) (rs:List Addr) (hd:List o9)
structure xO (CH:Addr) (i k m:Nat) (τ:Tg) (H:Hp) (A:o9) (s:bG):Prop where
 c:nM CH H A s
 r:eU H A.r m s.rws
 tr:τ A.r=[0]
 th:τ A.h=[i,4,k]
 tb:τ A.b=[i,5,k]
 ty:τ A.sy=[i,6,k]
structure k_ (CW CH:Addr) (i:Nat) (τ:Tg) (H:Hp) (W:yj) (S:g_):Prop where
 un:yp τ H
 i0:i≠0
 o:H W.o=some (.ins CW W.dx (wF W.pg W.nb W.hl W.tn))
 pg:H W.pg=some (.tup [.int S.m,.ref W.L])
 L:H W.L=some (.lst (W.rs.map V.ref))
 nb:H W.nb=some (.lst (S.ns.map V.int))
 hl:H W.hl=some (.lst (W.hd.map fun a=> .ref a.h))
 tn:H W.tn=some (.lst (S.ts.map V.int))
 to:τ W.o=[i,0]
 tb:τ W.nb=[i,1]
 tl:τ W.hl=[i,2]
 tt:τ W.tn=[i,3]
 tL:τ W.L=[0]
 rl:W.rs.length=S.hs.length
 rs:∀(k:Nat) (r:Addr) (s:bG),W.rs[k]? = some r->S.hs[k]? = some s->τ r=[0]/\eU H r S.m s.rws
 len:W.hd.length=S.hs.length
 hd:∀(k:Nat) (A:o9) (s:bG),W.hd[k]? = some A->S.hs[k]? = some s->xO CH i k S.m τ H A s
 ok:∀s∈S.hs,q_ s
 sl:∀s∈S.hs,s.sy.length<=60*(S.ts.length+1)
 nl:S.ns.length=S.m
 hn:S.hs.length<=100
section
variable {CW CH:Addr} {i:Nat} {τ τ':Tg} {H H':Hp} {W:yj} {S:g_}
theorem xO.mv {k m:Nat} {A:o9} {s:bG} (h:xO CH i k m τ H A s) (q:Mv i τ H τ' H'):xO CH i k m τ' H' A s:=by
 obtain ⟨⟨c1,c2,c3,c4,c5⟩,r,tr,th,tb,ty⟩:=h;have e1:=q.keep _ _ c1 (.inr (by rw [th];rfl));have e2:=q.keep _ _ c2 (.inr (by rw [tb];rfl));have e3:=q.keep _ _ c3 (.inr (by rw [ty];rfl));have rr:=r;obtain ⟨ts,hr,_⟩:=rr;have e4:=q.keep _ _ hr (.inl tr);exact ⟨⟨e1.1,e2.1,e3.1,c4,c5⟩,r.keep (fun o e=>(q.keep _ _ e (.inl tr)).1) q.tup,e4.2.trans tr,e1.2.trans th,e2.2.trans tb,e3.2.trans ty⟩
theorem G7 {r:Addr} {m:Nat} {rws:List Rw} (h:τ r=[0]/\eU H r m rws) (q:Mv i τ H τ' H'):τ' r=[0]/\eU H' r m rws:=by
 obtain ⟨t,R⟩:=h;have rr:=R;obtain ⟨ts,hr,_⟩:=rr;have e4:=q.keep _ _ hr (.inl t);exact ⟨e4.2.trans t,R.keep (fun o e=>(q.keep _ _ e (.inl t)).1) q.tup⟩
theorem k_.mv (w:k_ CW CH i τ H W S) (q:Mv i τ H τ' H') (u:yp τ' H'):k_ CW CH i τ' H' W S:=by
 have e1:=q.keep _ _ w.o (.inr (by rw [w.to];rfl));have e2:=q.keep _ _ w.nb (.inr (by rw [w.tb];rfl));have e3:=q.keep _ _ w.hl (.inr (by rw [w.tl];rfl));have e4:=q.keep _ _ w.tn (.inr (by rw [w.tt];rfl));have e5:=q.keep _ _ w.L (.inl w.tL);exact ⟨u,w.i0,e1.1,q.tup _ _ w.pg,e5.1,e2.1,e3.1,e4.1,e1.2.trans w.to,e2.2.trans w.tb,e3.2.trans w.tl,e4.2.trans w.tt,e5.2.trans w.tL,w.rl,fun k r s h1 h2=>G7 (w.rs k r s h1 h2) q,w.len,fun k A s h1 h2=>(w.hd k A s h1 h2).mv q,w.ok,w.sl,w.nl,w.hn⟩
theorem k_.same (w:k_ CW CH i τ H W S) (k:Same H H'):k_ CW CH i τ H' W S:=w.mv (Mv.of_same k) (w.un.same k)
theorem k_.kp {a:Addr} {o:HO} (w:k_ CW CH i τ H W S) (k:Kp a H H') (ha:H a=some o) (hn:∀xs,o ≠ .tup xs) (ht:τ a=[]) (ha':∃o',H' a=some o'):k_ CW CH i τ H' W S:=
 w.mv (Mv.Rx k ha hn ht) (w.un.dom fun x e=>by
  by_cases z:x=a
  ·obtain ⟨o',h'⟩:=ha'
   rw [z,h'] at e;cases e
  ·exact qK k z e)
theorem k_.hand {k:Nat} {s:bG} (w:k_ CW CH i τ H W S) (h:S.hs[k]? = some s):∃A,W.hd[k]? = some A/\xO CH i k S.m τ H A s:=by
 have:k<W.hd.length:=by rw [w.len];exact (List.getElem?_eq_some_iff.mp h).1
 exact ⟨W.hd[k],by simp [this],w.hd k _ _ (by simp [this]) h⟩
end
def qu (CW CH CN:Addr) (K:PySem.W.Frag):Sp:=fun vs H Q E=>∃(i:Nat) (τ:Tg) (W:yj) (S:g_) (h:Int),vs=[.ref W.o,.int h]/\k_ CW CH i τ H W S/\(∀(k:Nat) (A:o9) (s:bG),h=k->W.hd[k]? = some A->S.hs[k]? = some s->Q (.ref A.h) H)/\(¬xT h S.hs.length->E (.ref CN) none H)
theorem Js {ak au:Addr} {f:Addr} {fd:FuncData} (F:jX K "hand_of" "Works.hand_of" cC f fd) (jW:FnAt P w K mg base 2 "is_below" ["value","count"] (qy K)) (aM:dz K ak) (Bt:yX mg) {bD:Addr} (qY:Xr K mg bD "NoHand"):cj P w K mg base (um P w) 3 f fd ["self","hand"] (qu ak au bD K):=by
 refine F.V4 rP (fun vs H Q E h=> ?_) (fun cdv A outer s H vs Q E hr h hR=> ?_)
 ·obtain ⟨i,τ,W,S,h,rfl,_⟩:=h
  rfl
 ·obtain ⟨i,τ,W,S,h,rfl,w,k1,k2⟩:=h
  refine ⟨_,(aB (cG (jP (iI (bM jW (hr.mono (by decide)) (by rfl) (aj (pv 1) (aj (aQ (bh (K:=K) rfl) (by rfl) Bt.gR eN (aj (bK (K:=K) rfl (pv 0) rfl) aA)) aA))))) (aG (qG PySem.F.excBase_ValueError qY.ex qY.bd (by rfl) rfl rfl hR (aj bA aA))) bF)
   (aG (aZ (aN (aX (K:=K) rfl) (bK (K:=K) rfl (pv 0) rfl) (pv 1) (fun _ _=>rfl))))), ?_⟩
  refine ⟨_,rfl,_,rfl,W.o,ak,W.dx,_,_,rfl,w.o,aM.cls,aM.oU,rfl,W.hl,_,rfl,.inl (bH.of w.hl),h,_,rfl,_,rfl, ?_⟩;have ll:(W.hd.map fun a=>V.ref a.h).length=S.hs.length:=by rw [List.length_map,w.len]
  by_cases hh:xT h (W.hd.map fun a=>V.ref a.h).length
  ·rw [decide_eq_true hh]
   refine iy ?_;obtain ⟨n,rfl⟩:=Int.eq_ofNat_of_zero_le hh.1;have nl:n<S.hs.length:=by have:=hh.2;rw [ll] at this;omega
   have es:S.hs[n]? = some S.hs[n]:=by simp [nl]
   obtain ⟨A,eA,_⟩:=w.hand es;exact ⟨_,rfl,W.o,ak,W.dx,_,_,rfl,w.o,aM.cls,aM.oU,rfl,_,rfl,_,_,_,_,rfl,rfl,bH.of w.hl,d_ (by rw [List.getElem?_map,eA];rfl),k1 n A _ rfl eA es⟩
  ·rw [decide_eq_false hh]
   refine iK ?_;rw [ll] at hh;exact ⟨(by show 1<=sizeLine;decide),k2 hh⟩
def zJ (CW CH:Addr) (K:PySem.W.Frag):Sp:=fun vs H Q _=>∃(i:Nat) (τ:Tg) (W:yj) (S:g_),vs=[.ref W.o]/\k_ CW CH i τ H W S /\ ∀l H',H l=none->H' l=some (.lst (S.ns.map V.int))->Same H H'->Q (.ref l) H'
theorem Mw {ak au:Addr} {f:Addr} {fd:FuncData} (F:jX K "cells" "Works.cells" cQ f fd) (aM:dz K ak) (Bt:yX mg):cj P w K mg base jA 1 f fd ["self"] (zJ ak au K):=by
 refine F.ok vP (fun vs H Q E h=> ?_) (fun cdv A outer s H vs Q E hr h=> ?_)
 ·obtain ⟨i,τ,W,S,rfl,_⟩:=h
  rfl
 ·obtain ⟨i,τ,W,S,rfl,w,k⟩:=h
  refine ⟨_,(aG (aZ (fj (eG (K:=K) rfl) (by rfl) Bt.iQ fV (aj (bK (K:=K) rfl (pv 0) rfl) aA)))), ?_⟩;exact ⟨_,rfl,W.o,ak,W.dx,_,_,rfl,w.o,aM.cls,aM.jK,rfl,W.nb,_,rfl,.inl (bH.of w.nb),fun l hl=>k l _ hl aq (aL hl)⟩
def Dm (S:g_):List Int:=(List.range S.hs.length).map fun k:Nat=>((S.ts.count (k:Int):Nat):Int)
def qw (CW CH:Addr) (K:PySem.W.Frag):Sp:=fun vs H Q _=>∃(i:Nat) (τ:Tg) (W:yj) (S:g_),vs=[.ref W.o]/\k_ CW CH i τ H W S /\ ∀l H',H l=none->H' l=some (.lst ((Dm S).map V.int))->Same H H'->Q (.ref l) H'
theorem Jt {ak au:Addr} {f:Addr} {fd:FuncData} (F:jX K "counts" "Works.counts" cL f fd) (aM:dz K ak) (Bt:yX mg):cj P w K mg base jA 1 f fd ["self"] (qw ak au K):=by
 refine F.ok uq (fun vs H Q E h=> ?_) (fun cdv A outer s H vs Q E hr h=> ?_)
 ·obtain ⟨i,τ,W,S,rfl,_⟩:=h
  rfl
 ·obtain ⟨i,τ,W,S,rfl,w,k⟩:=h
  refine ⟨_,(aG (aZ (gZ rfl (N:=["hand","self"]) (own:=["hand"]) (caps:=[0]) (bw.of (by kernel_rfl)) (dO (by rfl) Bt.fW (aj (aQ (bh (K:=K) rfl) (by rfl) Bt.gR eN (aj (bK (K:=K) rfl (pv 0) rfl) aA)) aA)) (fun _ _ _ _=>(bJ (i:=0) (show List.Nodup (["hand","self"]:List Str) by decide +kernel) rfl (Or.inl rfl))) (fun _ _ _ _=>dZ) (fun _ _ _ _=>(zU (K:=K) rfl PySem.F.plainAttrs_list PySem.F.slot_list_count PySem.F.type_list_count (JC (K:=K) rfl) (bK (K:=K) rfl (pv 1) rfl) (aj (pv 0) aA)))))), ?_⟩;have ll:(W.hd.map fun a=>V.ref a.h).length=S.hs.length:=by rw [List.length_map,w.len]
  refine ⟨_,rfl,W.o,ak,W.dx,_,_,rfl,w.o,aM.cls,aM.oU,rfl,W.hl,_,rfl,.inl (bH.of w.hl),_,rfl,(by rw [ll];have:=w.hn;omega),(by rw [ll];have:=w.hn;omega),fun D hD=> ?_⟩;rw [ll,Int.toNat_natCast];refine jM (fun j:Nat=>some (.int ((S.ts.count (j:Int):Nat):Int))) hD (by have:=w.hn;omega) (fun j H1 G F hj s1 kG kF=> ?_) (fun H1 s1 e1=> ?_)
  ·refine ⟨_,rfl,W.o,ak,W.dx,_,_,rfl,s1 _ _ w.o,aM.cls,aM.uT,rfl,.inl ⟨rfl,_,bH.of (s1 _ _ w.tn)⟩,_,rfl,_,S.ts,_,rfl,rfl,bH.of (s1 _ _ w.tn),kF _ H1 (Same.refl _) (by rw [Int.zero_add])⟩
  ·refine k D H1 hD ?_ s1
   rw [e1];unfold Dm;rw [List.map_map,List.filterMap_eq_map'];rfl
def Es (CW CH:Addr) (K:PySem.W.Frag):Sp:=fun vs H Q _=>∃(i:Nat) (τ:Tg) (W:yj) (S:g_),vs=[.ref W.o]/\k_ CW CH i τ H W S/\Q (.int S.ts.length) H
theorem Qn {ak au:Addr} {f:Addr} {fd:FuncData} (F:jX K "__len__" "Works.__len__" cD f fd) (aM:dz K ak) (Bt:yX mg):cj P w K mg base jA 1 f fd ["self"] (Es ak au K):=by
 refine F.ok rQ (fun vs H Q E h=> ?_) (fun cdv A outer s H vs Q E hr h=> ?_)
 ·obtain ⟨i,τ,W,S,rfl,_⟩:=h
  rfl
 ·obtain ⟨i,τ,W,S,rfl,w,k⟩:=h
  refine ⟨_,(aG (aZ (aQ (bh (K:=K) rfl) (by rfl) Bt.gR eN (aj (bK (K:=K) rfl (pv 0) rfl) aA)))), ?_⟩;refine ⟨_,rfl,W.o,ak,W.dx,_,_,rfl,w.o,aM.cls,aM.uT,rfl,W.tn,_,rfl,.inl (bH.of w.tn), ?_⟩;rw [List.length_map];exact k
def Lg (CW CH CN:Addr) (K:PySem.W.Frag):Sp:=fun vs H Q E=>∃(i:Nat) (τ:Tg) (W:yj) (S:g_) (h:Int),vs=[.ref W.o,.int h]/\k_ CW CH i τ H W S/\(∀(k:Nat) (s:bG),h=k->S.hs[k]? = some s->Q (.str s.st) H)/\(¬xT h S.hs.length->E (.ref CN) none H)
theorem Uu {ak au bD:Addr} {f:Addr} {fd:FuncData} (F:jX K "how" "Works.how" dW f fd) (jz:j_ P w K mg base 3 ak "hand_of" ["self","hand"] (qu ak au bD K)) (aM:dz K ak) (aK:gH K au):cj P w K mg base (um P w) 4 f fd ["self","hand"] (Lg ak au bD K):=by
 refine F.V4 zL (fun vs H Q E h=> ?_) (fun cdv A outer s H vs Q E hr h hR=> ?_)
 ·obtain ⟨i,τ,W,S,h,rfl,_⟩:=h
  rfl
 ·obtain ⟨i,τ,W,S,h,rfl,w,k1,k2⟩:=h
  refine ⟨_,(aG (aZ (bK (K:=K) rfl (Ci jz aM.cls rfl hR (hr.mono (by decide)) (pv 0) (aj (pv 1) aA)) rfl))), ?_⟩;refine ⟨_,rfl,W.o,W.dx,_,rfl,w.o,rfl,_,rfl,i,τ,W,S,h,rfl,w,fun k A s e eA es=> ?_,k2⟩;have a:=w.hd k A s eA es;exact ⟨A.h,au,A.hx,_,_,rfl,a.c.h,aK.cls,aK.j6,rfl,k1 k s e es⟩
structure uh (C:List (List Nat)) (τ:Tg) (H:Hp) (τ':Tg) (H':Hp):Prop where
 keep:∀x u,H x=some u->τ x∉C->H' x=some u/\τ' x=τ x
 tup:∀x xs,H x=some (.tup xs)->H' x=some (.tup xs)
theorem uh.of_same {C:List (List Nat)} {τ:Tg} {H H':Hp} (k:Same H H'):uh C τ H τ H':=⟨fun x u e _=>⟨k _ _ e,rfl⟩,k.tups⟩
theorem uh.claim {C:List (List Nat)} {τ:Tg} {H H':Hp} {p:Addr} {t:List Nat} (k:Same H H') (hp:H p=none):uh C τ H (bL τ p t) H':=⟨fun x u e _=>⟨k _ _ e,bI (aD e hp)⟩,k.tups⟩
theorem uh.set {C:List (List Nat)} {τ:Tg} {H:Hp} {x:Addr} {o u:HO} (ht:τ x∈C) (hx:H x=some o) (hn:∀xs,o ≠ .tup xs):uh C τ H τ (upd H x u):=
 ⟨fun y v e n=>⟨by rw [aF (fun z:y=x=>n (by rw [z];exact ht))];exact e,rfl⟩,fun y xs e=>by rw [aF (eO e hx fun z=>hn xs z.symm)];exact e⟩
theorem uh.trans {C:List (List Nat)} {τ τ1 τ2:Tg} {H H1 H2:Hp} (a:uh C τ H τ1 H1) (b:uh C τ1 H1 τ2 H2):uh C τ H τ2 H2:=⟨fun x u e n=>by
 obtain ⟨e1,t1⟩:=a.keep x u e n;obtain ⟨e2,t2⟩:=b.keep x u e1 (by rw [t1];exact n);exact ⟨e2,by rw [t2,t1]⟩,fun x xs e=>b.tup _ _ (a.tup _ _ e)⟩
theorem xO.mvT {C:List (List Nat)} {CH:Addr} {i k m:Nat} {τ τ':Tg} {H H':Hp} {A:o9} {s:bG} (h:xO CH i k m τ H A s) (q:uh C τ H τ' H') (h0:[0]∉C) (h4:[i,4,k]∉C) (h5:[i,5,k]∉C) (h6:[i,6,k]∉C):xO CH i k m τ' H' A s:=by
 obtain ⟨⟨c1,c2,c3,c4,c5⟩,r,tr,th,tb,ty⟩:=h;have e1:=q.keep _ _ c1 (by rw [th];exact h4);have e2:=q.keep _ _ c2 (by rw [tb];exact h5);have e3:=q.keep _ _ c3 (by rw [ty];exact h6);have rr:=r;obtain ⟨ts,hr,_⟩:=rr;have e4:=q.keep _ _ hr (by rw [tr];exact h0);exact ⟨⟨e1.1,e2.1,e3.1,c4,c5⟩,r.keep (fun o e=>(q.keep _ _ e (by rw [tr];exact h0)).1) q.tup,e4.2.trans tr,e1.2.trans th,e2.2.trans tb,e3.2.trans ty⟩
theorem jm {C:List (List Nat)} {τ τ':Tg} {H H':Hp} {r:Addr} {m:Nat} {rws:List Rw} (h:τ r=[0]/\eU H r m rws) (q:uh C τ H τ' H') (h0:[0]∉C):τ' r=[0]/\eU H' r m rws:=by
 obtain ⟨t,R⟩:=h;have rr:=R;obtain ⟨ts,hr,_⟩:=rr;have e4:=q.keep _ _ hr (by rw [t];exact h0);exact ⟨e4.2.trans t,R.keep (fun o e=>(q.keep _ _ e (by rw [t];exact h0)).1) q.tup⟩
def pN (CW CH CN CO:Addr) (K:PySem.W.Frag):Sp:=fun vs H Q E=>∃(i:Nat) (τ:Tg) (W:yj) (S:g_) (h:Int),vs=[.ref W.o,.int h]/\k_ CW CH i τ H W S/\S.ts.length<=10000 /\
 (∀(k:Nat) (s:bG) (r:Rw) (t:Addr) (H':Hp),h=k->S.hs[k]? = some s->s.st = "waits" -> s.rws[s.pos]? = some r->touch r=true->H t=none->H' t=some (.tup (El S.ns s.bs r))->k_ CW CH i τ H' W (cX S k)->Ot i τ H H'->Q (.ref t) H') /\
 (¬xT h S.hs.length->E (.ref CN) none H)/\(∀(k:Nat) (s:bG),h=k->S.hs[k]? = some s->s.st ≠ "waits" -> E (.ref CO) none H)
theorem K7 {S:g_} {k:Nat} {s:bG} {r:Rw} (es:S.hs[k]? = some s) (er:s.rws[s.pos]? = some r):cX S k={S with ns:=cZ S.ns s.bs r,hs:=S.hs.set k (j8 S.ns s r),ts:=S.ts++[(k:Int)]}:=by
 unfold cX;simp only [es,er]
theorem Gb (ns bs:List Int) (r:Rw):(cZ ns bs r).length=ns.length:=by cases r<;>simp [cZ]
theorem k_.turned {CW CH:Addr} {i:Nat} {τ:Tg} {H H':Hp} {W:yj} {S:g_} {k:Nat} {A:o9} {s:bG} {r:Rw} (w:k_ CW CH i τ H W S) (eA:W.hd[k]? = some A) (es:S.hs[k]? = some s) (er:s.rws[s.pos]? = some r)
 (kp:∀x u,H x=some u->x≠W.nb->x≠A.b->x≠A.h->x≠A.sy->x≠W.tn->H' x=some u) (c:nM CH H' A (j8 S.ns s r)) (hnb:H' W.nb=some (.lst ((cZ S.ns s.bs r).map V.int))) (htn:H' W.tn=some (.lst ((S.ts++[(k:Int)]).map V.int))):k_ CW CH i τ H' W (cX S k)/\Ot i τ H H':=by
 have a:=w.hd k A s eA es;have tup:∀x xs,H x=some (.tup xs)->H' x=some (.tup xs):=fun x xs e=>kp _ _ e (eO e w.nb (by intro z;cases z)) (eO e a.c.b (by intro z;cases z)) (eO e a.c.h (by intro z;cases z)) (eO e a.c.y (by intro z;cases z)) (eO e w.tn (by intro z;cases z))
 have st:Ot i τ H H':=by
  refine ⟨fun x u e n=> ?_,tup,fun x e=> ?_⟩
  ·have ne:∀(y:Addr) (t:List Nat),τ y=i::t->x≠y:=fun y t ty z=>n (by rw [z,ty];rfl)
   exact kp _ _ e (ne _ _ w.tb) (ne _ _ a.tb) (ne _ _ a.th) (ne _ _ a.ty) (ne _ _ w.tt)
  ·cases q:H x with
   | none=>rfl
   | some u=>
     have no:∀y o,H' y=some o->x≠y:=fun y o h z=>by rw [z,h] at e;cases e
     rw [kp _ _ q (no _ _ hnb) (no _ _ c.b) (no _ _ c.h) (no _ _ c.y) (no _ _ htn)] at e;cases e
 refine ⟨?_,st⟩
 have q:uh [[i,1],[i,5,k],[i,4,k],[i,6,k],[i,3]] τ H τ H':=by
  refine ⟨fun x u e n=>⟨?_,rfl⟩,tup⟩;have ne:∀(y:Addr) (t:List Nat),τ y=t->t∈[[i,1],[i,5,k],[i,4,k],[i,6,k],[i,3]]->x≠y:=fun y t ty ht z=>n (by rw [z,ty];exact ht);exact kp _ _ e (ne _ _ w.tb (by simp)) (ne _ _ a.tb (by simp)) (ne _ _ a.th (by simp)) (ne _ _ a.ty (by simp)) (ne _ _ w.tt (by simp))
 have i0:=w.i0;have z0:[0]∉[[i,1],[i,5,k],[i,4,k],[i,6,k],[i,3]]:=by simp
 rw [K7 es er];have hk:k<S.hs.length:=(List.getElem?_eq_some_iff.mp es).1
 have get:∀(j:Nat) (s':bG),(S.hs.set k (j8 S.ns s r))[j]? = some s'->(j=k/\s'=j8 S.ns s r)\/(j≠k/\S.hs[j]? = some s'):=fun j s' e=>by
  rw [List.getElem?_set] at e
  by_cases z:k=j
  ·subst z
   simp [hk] at e;exact .inl ⟨rfl,e.symm⟩
  ·rw [if_neg z] at e
   exact .inr ⟨fun y=>z y.symm,e⟩
 have gr:(j8 S.ns s r).rws=s.rws:=uV _ _;have mem:∀s'∈S.hs.set k (j8 S.ns s r),s'=j8 S.ns s r\/s'∈S.hs:=fun s' m=>(List.mem_or_eq_of_mem_set m).symm;refine ⟨st.un w.un,i0,(q.keep _ _ w.o (by rw [w.to];simp)).1,tup _ _ w.pg,(q.keep _ _ w.L (by rw [w.tL];exact z0)).1,hnb,(q.keep _ _ w.hl (by rw [w.tl];simp)).1,htn,w.to,w.tb,w.tl,w.tt,w.tL, ?_, ?_, ?_, ?_, ?_, ?_, ?_, ?_⟩
 ·simp [w.rl]
 ·intro j r' s' h1 h2
  rcases get j s' h2 with ⟨rfl,rfl⟩|⟨_,h2⟩
  ·rw [gr]
   exact jm (w.rs j r' s h1 es) q z0
  ·exact jm (w.rs j r' s' h1 h2) q z0
 ·simp [w.len]
 ·intro j A' s' h1 h2
  rcases get j s' h2 with ⟨rfl,rfl⟩|⟨nj,h2⟩
  ·rw [eA] at h1
   cases h1;refine ⟨c, ?_,a.tr,a.th,a.tb,a.ty⟩;rw [gr];exact (jm ⟨a.tr,a.r⟩ q z0).2
  ·exact (w.hd j A' s' h1 h2).mvT q z0 (by simp [nj]) (by simp [nj]) (by simp [nj])
 ·intro s' m
  rcases mem s' m with rfl|m
  ·exact FJ _ _
  ·exact w.ok s' m
 ·intro s' m
  simp only [List.length_append,List.length_singleton];rcases mem s' m with rfl|m
  ·have:=Fz 60 {s with pos:=s.pos+1,bs:=p8 S.ns s.bs r}
   have:=w.sl s (List.mem_of_getElem? es);show (led 60 _).sy.length<=_;simp only at *;omega
  ·have:=w.sl s' m
   omega
 ·show (cZ S.ns s.bs r).length=S.m
  rw [Gb,w.nl]
 ·simp [w.hn]
theorem Qp {ak au bD dG:Addr} {f:Addr} {fd:FuncData} (F:jX K "turn" "Works.turn" dD f fd) (jz:j_ P w K mg base 3 ak "hand_of" ["self","hand"] (qu ak au bD K)) (tQ:MethAt P w K mg base 4 ak "touch_by" ["self","one"] (rJ ak au K)) (jV:MethAt P w K mg base 6 au "lead_on" ["self"] (zB au K)) (aM:dz K ak) (aK:gH K au) (Ba:Xr K mg dG "Over"):cj P w K mg base (um P w) 7 f fd ["self","hand"] (pN ak au bD dG K):=by
 refine F.V4 kj (fun vs H Q E h=> ?_) (fun cdv A outer s H vs Q E hr h hR=> ?_)
 ·obtain ⟨i,τ,W,S,h,rfl,_⟩:=h
  rfl
 ·obtain ⟨i,τ,W,S,h,rfl,w,tl,k1,k2,k3⟩:=h
  refine ⟨_,(aB (bB (i:=2) kj.nd rfl (Or.inl rfl) (Ci jz aM.cls rfl hR (hr.mono (by decide)) (pv 0) (aj (pv 1) aA)))
   (aB (cG (aY oh (bK (K:=K) rfl (pv 2) rfl) bA (aR _)) (aG (qG PySem.F.excBase_ValueError Ba.ex Ba.bd (by rfl) rfl rfl hR (aj bA aA))) bF)
   (aB (bB (i:=3) kj.nd rfl (Or.inl rfl) (cT tQ aM.cls (hr.mono (by decide)) (pv 0) (aj (pv 2) aA)))
   (aB (vY (K:=K) rfl (pv 2) aC FN)
   (aB (eX (ig jV aK.cls (hr.mono (by decide)) (pv 2)))
   (aB (eX (gk (K:=K) rfl (bK (K:=K) rfl (pv 0) rfl) (aj (pv 1) aA)))
   (aG (aZ (pv 3))))))))), ?_⟩
  refine ⟨_,rfl,W.o,W.dx,_,rfl,w.o,rfl,_,rfl,i,τ,W,S,h,rfl,w,fun k A s e eA es=> ?_,k2⟩;have a:=w.hd k A s eA es;refine ⟨_,rfl,A.h,au,A.hx,_,_,rfl,a.c.h,aK.cls,aK.j6,rfl,rfl,_,rfl, ?_⟩
  by_cases wt:s.st = "waits"
  rotate_left
  ·refine bQ (fun _=> ?_) (fun z=>absurd (by simp [wt]) z)
   exact ⟨(by show 1<=sizeLine;decide),k3 k s e es wt⟩
  refine qM (by rw [wt]) ?_;obtain ⟨r,er,tr⟩:=w.ok s (List.mem_of_getElem? es) wt;have Ry:W.nb≠A.b:=dN w.tb a.tb (by simp);have V6:W.nb≠A.sy:=dN w.tb a.ty (by simp);refine ⟨_,rfl,W.o,W.dx,_,rfl,w.o,rfl,_,rfl,W.o,W.dx,W.pg,W.nb,W.hl,W.tn,A,s,S.m,S.ns,r,rfl,w.o,w.nb,w.nl,a.c,a.r,er,tr,Ry,V6,fun t H1 tf t1 c1 dI p1=> ?_⟩;refine ⟨_,rfl,A.h,au,A.hx,_,_,rfl,c1.h,aK.cls,aK.ux,rfl,_,_,rfl,rfl,A.hx,_,c1.h,(by show 5<1000;decide), ?_⟩;rw [zR];have c2:=c1.pP (s.pos+1) s.st;have p2:KH A H1 (upd H1 A.h (.ins au A.hx (hF A.r ((s.pos+1:Nat):Int) A.b A.sy s.st))):=KH.pP;have t2:=c1.tup p2 _ _ t1;dsimp only;rw [show ((s.pos:Nat):Int)+1=((s.pos+1:Nat):Int) by omega];generalize (upd H1 A.h (.ins au A.hx (hF A.r ((s.pos+1:Nat):Int) A.b A.sy s.st)))=H2 at c2 p2 t2 ⊢;have Xx:A.r≠A.b:=dN a.tr a.tb (by intro z;cases z);have Z5:A.r≠A.sy:=dN a.tr a.ty (by intro z;cases z);have nrh:A.r≠A.h:=dN a.tr a.th (by intro z;cases z);have nrn:A.r≠W.nb:=dN a.tr w.tb (by intro z;cases z);have aa':∀x xs,H x=some (.tup xs)->H2 x=some (.tup xs):=fun x xs q=>c1.tup p2 _ _ (p1 _ _ q (eO q w.nb (by intro z;cases z)) (eO q a.c.b (by intro z;cases z)));have R2:eU H2 A.r S.m s.rws:=a.r.keep (fun o q=>p2 _ _ (p1 _ _ q nrn Xx) nrh Xx Z5) aa';have sl:=w.sl s (List.mem_of_getElem? es);refine ⟨_,rfl,A.h,A.hx,_,rfl,c2.h,rfl,A,_,S.m,rfl,c2,R2,Xx,Z5,by show s.sy.length<_;omega,fun H3 c3 p3=> ?_⟩;have k13:∀x u,H x=some u->x≠W.nb->x≠A.b->x≠A.h->x≠A.sy->H3 x=some u:=fun x u q n1 n2 n3 n4=>p3 _ _ (p2 _ _ (p1 _ _ q n1 n2) n3 n2 n4) n3 n2 n4;have o3:=k13 _ _ w.o (dN w.to w.tb (by simp)) (dN w.to a.tb (by simp)) (dN w.to a.th (by simp)) (dN w.to a.ty (by simp));have tn3:=k13 _ _ w.tn (dN w.tt w.tb (by simp)) (dN w.tt a.tb (by simp)) (dN w.tt a.th (by simp)) (dN w.tt a.ty (by simp));have nb3:=p3 _ _ (p2 _ _ dI (dN w.tb a.th (by simp)) Ry V6) (dN w.tb a.th (by simp)) Ry V6;have t3:=c2.tup p3 _ _ t2;refine ⟨_,rfl,W.o,ak,W.dx,_,_,rfl,o3,aM.cls,aM.uT,rfl,.inl ⟨rfl,_,bH.of tn3⟩,_,rfl,_,_,_,rfl,rfl,tn3,(by rw [List.length_map,sizeLine_eq];omega), ?_⟩;have k14:∀x u,H x=some u->x≠W.nb->x≠A.b->x≠A.h->x≠A.sy->x≠W.tn->(upd H3 W.tn (.lst (S.ts.map V.int++[V.int h]))) x=some u:=fun x u q n1 n2 n3 n4 n5=>by rw [aF n5];exact k13 x u q n1 n2 n3 n4
  have nbt:W.nb≠W.tn:=dN w.tb w.tt (by simp);have c4:nM au (upd H3 W.tn (.lst (S.ts.map V.int++[V.int h]))) A (j8 S.ns s r):=⟨by rw [aF (dN a.th w.tt (by simp))];exact c3.h,by rw [aF (dN a.tb w.tt (by simp))];exact c3.b,by rw [aF (dN a.ty w.tt (by simp))];exact c3.y,c3.QD,c3.bl⟩;obtain ⟨w4,st⟩:=w.turned (H':=upd H3 W.tn (.lst (S.ts.map V.int++[V.int h]))) eA es er k14 c4 (by rw [aF nbt];exact nb3) (by rw [aq,List.map_append,e];rfl);refine ⟨_,rfl,k1 k s r t _ e es wt er tr tf ?_ w4 st⟩;rw [aF (eO t3 tn3 (by intro z;cases z))];exact t3
structure Bs (H0:Hp) (τ0:Tg) (o:Addr) (τ:Tg) (H:Hp):Prop where
 un:yp τ H
 kp:Kp o H0 H
 tg:∀x u,H0 x=some u->x≠o->τ x=τ0 x
theorem Bs.same {H0 H H':Hp} {τ0 τ:Tg} {o:Addr} (b:Bs H0 τ0 o τ H) (k:Same H H'):Bs H0 τ0 o τ H':=⟨b.un.same k,b.kp.trans (Kp.of_same k),b.tg⟩
theorem Bs.claim {H0 H H':Hp} {τ0 τ:Tg} {o p:Addr} {t:List Nat} (b:Bs H0 τ0 o τ H) (k:Same H H') (hp:H p=none) (hp':∃u,H' p=some u):Bs H0 τ0 o (bL τ p t) H':=
 ⟨b.un.claim k hp',b.kp.trans (Kp.of_same k),fun x u e n=>by rw [bI (aD (b.kp _ _ e n) hp)];exact b.tg x u e n⟩
theorem Bs.set {H0 H:Hp} {τ0 τ:Tg} {o x:Addr} {v:HO} (b:Bs H0 τ0 o τ H) (hx:x=o\/H0 x=none):Bs H0 τ0 o τ (upd H x v):=
 ⟨b.un.dom (fun y e=>by
   by_cases z:y=x
   ·rw [z,aq] at e;cases e
   ·rw [aF z] at e;exact e),fun y u e n=>by
   have z:y≠x:=by
    rcases hx with rfl|hx
    ·exact n
    ·exact aD e hx
   rw [aF z];exact b.kp _ _ e n,b.tg⟩
theorem Bs.fresh {H0 H:Hp} {τ0 τ:Tg} {o p:Addr} (b:Bs H0 τ0 o τ H) (hp:H p=none) (n:p≠o):H0 p=none:=qK b.kp n hp
def jC (CW CH CN:Addr) (K:PySem.W.Frag):Sp:=fun vs H Q E=>∃(i:Nat) (τ:Tg) (o dx p L0:Addr) (PL:List Addr) (m:Nat) (cv:V) (ns:List Int) (rws:List (List Rw)),vs=[.ref o,.ref p,cv]/\H o=some (.ins CW dx [])/\H p=some (.tup [.int m,.ref L0])/\H L0=some (.lst (PL.map V.ref))/\PL.length=rws.length /\
 (∀(k:Nat) (r:Addr) (x:List Rw),PL[k]? = some r->rws[k]? = some x->eU H r m x)/\rws.length<=100/\m<=100/\yp τ H/\i≠0/\ns.length<=100/\((cv = .non/\ns=List.replicate m 0) \/ ∃cl,cv = .ref cl/\H cl=some (.lst (ns.map V.int))) /\
 (ou m ns -> ∀(τ':Tg) (W:yj) (H':Hp),W.o=o->k_ CW CH i τ' H' W (uL m ns rws)->(∀x u,H x=some u->x≠o->τ' x=τ x)->Kp o H H'->Q .non H')/\(¬ou m ns -> ∀H',Kp o H H'->E (.ref CN) none H')
theorem qO {α:Type} {l:List α} {x y:α} {k:Nat} (h:(l++[x])[k]? = some y):l[k]? = some y\/(k=l.length/\y=x):=by
 by_cases e:k<l.length
 ·rw [List.getElem?_append_left e] at h
  exact .inl h
 ·rw [List.getElem?_append_right (by omega)] at h
  have lt:=(List.getElem?_eq_some_iff.mp h).1;simp at lt;have:k=l.length:=by omega
  subst this;simp at h;exact .inr ⟨rfl,h.symm⟩
theorem Ml {ak au:Addr} {f:Addr} {fd:FuncData} (F:yt K "__init__" "Works.__init__" bO [.none] f fd) (aM:dz K ak) (aK:gH K au) {aW:Addr} (uO:Ov P w K mg base 3 "check_numbers" ["cells","count"] (pO aW K)) (VH:oJ P w K mg base 1 au "Hand" ["self","rows"] [] (zF au K)) (jV:MethAt P w K mg base 6 au "lead_on" ["self"] (zB au K)) (Bt:yX mg):cj P w K mg base (um P w) 7 f fd ["self","program","cells"] (jC ak au aW K):=by
 refine F.V4 kE (fun vs H Q E h=> ?_) (fun cdv A outer s H vs Q E hr h hR=> ?_)
 ·obtain ⟨i,τ,o,dx,p,L0,PL,m,cv,ns,rws,rfl,_⟩:=h
  rfl
 ·obtain ⟨i,τ,o,dx,p,L0,PL,m,cv,ns,rws,rfl,ho,hp,hL,lr,Yc,rl,ml,un,i0,nl,hcv,k1,k2⟩:=h
  refine ⟨_,(aB (cG (aY Mi (pv 2) mV (aR _)) (aG (mR (i:=2) rfl kE.nd rfl (Or.inl rfl) (N:=["cell"]) (own:=["cell"]) (caps:=[]) (bw.of (by kernel_rfl)) (dO (by rfl) Bt.fW (aj (aN (aP (K:=K) rfl) (pv 1) aC (fun _ _=>rfl)) aA)) (fun _ _ _ _=>(bJ (i:=0) (show List.Nodup (["cell"]:List Str) by decide +kernel) rfl (Or.inl rfl))) (fun _ _ _ _=>dZ) (fun _ _ _ _=>aC))) bF)
   (aB (eX (Uj uO rfl hR (hr.mono (by decide)) (by rfl) (aj (pv 2) (aj (aN (aP (K:=K) rfl) (pv 1) aC (fun _ _=>rfl)) aA))))
   (aB (gY (K:=K) rfl (pv 0) (fP (aj (aN (aP (K:=K) rfl) (pv 1) aC (fun _ _=>rfl)) (aj (gZ rfl (N:=["rows"]) (own:=["rows"]) (caps:=[]) (bw.of (by kernel_rfl)) (dM (K:=K) rfl (aN (aP (K:=K) rfl) (pv 1) aC (fun _ _=>rfl))) (fun _ _ _ _=>(bJ (i:=0) (show List.Nodup (["rows"]:List Str) by decide +kernel) rfl (Or.inl rfl))) (fun _ _ _ _=>dZ) (fun _ _ _ _=>(fj (eG (K:=K) rfl) (by rfl) Bt.iQ fV (aj (pv 0) aA)))) aA))) rfl)
   (aB (gY (K:=K) rfl (pv 0) (fj (eG (K:=K) rfl) (by rfl) Bt.iQ fV (aj (pv 2) aA)) rfl)
   (aB (gY (K:=K) rfl (pv 0) (gZ rfl (N:=["rows"]) (own:=["rows"]) (caps:=[]) (bw.of (by kernel_rfl)) (dM (K:=K) rfl (aN (aP (K:=K) rfl) (bK (K:=K) rfl (pv 0) rfl) aC (fun _ _=>rfl))) (fun _ _ _ _=>(bJ (i:=0) (show List.Nodup (["rows"]:List Str) by decide +kernel) rfl (Or.inl rfl))) (fun _ _ _ _=>dZ) (fun _ _ _ _=>(n_ VH (hr.mono (by decide)) (by rfl) (aj (pv 0) aA)))) rfl)
   (aB (gY (K:=K) rfl (pv 0) (fQ aA) rfl)
   (aG (jQ PassesOwn.leaving rfl (dM (K:=K) rfl (bK (K:=K) rfl (pv 0) rfl)) (bJ (i:=3) kE.nd rfl (Or.inl rfl))
   (aG (eX (ig jV aK.cls (hr.mono (by decide)) (pv 3)))))))))))), ?_⟩
  refine uR (fun σ H1=>∃cl:Addr,σ=[some (.ref o),some (.ref p),some (.ref cl),none]/\H1 cl=some (.lst (ns.map V.int))/\Same H H1) (fun D' hD' rt'=> ?_) ?_
  ·refine ⟨_,rfl,rfl,_,rfl, ?_⟩
   rcases hcv with ⟨rfl,rfl⟩|⟨cl,rfl,hcl⟩
   ·refine iK ?_
    refine ⟨_,rfl,_,_,_,_,rfl,rfl,dg.of hp,rfl,_,rfl,by omega,by omega,fun D hD=> ?_⟩;rw [Int.toNat_natCast];refine jM (fun _=>some (.int 0)) hD (by omega) (fun i H1 G F hi s1 kG kF=>kF _ H1 (Same.refl _) rfl) (fun H1 s1 e1=> ?_);rw [Ij] at e1;exact hD' _ _ ⟨D,rfl,e1,s1⟩
   ·refine iy ?_
    exact hD' _ _ ⟨cl,rfl,hcl,Same.refl _⟩
  rintro σ H1 ⟨cl,rfl,hcl,s1⟩;have hp1:=s1 _ _ hp;refine qC (fun R g=> ?_);refine ⟨_,rfl,_,rfl,_,_,_,_,rfl,rfl,dg.of hp1,rfl,cl,m,ns,rfl,hcl,nl,fun good H2 s2=> ?_,fun bad H2 s2=>k2 bad H2 (Kp.of_same (s1.trans s2))⟩;refine g _ _ ?_;have TX:=s1.trans s2;have ho2:=TX _ _ ho;have hp2:=TX _ _ hp;have hL2:=TX _ _ hL;have Yi:=s2 _ _ hcl;have U_:∀(k:Nat) (r:Addr) (x:List Rw),PL[k]? = some r->rws[k]? = some x->eU H2 r m x:=fun k r x a b=>(Yc k r x a b).same TX;have B2:Bs H τ o (bL τ o [i,0]) H2:=⟨fun x e=>by rw [bI (aD ho2 e).symm];exact un.same TX x e,Kp.of_same TX,fun x u e n=>bI n⟩;have to2:bL τ o [i,0] o=[i,0]:=cY;generalize bL τ o [i,0]=τ2 at B2 to2;refine qC (fun R g=> ?_);refine ⟨_,rfl,_,_,_,_,rfl,rfl,dg.of hp2,rfl,_,rfl,_,_,_,_,rfl,rfl,dg.of hp2,rfl,L0,rfl,⟨_,bH.of hL2⟩,fun L Yk=> ?_⟩;have sL:=aL (o:=HO.lst []) Yk;have nLo:L≠o:=(aD ho2 Yk).symm;refine lO (K:=K) (xs:=PL.map V.ref) (fun j σ Hc=>∃(v:Option V) (τc:Tg) (rs:List Addr),σ=[v]/\rs.length=j/\Same H2 Hc/\Hc L=some (.lst (rs.map V.ref))/\Bs H τ o τc Hc/\τc o=[i,0]/\τc L=[0] /\ ∀(k:Nat) (r:Addr) (x:List Rw),rs[k]? = some r->rws[k]? = some x->r≠L/\τc r=[0]/\eU Hc r m x) ?_ ?_ ?_ ?_
  ·exact ⟨none,bL τ2 L [0],[],rfl,rfl,sL,aq,B2.claim sL Yk ⟨_,aq⟩,by rw [bI nLo.symm];exact to2,cY,fun k r x h=>by simp at h⟩
  ·rintro j σ Hc hj ⟨v,τc,rs,rfl,_,sc,_⟩
   exact bH.of (sc _ _ hL2)
  ·rintro j x σ Hc hj ⟨v,τc,rs,rfl,lj,sc,hLc,Bc,toc,tLc,hc⟩
   rw [List.getElem?_map] at hj
   obtain ⟨r0,er0,rfl⟩:∃r0,PL[j]? = some r0/\x = .ref r0:=by
    cases e:PL[j]? with
    | none=>rw [e] at hj;cases hj
    | some r0=>rw [e] at hj;exact ⟨r0,rfl,(Option.some.inj hj).symm⟩
   have jl:j<rws.length:=by rw [←lr];exact (List.getElem?_eq_some_iff.mp er0).1
   have ex:rws[j]? = some rws[j]:=by simp [jl]
   have rr:=U_ j r0 _ er0 ex;obtain ⟨ts,hts,Wi,rq,rl'⟩:=rr;dsimp only [iV,En];rw [if_pos rfl];refine ⟨_,rfl,r0,_,rfl,.inl (bH.of (sc _ _ hts)),fun r hrn=> ?_⟩;have sr:=aL (o:=HO.lst ts) hrn;have nrL:r≠L:=(aD hLc hrn).symm;have nro:r≠o:=(aD (sc _ _ ho2) hrn).symm;have hLf:H L=none:=TX.free Yk;refine ⟨rs.map V.ref,sr _ _ hLc,(by rw [List.length_map,sizeLine_eq];omega),some (.ref r0),bL τc r [0],rs++[r],rfl,by simp [lj],fun y u e=> ?_,by rw [aq];simp,(Bc.claim sr hrn ⟨_,aq⟩).set (.inr hLf), ?_, ?_, ?_⟩
   ·rw [aF (aD e Yk)]
    exact sr _ _ (sc _ _ e)
   ·rw [bI nro.symm];exact toc
   ·rw [bI nrL.symm];exact tLc
   ·intro k r' x' h1 h2
    have tups:∀y ys,Hc y=some (.tup ys)->(upd (upd Hc r (.lst ts)) L (.lst (rs.map V.ref++[V.ref r]))) y=some (.tup ys):=fun y ys e=>by
     rw [aF (eO e hLc (by intro z;cases z))];exact sr _ _ e
    rcases qO h1 with h1|⟨e1,rfl⟩
    ·obtain ⟨n1,t1,R1⟩:=hc k r' x' h1 h2
     have rr:=R1;obtain ⟨ts',hr',_⟩:=rr;have n2:r'≠r:=aD hr' hrn;refine ⟨n1,by rw [bI n2];exact t1,R1.keep (fun u e=> ?_) tups⟩;rw [aF n1];exact sr _ _ e
    ·rw [e1,lj,ex] at h2
     cases h2;refine ⟨nrL,cY,ts,by rw [aF nrL,aq], ?_,rq,rl'⟩;exact Wi.keep (fun y ys e=>tups _ _ (sc _ _ e)) _ (Dd _)
  rintro σ H3 ⟨v,τ3,rs,rfl,lrs,s23,hL3,B3,to3,tL3,RP⟩;rw [List.length_map] at lrs;have ho3:=s23 _ _ ho2;refine ⟨(by show 2<=sizeLine;decide),fun pg hpg=> ?_⟩;have W5:=aL (o:=HO.tup [V.int m,V.ref L]) hpg;refine ⟨_,rfl,o,ak,dx,_,rfl,W5 _ _ ho3,aM.cls,aM.sJ,(by show 0<1000;decide), ?_⟩;refine g _ _ ?_;have adZ:pg≠o:=(aD ho3 hpg).symm;have ho4:(upd (upd H3 pg (.tup [V.int m,V.ref L])) o (.ins ak dx (fK "program" (.ref pg) []))) o=some (.ins ak dx [("program",.ref pg)]):=aq;have Ye:(upd (upd H3 pg (.tup [V.int m,V.ref L])) o (.ins ak dx (fK "program" (.ref pg) []))) pg=some (.tup [V.int m,V.ref L]):=by rw [aF adZ,aq]
  have q4:uh [[i,0]] τ3 H3 τ3 (upd (upd H3 pg (.tup [V.int m,V.ref L])) o (.ins ak dx (fK "program" (.ref pg) []))):=(uh.of_same W5).trans (uh.set (by rw [to3];simp) (W5 _ _ ho3) (by intro xs z;cases z));have B4:Bs H τ o τ3 (upd (upd H3 pg (.tup [V.int m,V.ref L])) o (.ins ak dx (fK "program" (.ref pg) []))):=(B3.same W5).set (.inl rfl);have uz:Kp o H3 (upd (upd H3 pg (.tup [V.int m,V.ref L])) o (.ins ak dx (fK "program" (.ref pg) []))):=(Kp.of_same W5).trans Kp.set;generalize (upd (upd H3 pg (.tup [V.int m,V.ref L])) o (.ins ak dx (fK "program" (.ref pg) [])))=H4 at ho4 Ye q4 B4 uz ⊢;have hL4:=(q4.keep _ _ hL3 (by rw [tL3];simp)).1;have xZ:∀(k:Nat) (r:Addr) (x:List Rw),rs[k]? = some r->rws[k]? = some x->τ3 r=[0]/\eU H4 r m x:=fun k r x h1 h2=>jm ⟨(RP k r x h1 h2).2.1,(RP k r x h1 h2).2.2⟩ q4 (by simp);have ad8:cl≠o:=eO Yi ho2 (by intro z;cases z);have afp:=uz _ _ (s23 _ _ Yi) ad8;refine qC (fun R g=> ?_);refine ⟨_,rfl,cl,_,rfl,.inl (bH.of afp),fun nb hnb=> ?_⟩;have ZR:=aL (o:=HO.lst (ns.map V.int)) hnb;refine ⟨_,rfl,o,ak,dx,_,rfl,ZR _ _ ho4,aM.cls,aM.jK,(by show 1<1000;decide), ?_⟩;refine g _ _ ?_;have Uz:nb≠o:=(aD ho4 hnb).symm;have Wa:(upd (upd H4 nb (.lst (ns.map V.int))) o (.ins ak dx (fK "numbers" (.ref nb) [("program",.ref pg)]))) o=some (.ins ak dx [("program",.ref pg),("numbers",.ref nb)]):=aq;have Yh:(upd (upd H4 nb (.lst (ns.map V.int))) o (.ins ak dx (fK "numbers" (.ref nb) [("program",.ref pg)]))) nb=some (.lst (ns.map V.int)):=by rw [aF Uz,aq]
  have q5:uh [[i,0]] τ3 H4 (bL τ3 nb [i,1]) (upd (upd H4 nb (.lst (ns.map V.int))) o (.ins ak dx (fK "numbers" (.ref nb) [("program",.ref pg)]))):=(uh.claim ZR hnb).trans (uh.set (by rw [bI Uz.symm,to3];simp) (ZR _ _ ho4) (by intro xs z;cases z));have B5:Bs H τ o (bL τ3 nb [i,1]) (upd (upd H4 nb (.lst (ns.map V.int))) o (.ins ak dx (fK "numbers" (.ref nb) [("program",.ref pg)]))):=(B4.claim ZR hnb ⟨_,aq⟩).set (.inl rfl);have to5:bL τ3 nb [i,1] o=[i,0]:=by rw [bI Uz.symm];exact to3
  have tn5:bL τ3 nb [i,1] nb=[i,1]:=cY;generalize (upd (upd H4 nb (.lst (ns.map V.int))) o (.ins ak dx (fK "numbers" (.ref nb) [("program",.ref pg)])))=H5 at Wa Yh q5 B5 ⊢;generalize bL τ3 nb [i,1]=τ5 at q5 B5 to5 tn5;have Wf:=q5.keep _ _ hL4 (by rw [tL3];simp);have V_:∀(k:Nat) (r:Addr) (x:List Rw),rs[k]? = some r->rws[k]? = some x->τ5 r=[0]/\eU H5 r m x:=fun k r x h1 h2=>jm (xZ k r x h1 h2) q5 (by simp);have Yd:=q5.tup _ _ Ye;have tL5:τ5 L=[0]:=Wf.2.trans tL3;have Wf:=Wf.1;refine qC (fun R g=> ?_);refine ⟨_,rfl,o,ak,dx,_,_,rfl,Wa,aM.cls,aM.sJ,rfl,_,_,_,_,rfl,rfl,dg.of Yd,rfl,L,rfl,⟨_,bH.of Wf⟩,fun hl Wd=> ?_⟩;have shl:=aL (o:=HO.lst []) Wd;have ad6:hl≠o:=(aD Wa Wd).symm;refine lO (K:=K) (xs:=rs.map V.ref) (fun j σ Hc=>∃(v:Option V) (τc:Tg) (hd:List o9),σ=[v]/\hd.length=j/\Same H5 Hc/\Hc hl=some (.lst (hd.map fun a=> .ref a.h))/\Bs H τ o τc Hc/\(∀x u,H5 x=some u->τc x=τ5 x)/\τc hl=[i,2] /\ ∀(k:Nat) (A:o9) (x:List Rw),hd[k]? = some A->rws[k]? = some x->xO au i k m τc Hc A (new x)/\H A.h=none/\H A.b=none/\H A.sy=none) ?_ ?_ ?_ ?_
  ·exact ⟨none,bL τ5 hl [i,2],[],rfl,rfl,shl,aq,B5.claim shl Wd ⟨_,aq⟩,fun x u e=>bI (aD e Wd),cY,fun k A x h=>by simp at h⟩
  ·rintro j σ Hc hj ⟨v,τc,hd,rfl,_,sc,_⟩
   exact bH.of (sc _ _ Wf)
  ·rintro j x σ Hc hj ⟨v,τc,hd,rfl,lj,sc,Wc,Bc,V3,tlc,hc⟩
   rw [List.getElem?_map] at hj
   obtain ⟨r,er,rfl⟩:∃r,rs[j]? = some r/\x = .ref r:=by
    cases e:rs[j]? with
    | none=>rw [e] at hj;cases hj
    | some r0=>rw [e] at hj;exact ⟨r0,rfl,(Option.some.inj hj).symm⟩
   have jl:j<rws.length:=by rw [←lr,←lrs];exact (List.getElem?_eq_some_iff.mp er).1
   have ex:rws[j]? = some rws[j]:=by simp [jl]
   obtain ⟨tr,R⟩:=V_ j r _ er ex;have rr:=R;obtain ⟨ts,hts,_⟩:=rr;dsimp only [iV,En];rw [if_pos rfl];refine ⟨_,rfl,fun h hx hn hxn nhx=> ?_⟩;have hn':(upd Hc hx (.own h)) h=none:=by rw [aF nhx.symm];exact hn
   have sm:Same Hc (upd (upd Hc hx (.own h)) h (.ins au hx [])):=(aL hxn).trans (aL hn');refine ⟨h,r,hx,rfl,aq,fun b sy H7 hb hsy XH h7 b7 sy7 k7=>⟨rfl, ?_⟩⟩;have S7:Same Hc H7:=fun y u e=>k7 _ _ (sm _ _ e) (aD e hn);have fb:Hc b=none:=sm.free hb;have fy:Hc sy=none:=sm.free hsy;have nhl:hl≠h:=aD Wc hn;have nbl:hl≠b:=aD Wc fb;have nyl:hl≠sy:=aD Wc fy;have Z7:h≠b:=aD aq hb;have Z6:h≠sy:=aD aq hsy;have hlf:H hl=none:=B5.fresh Wd ad6;have sH:Same Hc Hc:=Same.refl _;have T:∀x u,Hc x=some u->bL (bL (bL τc h [i,4,j]) b [i,5,j]) sy [i,6,j] x=τc x:=fun y u e=>by rw [bI (aD e fy),bI (aD e fb),bI (aD e hn)]
   have B7:Bs H τ o (bL (bL (bL τc h [i,4,j]) b [i,5,j]) sy [i,6,j]) H7:=by
    refine ⟨fun y e=> ?_,Bc.kp.trans (Kp.of_same S7),fun y u e n=> ?_⟩
    ·have n1:y≠h:=fun z=>by rw [z,h7] at e;cases e
     have n2:y≠b:=fun z=>by rw [z,b7] at e;cases e
     have n3:y≠sy:=fun z=>by rw [z,sy7] at e;cases e
     rw [bI n3,bI n2,bI n1];exact Bc.un y (S7.free e)
    ·rw [T y u (Bc.kp _ _ e n)]
     exact Bc.tg y u e n
   have q7:uh [[i,2]] τc Hc (bL (bL (bL τc h [i,4,j]) b [i,5,j]) sy [i,6,j]) (upd H7 hl (.lst ((hd.map fun a=>V.ref a.h)++[V.ref h]))):=by
    refine ⟨fun y u e n=>⟨?_,T y u e⟩,fun y ys e=> ?_⟩
    ·rw [aF (fun z:y=hl=>n (by rw [z,tlc];simp))]
     exact S7 _ _ e
    ·rw [aF (eO e Wc (by intro z;cases z))]
     exact S7 _ _ e
   have Th:bL (bL (bL τc h [i,4,j]) b [i,5,j]) sy [i,6,j] h=[i,4,j]:=by rw [bI Z6,bI Z7,cY]
   have Tb:bL (bL (bL τc h [i,4,j]) b [i,5,j]) sy [i,6,j] b=[i,5,j]:=by rw [bI XH,cY]
   have Ty:bL (bL (bL τc h [i,4,j]) b [i,5,j]) sy [i,6,j] sy=[i,6,j]:=cY;generalize bL (bL (bL τc h [i,4,j]) b [i,5,j]) sy [i,6,j]=τ7 at T B7 q7 Th Tb Ty;refine ⟨_,S7 _ _ Wc,(by rw [List.length_map,sizeLine_eq];omega),some (.ref r),τ7,hd++[⟨h,hx,r,b,sy⟩],rfl,by simp [lj],fun y u e=> ?_,by rw [aq];simp,B7.set (.inr hlf),fun y u e=> ?_, ?_, ?_⟩
   ·rw [aF (aD e Wd)]
    exact S7 _ _ (sc _ _ e)
   ·rw [T y u (sc _ _ e)]
    exact V3 y u e
   ·rw [T _ _ Wc];exact tlc
   ·intro k A x' h1 h2
    rcases qO h1 with h1|⟨e1,rfl⟩
    ·exact ⟨(hc k A x' h1 h2).1.mvT q7 (by simp) (by simp) (by simp) (by simp),(hc k A x' h1 h2).2⟩
    ·rw [e1,lj,ex] at h2
     cases h2;rw [e1,lj];have tr':τc r=[0]:=by rw [V3 _ _ hts];exact tr
     obtain ⟨t9,R9⟩:=jm ⟨tr',R.same sc⟩ q7 (by simp);have hoc:=sc _ _ Wa;exact ⟨⟨⟨by rw [aF nhl.symm];exact h7,by rw [aF nbl.symm];exact b7,by rw [aF nyl.symm];exact sy7,XH,rfl⟩,R9,t9,Th,Tb,Ty⟩,Bc.fresh hn (aD hoc hn).symm,Bc.fresh fb (aD hoc fb).symm,Bc.fresh fy (aD hoc fy).symm⟩
  rintro σ H8 ⟨v,τ8,hd,rfl,lhd,ZV,afm,B8,ZJ,tl8,hd8⟩;rw [List.length_map] at lhd;have ho8:=ZV _ _ Wa;have to8:τ8 o=[i,0]:=by rw [ZJ _ _ Wa];exact to5
  refine ⟨_,rfl,o,ak,dx,_,rfl,ho8,aM.cls,aM.oU,(by show 2<1000;decide), ?_⟩;refine g _ _ ?_;have ho9:(upd H8 o (.ins ak dx (fK "hands" (.ref hl) [("program",.ref pg),("numbers",.ref nb)]))) o=some (.ins ak dx [("program",.ref pg),("numbers",.ref nb),("hands",.ref hl)]):=aq;have q9:uh [[i,0]] τ8 H8 τ8 (upd H8 o (.ins ak dx (fK "hands" (.ref hl) [("program",.ref pg),("numbers",.ref nb)]))):=uh.set (by rw [to8];simp) ho8 (by intro xs z;cases z);have B9:Bs H τ o τ8 (upd H8 o (.ins ak dx (fK "hands" (.ref hl) [("program",.ref pg),("numbers",.ref nb)]))):=B8.set (.inl rfl);generalize (upd H8 o (.ins ak dx (fK "hands" (.ref hl) [("program",.ref pg),("numbers",.ref nb)])))=H9 at ho9 q9 B9 ⊢;refine qC (fun R g=> ?_);refine ⟨(by show 0<=sizeLine;decide),fun tn htn=> ?_⟩;have ZP:=aL (o:=HO.lst []) htn;refine ⟨_,rfl,o,ak,dx,_,rfl,ZP _ _ ho9,aM.cls,aM.uT,(by show 3<1000;decide), ?_⟩;refine g _ _ ?_;have Ux:tn≠o:=(aD ho9 htn).symm;have Va:(upd (upd H9 tn (.lst [])) o (.ins ak dx (fK "turns" (.ref tn) [("program",.ref pg),("numbers",.ref nb),("hands",.ref hl)]))) o=some (.ins ak dx (wF pg nb hl tn)):=aq;have RM:(upd (upd H9 tn (.lst [])) o (.ins ak dx (fK "turns" (.ref tn) [("program",.ref pg),("numbers",.ref nb),("hands",.ref hl)]))) tn=some (.lst []):=by rw [aF Ux,aq]
  have q10:uh [[i,0]] τ8 H9 (bL τ8 tn [i,3]) (upd (upd H9 tn (.lst [])) o (.ins ak dx (fK "turns" (.ref tn) [("program",.ref pg),("numbers",.ref nb),("hands",.ref hl)]))):=(uh.claim ZP htn).trans (uh.set (by rw [bI Ux.symm,to8];simp) (ZP _ _ ho9) (by intro xs z;cases z));have B10:Bs H τ o (bL τ8 tn [i,3]) (upd (upd H9 tn (.lst [])) o (.ins ak dx (fK "turns" (.ref tn) [("program",.ref pg),("numbers",.ref nb),("hands",.ref hl)]))):=(B9.claim ZP htn ⟨_,aq⟩).set (.inl rfl);have Tf:bL τ8 tn [i,3] o=[i,0]:=by rw [bI Ux.symm];exact to8
  have S_:bL τ8 tn [i,3] tn=[i,3]:=cY;have Fe:=q9.trans q10;generalize (upd (upd H9 tn (.lst [])) o (.ins ak dx (fK "turns" (.ref tn) [("program",.ref pg),("numbers",.ref nb),("hands",.ref hl)])))=Wn at Va RM q10 B10 Fe ⊢;generalize bL τ8 tn [i,3]=Ec at q10 B10 Tf S_ Fe;have yO:=Fe.keep _ _ afm (by rw [tl8];simp);have K8:Ec hl=[i,2]:=yO.2.trans tl8;have yO:=yO.1
  have n5:∀x u,H5 x=some u->τ5 x≠[i,0]->Wn x=some u/\Ec x=τ5 x:=fun x u e n=>by
   have:=Fe.keep _ _ (ZV _ _ e) (by rw [ZJ _ _ e];simp [n]);exact ⟨this.1,by rw [this.2,ZJ _ _ e]⟩
  have Yl:=n5 _ _ Wf (by rw [tL5];simp);have RQ:=n5 _ _ Yh (by rw [tn5];simp);have Yg:=Fe.tup _ _ (ZV _ _ Yd);have afn:∀(k:Nat) (A:o9) (x:List Rw),hd[k]? = some A->rws[k]? = some x->xO au i k m Ec Wn A (new x):=fun k A x h1 h2=>(hd8 k A x h1 h2).1.mvT Fe (by simp) (by simp) (by simp) (by simp)
  have afg:∀(k:Nat) (r:Addr) (x:List Rw),rs[k]? = some r->rws[k]? = some x->Ec r=[0]/\eU Wn r m x:=fun k r x h1 h2=>by
   obtain ⟨t5,R5⟩:=V_ k r x h1 h2;have rr:=R5;obtain ⟨ts,hts,_⟩:=rr;exact jm ⟨by rw [ZJ _ _ hts];exact t5,R5.same ZV⟩ Fe (by simp)
  have lh:hd.length=rws.length:=by rw [lhd,lrs,lr]
  refine ⟨_,rfl,o,ak,dx,_,_,rfl,Va,aM.cls,aM.oU,rfl,hl,rfl,⟨_,bH.of yO⟩, ?_⟩
  refine oG (K:=K) (a:=hl) (xs:=hd.map fun a=>V.ref a.h) (fun j σ Hc=>∃x1:Option V,σ=[some (.ref o),some (.ref p),some (.ref cl),x1]/\(∀x u,Wn x=some u->(∀k,Ec x≠[i,4,k])->(∀k,Ec x≠[i,5,k])->(∀k,Ec x≠[i,6,k])->Hc x=some u)/\(∀x ys,Wn x=some (.tup ys)->Hc x=some (.tup ys))/\Bs H τ o Ec Hc /\
   ∀(k:Nat) (A:o9) (x:List Rw),hd[k]? = some A->rws[k]? = some x->xO au i k m Ec Hc A (if k<j then lead (new x) else new x))
   ⟨none,rfl,fun x u e _ _ _=>e,fun x ys e=>e,B10,fun k A x h1 h2=>by rw [if_neg (by omega)];exact afn k A x h1 h2⟩ (fun j σ Hc _ ⟨_,_,kc,_⟩=>bH.of (kc _ _ yO (by rw [K8];simp) (by rw [K8];simp) (by rw [K8];simp))) ?_ ?_
  ·rintro j v σ Hc hj ⟨x1,rfl,kc,tc,Bc,hc⟩
   rw [List.getElem?_map] at hj
   obtain ⟨A,eA,rfl⟩:∃A,hd[j]? = some A/\v = .ref A.h:=by
    cases e:hd[j]? with
    | none=>rw [e] at hj;cases hj
    | some A=>rw [e] at hj;exact ⟨A,rfl,(Option.some.inj hj).symm⟩
   have jl:j<rws.length:=by rw [←lh];exact (List.getElem?_eq_some_iff.mp eA).1
   have ex:rws[j]? = some rws[j]:=by simp [jl]
   have a:=hc j A _ eA ex;rw [if_neg (by omega)] at a;refine ⟨_,rfl,A.h,A.hx,_,rfl,a.c.h,rfl,A,_,m,rfl,a.c,a.r,dN a.tr a.tb (by intro z;cases z),dN a.tr a.ty (by intro z;cases z),(by show 0<900000;decide),fun H12 c12 k12=> ?_⟩;have ZX:uh [[i,4,j],[i,5,j],[i,6,j]] Ec Hc Ec H12:=⟨fun x u e n=>⟨k12 _ _ e (fun z=>n (by rw [z,a.th];simp)) (fun z=>n (by rw [z,a.tb];simp)) (fun z=>n (by rw [z,a.ty];simp)),rfl⟩,a.c.tup k12⟩;refine ⟨_,rfl,fun x u e n4 n5 n6=>(ZX.keep _ _ (kc x u e n4 n5 n6) (by simp [n4,n5,n6])).1,fun x ys e=>ZX.tup _ _ (tc _ _ e), ?_, ?_⟩
   ·obtain ⟨f1,f2,f3⟩:=(hd8 j A _ eA ex).2
    refine ⟨Bc.un.dom fun x e=> ?_,fun x u e n=>k12 _ _ (Bc.kp _ _ e n) (aD e f1) (aD e f2) (aD e f3),Bc.tg⟩;cases q:Hc x with
    | none=>rfl
    | some u=>
      have no:∀y o,H12 y=some o->x≠y:=fun y o h z=>by rw [z,h] at e;cases e
      rw [k12 _ _ q (no _ _ c12.h) (no _ _ c12.b) (no _ _ c12.y)] at e;cases e
   ·intro k A' x h1 h2
    by_cases z:k=j
    ·subst z
     rw [eA] at h1;cases h1;rw [ex] at h2;cases h2;rw [if_pos (by omega)];have lr':(lead (new rws[k])).rws=rws[k]:=uV _ _;refine ⟨c12, ?_,a.tr,a.th,a.tb,a.ty⟩;rw [lr'];exact (jm ⟨a.tr,a.r⟩ ZX (by simp)).2
    ·have b:=(hc k A' x h1 h2).mvT ZX (by simp) (by simp [z]) (by simp [z]) (by simp [z])
     by_cases lt:k<j
     ·rw [if_pos lt] at b
      rw [if_pos (by omega)];exact b
     ·rw [if_neg lt] at b
      rw [if_neg (by omega)];exact b
  ·rintro σ H11 ⟨x1,rfl,kc,tc,Bc,hc⟩
   rw [List.length_map] at hc;have kt:∀x u t,Wn x=some u->Ec x=t->(∀k,t≠[i,4,k])->(∀k,t≠[i,5,k])->(∀k,t≠[i,6,k])->H11 x=some u:=fun x u t e et n4 n5 n6=>kc x u e (by rw [et];exact n4) (by rw [et];exact n5) (by rw [et];exact n6);have WR:Ec L=[0]:=Yl.2.trans tL5;have WD:Ec nb=[i,1]:=RQ.2.trans tn5
   have get:∀(k:Nat) (s:bG),(rws.map fun r=>lead (new r))[k]? = some s -> ∃x,rws[k]? = some x/\s=lead (new x):=fun k s e=>by
    rw [List.getElem?_map] at e;cases q:rws[k]? with
    | none=>rw [q] at e;cases e
    | some x=>rw [q] at e;exact ⟨x,rfl,(Option.some.inj e).symm⟩
   refine k1 good Ec ⟨o,dx,pg,L,nb,hl,tn,rs,hd⟩ H11 rfl ⟨Bc.un,i0,kt _ _ _ Va Tf (by simp) (by simp) (by simp),tc _ _ Yg,kt _ _ _ Yl.1 WR (by simp) (by simp) (by simp),kt _ _ _ RQ.1 WD (by simp) (by simp) (by simp),kt _ _ _ yO K8 (by simp) (by simp) (by simp),kt _ _ _ RM S_ (by simp) (by simp) (by simp),Tf,WD,K8,S_,WR, ?_, ?_, ?_, ?_, ?_, ?_, ?_, ?_⟩ Bc.tg Bc.kp
   ·show rs.length=(rws.map _).length
    rw [List.length_map,lrs,lr]
   ·intro k r s h1 h2
    obtain ⟨x,ex,rfl⟩:=get k s h2;obtain ⟨t1,R1⟩:=afg k r x h1 ex;have lr':(lead (new x)).rws=x:=uV _ _;rw [lr'];exact ⟨t1,R1.keep (fun u e=>kt _ _ _ e t1 (by simp) (by simp) (by simp)) tc⟩
   ·show hd.length=(rws.map _).length
    rw [List.length_map,lh]
   ·intro k A s h1 h2
    obtain ⟨x,ex,rfl⟩:=get k s h2;have:=hc k A x h1 ex;rw [if_pos (List.getElem?_eq_some_iff.mp h1).1] at this;exact this
   ·intro s ms
    obtain ⟨x,_,rfl⟩:=List.mem_map.mp ms;exact FJ _ _
   ·intro s ms
    obtain ⟨x,_,rfl⟩:=List.mem_map.mp ms;exact Fz 60 (new x)
   ·have:=good.1
    show ns.length=m;omega
   ·show (rws.map _).length<=100
    rw [List.length_map];exact rl
theorem N6 {H:Hp} (x:Option Int):Dat H (oV x) (oD x):=by cases x<;>simp only [oV,oD,Dat]
structure ST (τ:Tg) (H:Hp) (r:Addr):Prop where
 S:bC H r
 t:τ r=[]
 un:yp τ H
theorem ST.draw {τ:Tg} {H H':Hp} {r:Addr} (h:ST τ H r) (k:Kp r H H') (S':bC H' r):ST τ H' r:=⟨S',h.t,h.un.dom fun x e=>Kp.new k e S'.at⟩
theorem ST.stp {τ:Tg} {H H':Hp} {r:Addr} {i:Nat} (h:ST τ H r) (k:Ot i τ H H'):ST τ H' r:=by
 obtain ⟨f,t,c,e,q⟩:=h.S;exact ⟨⟨f,t,c,k.keep _ _ e (by rw [h.t];simp),q⟩,h.t,h.un.dom k.dom⟩
theorem ST.same {τ:Tg} {H H':Hp} {r:Addr} (h:ST τ H r) (k:Same H H'):ST τ H' r:=h.stp (i:=0) (Ot.of_same k)
theorem ST.kr {τ:Tg} {H H':Hp} {r:Addr} {i:Nat} (h:ST τ H r) (k:Kp r H H'):Mv i τ H τ H':=by
 obtain ⟨f,t,c,e,q⟩:=h.S;exact Mv.Rx k e (by intro xs z;cases z) h.t
theorem ST.ne {τ:Tg} {H:Hp} {r x:Addr} (h:ST τ H r) (t:τ x≠[]):x≠r:=fun z=>t (by rw [z];exact h.t)
theorem ST.keep {τ:Tg} {H H':Hp} {r x:Addr} {o:HO} (h:ST τ H r) (k:Kp r H H') (e:H x=some o) (t:τ x≠[]):H' x=some o:=k _ _ e (h.ne t)
theorem ST.claim {τ:Tg} {H H':Hp} {r p:Addr} {t:List Nat} (h:ST τ H r) (k:Same H H') (hp:H p=none) (hp':∃o,H' p=some o):ST (bL τ p t) H' r:=⟨h.S.keep k,by rw [bI (h.S.ne hp).symm];exact h.t,h.un.claim k hp'⟩
theorem ST.made {τ τ':Tg} {H H':Hp} {r:Addr} (h:ST τ H r) (k:Same H H') (tg:∀x u,H x=some u->τ' x=τ x) (un:yp τ' H'):ST τ' H' r:=by
 obtain ⟨o,e⟩:=h.S.at;exact ⟨h.S.keep k,by rw [tg _ _ e];exact h.t,un⟩
theorem ST.set {τ:Tg} {H:Hp} {r x:Addr} {o u:HO} (h:ST τ H r) (e:H x=some o) (t:τ x≠[]):ST τ (upd H x u) r:=by
 refine ⟨h.S.keep' Kp.set (h.ne t).symm,h.t,fun y ey=> ?_⟩
 by_cases z:y=x
 ·rw [z,aq] at ey;cases ey
 ·rw [aF z] at ey;exact h.un y ey
theorem Vv:∀b:Fin 8,uM (Str.ofString "abcdefgh").cps.toList ((b.val:Nat):Int)=some (97+b.val):=by decide +kernel
theorem Iv {i:Int} (h0:0<=i) (h1:i<8):uM (Str.ofString "abcdefgh").cps.toList i=some (97+i.toNat):=by
 have:=Vv ⟨i.toNat,by omega⟩;simp only [Int.toNat_of_nonneg h0] at this;exact this
theorem IK:(Str.ofString "abcdefgh").length<=sizeLine:=by rw [sizeLine_eq];decide
theorem NZ {H:Hp} {p:Addr} {x:Ko} (h:H p=some (.tup (match x with | .num n=>[.str "number",.int n] | .box b=>[.str "box",.str (rA b)]))):Dat H (.ref p) (yC x):=by
 cases x<;>simp only [yC,Dat]<;>refine ⟨p,_,rfl,h, ?_⟩<;>simp only [aO,Dat,and_true]
theorem Q7 {H:Hp} {p:Addr} {a b:V} {q:Bool} {x y:Ko} (h:H p=some (.tup [.str (if q then "plus" else "minus"),a,b])) (da:Dat H a (yC x)) (db:Dat H b (yC y)):Dat H (.ref p) (lR (.two q x y)):=by
 simp only [lR,Dat];refine ⟨p,_,rfl,h, ?_⟩;simp only [aO,Dat,and_true];exact ⟨trivial,da,db⟩
section
variable {H:Hp} {p:Addr} {x y:V} {b c n:Nat} {e f:D_}
theorem N7 (h:H p=some (.tup [.str "load",.str (rA b),.int c])):Dat H (.ref p) (lK (.load b c)):=by
 simp only [lK,Dat];exact ⟨p,_,rfl,h,by simp only [aO,Dat,and_true]⟩
theorem JT (h:H p=some (.tup [.str "store",.int c,x])) (d:Dat H x (lR e)):Dat H (.ref p) (lK (.store c e)):=by
 simp only [lK,Dat];exact ⟨p,_,rfl,h,by simp only [aO,Dat,and_true,true_and];exact d⟩
theorem N5 (h:H p=some (.tup [.str "swap",.str (rA b),.int c,x])) (d:Dat H x (lR e)):Dat H (.ref p) (lK (.swap b c e)):=by
 simp only [lK,Dat];exact ⟨p,_,rfl,h,by simp only [aO,Dat,and_true,true_and];exact d⟩
theorem Q_ (h:H p=some (.tup [.str "let",.str (rA b),x])) (d:Dat H x (lR e)):Dat H (.ref p) (lK (.uy b e)):=by
 simp only [lK,Dat];exact ⟨p,_,rfl,h,by simp only [aO,Dat,and_true,true_and];exact d⟩
theorem Q9 (h:H p=some (.tup [.str "say",x])) (d:Dat H x (lR e)):Dat H (.ref p) (lK (.say e)):=by
 simp only [lK,Dat];exact ⟨p,_,rfl,h,by simp only [aO,Dat,and_true,true_and];exact d⟩
theorem Vq (h:H p=some (.tup [.str "go",.int n])):Dat H (.ref p) (lK (.go n)):=by
 simp only [lK,Dat];exact ⟨p,_,rfl,h,by simp only [aO,Dat,and_true]⟩
theorem Q6 {q:Bool} (h:H p=some (.tup [.str "unless",.str (if q then "=" else "<"),x,y,.int n])) (d:Dat H x (lR e)) (d':Dat H y (lR f)):Dat H (.ref p) (lK (.xU q e f n)):=by
 simp only [lK,Dat];exact ⟨p,_,rfl,h,by simp only [aO,Dat,and_true,true_and];exact ⟨d,d'⟩⟩
end
def zq (K:PySem.W.Frag):Sp:=fun vs H Q _=>∃(r:Addr) (b:Int),vs=[.ref r,.int b]/\bC H r/\0<b/\b<=8 /\ ∀(v:V) (x:Ko) (H':Hp),Dat H' v (yC x)->KQ x->bC H' r->Kp r H H'->Q v H'
theorem Mq {f:Addr} {fd:FuncData} (F:jX K "_law_value" "_law_value" iD f fd) (bU:FnAt P w K mg base 1 "_law_draw" ["spring","many"] (mQ K)):cj P w K mg base jA 2 f fd ["spring","boxes"] (zq K):=by
 refine F.ok Ji (fun vs H Q E h=> ?_) (fun cdv A outer s H vs Q E hr h=> ?_)
 ·obtain ⟨r,b,rfl,_⟩:=h
  rfl
 ·obtain ⟨r,b,rfl,R,b0,b1,k⟩:=h
  refine ⟨_,(aB (cG (aY cU (bM bU (hr.mono (by decide)) (by rfl) (aj (pv 0) (aj aC aA))) aC (aR _)) (aG (aZ (fP (aj bA (aj (bM bU (hr.mono (by decide)) (by rfl) (aj (pv 0) (aj (aN (aX (K:=K) rfl) (fQ (aj aC (aj aC aA))) (bM bU (hr.mono (by decide)) (by rfl) (aj (pv 0) (aj aC aA))) (fun _ _=>rfl)) aA))) aA))))) bF)
   (aG (aZ (fP (aj bA (aj (aN Nq bA (bM bU (hr.mono (by decide)) (by rfl) (aj (pv 0) (aj (pv 1) aA))) (fun _ _=>rfl)) aA)))))), ?_⟩
  refine ⟨_,rfl,r,2,rfl,R,by decide,by decide,fun z H1 z0 z1 R1 k1=>⟨rfl,_,rfl, ?_⟩⟩;refine bQ (fun _=> ?_) (fun _=> ?_)
  ·refine ⟨_,rfl,(by show 2<=sizeLine;decide),fun l hl=> ?_⟩
   have sl:=aL (o:=HO.lst [V.int 4,V.int 1000]) hl;have nlr:l≠r:=R1.ne hl;refine ⟨_,rfl,r,2,rfl,R1.keep sl,by decide,by decide,fun q H2 q0 q1 R2 k2=> ?_⟩
   obtain ⟨bb,eb,b0,b1⟩:∃bb:Int,uM [V.int 4,V.int 1000] q=some (.int bb)/\0<bb/\bb<=1000:=by
    have:q=0\/q=1:=by omega
    rcases this with rfl|rfl
    ·exact ⟨4,rfl,by decide,by decide⟩
    ·exact ⟨1000,rfl,by decide,by decide⟩
   refine ⟨_,_,_,_,rfl,rfl,bH.of (k2 _ _ aq nlr),eb,r,bb,rfl,R2,b0,by omega,fun n H3 n0 n1 R3 k3=> ?_⟩;refine ⟨(by show 2<=sizeLine;decide),fun p hp=> ?_⟩;have sp:=aL (o:=HO.tup [V.str (Str.ofString "number"),V.int n]) hp;exact k _ (.num n) _ (NZ (x:= .num n) aq) ⟨n0,by omega⟩ (R3.keep sp) ((((k1.trans (.of_same sl)).trans k2).trans k3).trans (.of_same sp))
  refine ⟨_,rfl,_,rfl,r,b,rfl,R1,b0,by omega,fun n H2 n0 n1 R2 k2=> ?_⟩;refine ⟨_,_,_,rfl,rfl,IK,Iv n0 (by omega),(by show 2<=sizeLine;decide),fun p hp=> ?_⟩;have sp:=aL (o:=HO.tup [V.str (Str.ofString "box"),V.str (rA n.toNat)]) hp;exact k _ (.box n.toNat) _ (NZ (x:= .box n.toNat) aq) (by show n.toNat<8;omega) (R2.keep sp) ((k1.trans k2).trans (.of_same sp))
def zm (K:PySem.W.Frag):Sp:=fun vs H Q _=>∃(r:Addr) (b:Int),vs=[.ref r,.int b]/\bC H r/\0<b/\b<=8 /\ ∀(v:V) (e:D_) (H':Hp),Dat H' v (lR e)->sX e->bC H' r->Kp r H H'->Q v H'
theorem Mj {f:Addr} {fd:FuncData} (F:jX K "_law_worth" "_law_worth" iC f fd) (bU:FnAt P w K mg base 1 "_law_draw" ["spring","many"] (mQ K)) (DY:FnAt P w K mg base 2 "_law_value" ["spring","boxes"] (zq K)):cj P w K mg base jA 3 f fd ["spring","boxes"] (zm K):=by
 refine F.ok rR (fun vs H Q E h=> ?_) (fun cdv A outer s H vs Q E hr h=> ?_)
 ·obtain ⟨r,b,rfl,_⟩:=h
  rfl
 ·obtain ⟨r,b,rfl,R,b0,b1,k⟩:=h
  refine ⟨_,(aB (bB (i:=2) rR.nd rfl (Or.inl rfl) (bM bU (hr.mono (by decide)) (by rfl) (aj (pv 0) (aj aC aA))))
   (aB (bB (i:=3) rR.nd rfl (Or.inl rfl) (bM DY (hr.mono (by decide)) (by rfl) (aj (pv 0) (aj (pv 1) aA))))
   (aB (cG (aY Cp (pv 2) aC (aR _)) (aG (aZ (pv 3))) bF)
   (aG (aZ (fP (aj (aN (aX (K:=K) rfl) (fQ (aj bA (aj bA aA))) (cP Fi (pv 2) aC) (fun _ _=>rfl)) (aj (pv 3) (aj (bM DY (hr.mono (by decide)) (by rfl) (aj (pv 0) (aj (pv 1) aA))) aA))))))))), ?_⟩
  refine ⟨_,rfl,r,4,rfl,R,by decide,by decide,fun z H1 z0 z1 R1 k1=> ?_⟩;refine ⟨_,rfl,_,rfl,r,b,rfl,R1,b0,b1,fun v x H2 dx xo R2 k2=> ?_⟩;refine ⟨_,rfl,_,_,rfl,rfl,_,rfl, ?_⟩;have k12:=k1.trans k2;refine bQ (fun _=> ?_) (fun zz=> ?_)
  ·exact ⟨_,rfl,k v (.one x) H2 dx xo R2 k12⟩
  have z2:2<=z:=by simp at zz;omega
  refine ⟨(by show 2<=sizeLine;decide),fun l hl=> ?_⟩;have sl:=aL (o:=HO.lst [V.str (Str.ofString "plus"),V.str (Str.ofString "minus")]) hl
  obtain ⟨q,eq⟩:∃q:Bool,uM [V.str (Str.ofString "plus"),V.str (Str.ofString "minus")] (z - 2)=some (.str (if q then "plus" else "minus")):=by
   have:z=2\/z=3:=by omega
   rcases this with rfl|rfl
   ·exact ⟨true,rfl⟩
   ·exact ⟨false,rfl⟩
  refine ⟨_,rfl,_,_,rfl,rfl,_,_,_,_,rfl,rfl,bH.of aq,eq, ?_⟩;have R3:=R2.keep sl;refine ⟨_,rfl,_,rfl,_,rfl,r,b,rfl,R3,b0,b1,fun u y H4 dy yo R4 k4=> ?_⟩;refine ⟨(by show 3<=sizeLine;decide),fun p hp=> ?_⟩;have sp:=aL (o:=HO.tup [V.str (if q then "plus" else "minus"),v,u]) hp;have dx4:=dx.keep (fun a xs e=>sp _ _ (R3.tups k4 _ _ (sl _ _ e))) _ (FP x);exact k _ (.two q x y) _ (Q7 aq dx4 (dy.same sp _)) ⟨xo,yo⟩ (R4.keep sp) (((k12.trans (.of_same sl)).trans k4).trans (.of_same sp))
def zj:List V:=[.str "load",.str "store",.str "swap",.str "let",.str "say",.str "go",.str "unless",.str "swap",.str "load",.str "store"]
theorem KR {z:Int} (h0:0<=z) (h1:z<10):∃wd:Str,uM zj z=some (.str wd)/\(wd = "load" \/ wd = "store" \/ wd = "swap" \/ wd = "let" \/ wd = "say" \/ wd = "go" \/ wd = "unless"):=by
 have:z=0\/z=1\/z=2\/z=3\/z=4\/z=5\/z=6\/z=7\/z=8\/z=9:=by omega
 rcases this with rfl|rfl|rfl|rfl|rfl|rfl|rfl|rfl|rfl|rfl
 ·exact ⟨_,rfl,.inl rfl⟩
 ·exact ⟨_,rfl,.inr (.inl rfl)⟩
 ·exact ⟨_,rfl,.inr (.inr (.inl rfl))⟩
 ·exact ⟨_,rfl,.inr (.inr (.inr (.inl rfl)))⟩
 ·exact ⟨_,rfl,.inr (.inr (.inr (.inr (.inl rfl))))⟩
 ·exact ⟨_,rfl,.inr (.inr (.inr (.inr (.inr (.inl rfl)))))⟩
 ·exact ⟨_,rfl,.inr (.inr (.inr (.inr (.inr (.inr rfl)))))⟩
 ·exact ⟨_,rfl,.inr (.inr (.inl rfl))⟩
 ·exact ⟨_,rfl,.inl rfl⟩
 ·exact ⟨_,rfl,.inr (.inl rfl)⟩
def Ew (K:PySem.W.Frag):Sp:=fun vs H Q _=>∃(r:Addr) (bx sz:Int) (m:Nat),vs=[.ref r,.int m,.int bx,.int sz]/\bC H r/\0<=sz/\sz<=100/\0<m/\m<=20/\0<bx/\bx<=8 /\ ∀(v:V) (x:Rw) (H':Hp),Dat H' v (lK x)->BW m x->bC H' r->Kp r H H'->Q v H'
theorem Qt {f:Addr} {fd:FuncData} (F:jX K "_law_line" "_law_line" jF f fd) (bU:FnAt P w K mg base 1 "_law_draw" ["spring","many"] (mQ K)) (DX:FnAt P w K mg base 3 "_law_worth" ["spring","boxes"] (zm K)):cj P w K mg base jA 4 f fd ["spring","room","boxes","many"] (Ew K):=by
 refine F.ok lJ (fun vs H Q E h=> ?_) (fun cdv A outer s H vs Q E hr h=> ?_)
 ·obtain ⟨r,bx,sz,m,rfl,_⟩:=h
  rfl
 ·obtain ⟨r,bx,sz,m,rfl,R,z0,z1,m0,m1,b0,b1,k⟩:=h
  refine ⟨_,(aB (bB (i:=4) lJ.nd rfl (Or.inl rfl) (aN (aX (K:=K) rfl) (fQ (aj bA (aj bA (aj bA (aj bA (aj bA (aj bA (aj bA (aj bA (aj bA (aj bA aA))))))))))) (bM bU (hr.mono (by decide)) (by rfl) (aj (pv 0) (aj aC aA))) (fun _ _=>rfl)))
   (aB (bB (i:=5) lJ.nd rfl (Or.inl rfl) (aN Nq bA (bM bU (hr.mono (by decide)) (by rfl) (aj (pv 0) (aj (pv 2) aA))) (fun _ _=>rfl)))
   (aB (bB (i:=6) lJ.nd rfl (Or.inl rfl) (bM bU (hr.mono (by decide)) (by rfl) (aj (pv 0) (aj (pv 1) aA))))
   (aB (bB (i:=7) lJ.nd rfl (Or.inl rfl) (bM bU (hr.mono (by decide)) (by rfl) (aj (pv 0) (aj (cP iJ (pv 3) aC) aA))))
   (aB (bB (i:=8) lJ.nd rfl (Or.inl rfl) (bM DX (hr.mono (by decide)) (by rfl) (aj (pv 0) (aj (pv 2) aA))))
   (aB (cG (aY cU (pv 4) bA (aR _)) (aG (aZ (fP (aj (pv 4) (aj (pv 5) (aj (pv 6) aA)))))) bF)
   (aB (cG (aY cU (pv 4) bA (aR _)) (aG (aZ (fP (aj (pv 4) (aj (pv 6) (aj (pv 8) aA)))))) bF)
   (aB (cG (aY cU (pv 4) bA (aR _)) (aG (aZ (fP (aj (pv 4) (aj (pv 5) (aj (pv 6) (aj (pv 8) aA))))))) bF)
   (aB (cG (aY cU (pv 4) bA (aR _)) (aG (aZ (fP (aj (pv 4) (aj (pv 5) (aj (pv 8) aA)))))) bF)
   (aB (cG (aY cU (pv 4) bA (aR _)) (aG (aZ (fP (aj (pv 4) (aj (pv 8) aA))))) bF)
   (aB (cG (aY cU (pv 4) bA (aR _)) (aG (aZ (fP (aj (pv 4) (aj (pv 7) aA))))) bF)
   (aG (aZ (fP (aj (pv 4) (aj (aN (aX (K:=K) rfl) (fQ (aj bA (aj bA aA))) (bM bU (hr.mono (by decide)) (by rfl) (aj (pv 0) (aj aC aA))) (fun _ _=>rfl)) (aj (pv 8) (aj (bM DX (hr.mono (by decide)) (by rfl) (aj (pv 0) (aj (pv 2) aA))) (aj (pv 7) aA))))))))))))))))))), ?_⟩
  refine ⟨(by show 10<=sizeLine;decide),fun l hl=> ?_⟩;have sl:=aL (o:=HO.lst zj) hl;have nlr:l≠r:=R.ne hl;refine ⟨_,rfl,r,10,rfl,R.keep sl,by decide,by decide,fun kd H1 kd0 kd1 R1 k1=> ?_⟩;obtain ⟨wd,ew,hw⟩:=KR kd0 kd1;refine ⟨_,_,_,_,rfl,rfl,bH.of (k1 _ _ (show upd H l (.lst zj) l=some (.lst zj) from aq) nlr),ew, ?_⟩;refine ⟨_,rfl,_,rfl,r,bx,rfl,R1,b0,by omega,fun i H3 i0 i1 R3 k3=> ?_⟩;refine ⟨_,_,_,rfl,rfl,IK,Iv i0 (by omega), ?_⟩;refine ⟨_,rfl,_,rfl,r,m,rfl,R3,by omega,by omega,fun c H4 c0 c1 R4 k4=> ?_⟩;obtain ⟨c,rfl⟩:=Int.eq_ofNat_of_zero_le c0;refine ⟨_,rfl,_,rfl,_,_,rfl,rfl,r,_,rfl,R4,by omega,by omega,fun to H5 t0 t1 R5 k5=> ?_⟩;obtain ⟨to,rfl⟩:=Int.eq_ofNat_of_zero_le t0;refine ⟨_,rfl,_,rfl,r,bx,rfl,R5,b0,b1,fun v e H6 d eo R6 k6=> ?_⟩;have K6:Kp r H H6:=(((((Kp.of_same sl).trans k1).trans k3).trans k4).trans k5).trans k6;have ib:i.toNat<8:=by omega
  have cm:c<m:=by omega
  clear k1 k3 k4 k5 k6 R1 R3 R4 R5 sl;rcases hw with rfl|rfl|rfl|rfl|rfl|rfl|rfl
  ·refine ⟨_,rfl,rfl,_,rfl,bQ (fun _=> ?_) (fun z=>absurd (decide_eq_true rfl) z)⟩
   refine ⟨_,rfl,_,rfl,_,rfl,(by show 3<=sizeLine;decide),fun p hp=> ?_⟩;have sp:=aL (o:=HO.tup [V.str (Str.ofString "load"),V.str (rA i.toNat),V.int c]) hp;exact k _ (.load i.toNat c) _ (N7 aq) ⟨ib,cm⟩ (R6.keep sp) (K6.trans (.of_same sp))
  ·refine ⟨_,rfl,rfl,_,rfl,bQ (fun z=>absurd (of_decide_eq_true z) (by decide)) (fun _=> ?_)⟩
   refine ⟨_,rfl,rfl,_,rfl,bQ (fun _=> ?_) (fun z=>absurd (decide_eq_true rfl) z)⟩;refine ⟨_,rfl,_,rfl,_,rfl,(by show 3<=sizeLine;decide),fun p hp=> ?_⟩;have sp:=aL (o:=HO.tup [V.str (Str.ofString "store"),V.int c,v]) hp;exact k _ (.store c e) _ (JT aq (d.same sp _)) ⟨cm,eo⟩ (R6.keep sp) (K6.trans (.of_same sp))
  ·refine ⟨_,rfl,rfl,_,rfl,bQ (fun z=>absurd (of_decide_eq_true z) (by decide)) (fun _=> ?_)⟩
   refine ⟨_,rfl,rfl,_,rfl,bQ (fun z=>absurd (of_decide_eq_true z) (by decide)) (fun _=> ?_)⟩;refine ⟨_,rfl,rfl,_,rfl,bQ (fun _=> ?_) (fun z=>absurd (decide_eq_true rfl) z)⟩;refine ⟨_,rfl,_,rfl,_,rfl,_,rfl,(by show 4<=sizeLine;decide),fun p hp=> ?_⟩;have sp:=aL (o:=HO.tup [V.str (Str.ofString "swap"),V.str (rA i.toNat),V.int c,v]) hp;exact k _ (.swap i.toNat c e) _ (N5 aq (d.same sp _)) ⟨ib,cm,eo⟩ (R6.keep sp) (K6.trans (.of_same sp))
  ·refine ⟨_,rfl,rfl,_,rfl,bQ (fun z=>absurd (of_decide_eq_true z) (by decide)) (fun _=> ?_)⟩
   refine ⟨_,rfl,rfl,_,rfl,bQ (fun z=>absurd (of_decide_eq_true z) (by decide)) (fun _=> ?_)⟩;refine ⟨_,rfl,rfl,_,rfl,bQ (fun z=>absurd (of_decide_eq_true z) (by decide)) (fun _=> ?_)⟩;refine ⟨_,rfl,rfl,_,rfl,bQ (fun _=> ?_) (fun z=>absurd (decide_eq_true rfl) z)⟩;refine ⟨_,rfl,_,rfl,_,rfl,(by show 3<=sizeLine;decide),fun p hp=> ?_⟩;have sp:=aL (o:=HO.tup [V.str (Str.ofString "let"),V.str (rA i.toNat),v]) hp;exact k _ (.uy i.toNat e) _ (Q_ aq (d.same sp _)) ⟨ib,eo⟩ (R6.keep sp) (K6.trans (.of_same sp))
  ·refine ⟨_,rfl,rfl,_,rfl,bQ (fun z=>absurd (of_decide_eq_true z) (by decide)) (fun _=> ?_)⟩
   refine ⟨_,rfl,rfl,_,rfl,bQ (fun z=>absurd (of_decide_eq_true z) (by decide)) (fun _=> ?_)⟩;refine ⟨_,rfl,rfl,_,rfl,bQ (fun z=>absurd (of_decide_eq_true z) (by decide)) (fun _=> ?_)⟩;refine ⟨_,rfl,rfl,_,rfl,bQ (fun z=>absurd (of_decide_eq_true z) (by decide)) (fun _=> ?_)⟩;refine ⟨_,rfl,rfl,_,rfl,bQ (fun _=> ?_) (fun z=>absurd (decide_eq_true rfl) z)⟩;refine ⟨_,rfl,_,rfl,(by show 2<=sizeLine;decide),fun p hp=> ?_⟩;have sp:=aL (o:=HO.tup [V.str (Str.ofString "say"),v]) hp;exact k _ (.say e) _ (Q9 aq (d.same sp _)) eo (R6.keep sp) (K6.trans (.of_same sp))
  ·refine ⟨_,rfl,rfl,_,rfl,bQ (fun z=>absurd (of_decide_eq_true z) (by decide)) (fun _=> ?_)⟩
   refine ⟨_,rfl,rfl,_,rfl,bQ (fun z=>absurd (of_decide_eq_true z) (by decide)) (fun _=> ?_)⟩;refine ⟨_,rfl,rfl,_,rfl,bQ (fun z=>absurd (of_decide_eq_true z) (by decide)) (fun _=> ?_)⟩;refine ⟨_,rfl,rfl,_,rfl,bQ (fun z=>absurd (of_decide_eq_true z) (by decide)) (fun _=> ?_)⟩;refine ⟨_,rfl,rfl,_,rfl,bQ (fun z=>absurd (of_decide_eq_true z) (by decide)) (fun _=> ?_)⟩;refine ⟨_,rfl,rfl,_,rfl,bQ (fun _=> ?_) (fun z=>absurd (decide_eq_true rfl) z)⟩;refine ⟨_,rfl,_,rfl,(by show 2<=sizeLine;decide),fun p hp=> ?_⟩;have sp:=aL (o:=HO.tup [V.str (Str.ofString "go"),V.int to]) hp;exact k _ (.go to) _ (Vq aq) trivial (R6.keep sp) (K6.trans (.of_same sp))
  ·refine ⟨_,rfl,rfl,_,rfl,bQ (fun z=>absurd (of_decide_eq_true z) (by decide)) (fun _=> ?_)⟩
   refine ⟨_,rfl,rfl,_,rfl,bQ (fun z=>absurd (of_decide_eq_true z) (by decide)) (fun _=> ?_)⟩;refine ⟨_,rfl,rfl,_,rfl,bQ (fun z=>absurd (of_decide_eq_true z) (by decide)) (fun _=> ?_)⟩;refine ⟨_,rfl,rfl,_,rfl,bQ (fun z=>absurd (of_decide_eq_true z) (by decide)) (fun _=> ?_)⟩;refine ⟨_,rfl,rfl,_,rfl,bQ (fun z=>absurd (of_decide_eq_true z) (by decide)) (fun _=> ?_)⟩;refine ⟨_,rfl,rfl,_,rfl,bQ (fun z=>absurd (of_decide_eq_true z) (by decide)) (fun _=> ?_)⟩;refine ⟨_,rfl,(by show 2<=sizeLine;decide),fun l2 hl2=> ?_⟩;have sl2:=aL (o:=HO.lst [V.str (Str.ofString "="),V.str (Str.ofString "<")]) hl2;have nl2:l2≠r:=R6.ne hl2;refine ⟨_,rfl,r,2,rfl,R6.keep sl2,by decide,by decide,fun q H7 q0 q1 R7 k7=> ?_⟩
   obtain ⟨qb,eqb⟩:∃qb:Bool,uM [V.str (Str.ofString "="),V.str (Str.ofString "<")] q=some (.str (if qb then "=" else "<")):=by
    have:q=0\/q=1:=by omega
    rcases this with rfl|rfl
    ·exact ⟨true,rfl⟩
    ·exact ⟨false,rfl⟩
   refine ⟨_,_,_,_,rfl,rfl,bH.of (k7 _ _ aq nl2),eqb,_,rfl,_,rfl,_,rfl,r,bx,rfl,R7,b0,b1,fun v' e' H8 d' eo' R8 k8=> ?_⟩;refine ⟨_,rfl,(by show 5<=sizeLine;decide),fun p hp=> ?_⟩;have sp:=aL (o:=HO.tup [V.str (Str.ofString "unless"),V.str (if qb then "=" else "<"),v,v',V.int to]) hp;have d8:=d.keep (fun a xs e=>sp _ _ (R7.tups k8 _ _ ((R6.keep sl2).tups k7 _ _ (sl2 _ _ e)))) _ (sU e);exact k _ (.xU qb e e' to) _ (Q6 aq d8 (d'.same sp _)) ⟨eo,eo'⟩ (R8.keep sp) ((((K6.trans (.of_same sl2)).trans k7).trans k8).trans (.of_same sp))
structure Pg (τ:Tg) (H:Hp) (p L:Addr) (rs:List Addr) (rws:List (List Rw)) (m:Nat):Prop where
 ep:H p=some (.tup [.int m,.ref L])
 eL:H L=some (.lst (rs.map V.ref))
 tL:τ L=[0]
 len:rs.length=rws.length
 row:∀(k:Nat) (r:Addr) (x:List Rw),rs[k]? = some r->rws[k]? = some x->τ r=[0]/\eU H r m x
theorem Pg.mv {i:Nat} {τ τ':Tg} {H H':Hp} {p L:Addr} {rs:List Addr} {rws:List (List Rw)} {m:Nat} (g:Pg τ H p L rs rws m) (q:Mv i τ H τ' H'):Pg τ' H' p L rs rws m:=by
 have e:=q.keep _ _ g.eL (.inl g.tL);exact ⟨q.tup _ _ g.ep,e.1,e.2.trans g.tL,g.len,fun k r x h1 h2=>G7 (g.row k r x h1 h2) q⟩
theorem Pg.same {τ:Tg} {H H':Hp} {p L:Addr} {rs:List Addr} {rws:List (List Rw)} {m:Nat} (g:Pg τ H p L rs rws m) (k:Same H H'):Pg τ H' p L rs rws m:=g.mv (Mv.of_same (i:=0) k)
def Eu (K:PySem.W.Frag):Sp:=fun vs H Q _=>∃(r:Addr) (τ:Tg),vs=[.ref r]/\ST τ H r /\ ∀(p L:Addr) (rs:List Addr) (rws:List (List Rw)) (m:Nat) (τ':Tg) (H':Hp),Pg τ' H' p L rs rws m->0<rws.length->rws.length<=8->0<m->m<=20->(∀x∈rws,x.length<=60)->ST τ' H' r->(∀x u,H x=some u->τ' x=τ x)->Kp r H H'->Q (.ref p) H'
theorem K1 (a b:Int) (q:Bool):∃nn:Int,uM [V.int a,V.int b] (if q then 1 else 0)=some (.int nn)/\(nn=a\/nn=b):=by
 cases q
 ·exact ⟨a,rfl,.inl rfl⟩
 ·exact ⟨b,rfl,.inr rfl⟩
theorem Qs {f:Addr} {fd:FuncData} (F:jX K "_law_program" "_law_program" fJ f fd) (bU:FnAt P w K mg base 1 "_law_draw" ["spring","many"] (mQ K)) (Rk:FnAt P w K mg base 4 "_law_line" ["spring","room","boxes","many"] (Ew K)) (Bt:yX mg):cj P w K mg base jA 5 f fd ["spring"] (Eu K):=by
 refine F.ok gb (fun vs H Q E h=> ?_) (fun cdv A outer s H vs Q E hr h=> ?_)
 ·obtain ⟨r,τ,rfl,_⟩:=h
  rfl
 ·obtain ⟨r,τ,rfl,T,k⟩:=h
  refine ⟨_,(aB (bB (i:=1) gb.nd rfl (Or.inl rfl) (cP iJ aC (bM bU (hr.mono (by decide)) (by rfl) (aj (pv 0) (aj (aN (aX (K:=K) rfl) (fQ (aj aC (aj aC aA))) (fj oZ (by rfl) Bt.Dz wV (aj (d7 cU (bM bU (hr.mono (by decide)) (by rfl) (aj (pv 0) (aj aC aA))) aC (aR _)) aA)) (fun _ _=>rfl)) aA)))))
   (aB (bB (i:=2) gb.nd rfl (Or.inr rfl) (cP iJ aC (bM bU (hr.mono (by decide)) (by rfl) (aj (pv 0) (aj (aN (aX (K:=K) rfl) (fQ (aj aC (aj aC (aj aC (aj aC aA))))) (bM bU (hr.mono (by decide)) (by rfl) (aj (pv 0) (aj aC aA))) (fun _ _=>rfl)) aA)))))
   (aB (bB (i:=3) gb.nd rfl (Or.inr rfl) (aN (aX (K:=K) rfl) (fQ (aj aC (aj aC aA))) (bM bU (hr.mono (by decide)) (by rfl) (aj (pv 0) (aj aC aA))) (fun _ _=>rfl)))
   (aB (bB (i:=4) gb.nd rfl (Or.inl rfl) (fQ aA))
   (aB (jQ PassesOwn.never rfl (dO (by rfl) Bt.fW (aj (pv 1) aA)) (bJ (i:=5) gb.nd rfl (Or.inl rfl))
   (aB (bB (i:=6) gb.nd rfl (Or.inr rfl) (bM bU (hr.mono (by decide)) (by rfl) (aj (pv 0) (aj (aN (aX (K:=K) rfl) (fQ (aj aC (aj aC aA))) (fj oZ (by rfl) Bt.Dz wV (aj (d7 cU (bM bU (hr.mono (by decide)) (by rfl) (aj (pv 0) (aj aC aA))) aC (aR _)) aA)) (fun _ _=>rfl)) aA))))
   (aG (eX (gk (K:=K) rfl (pv 4) (aj (gZ rfl (N:=["at","spring","room","boxes","many"]) (own:=["at"]) (caps:=[0,2,3,6]) (bw.of (by kernel_rfl)) (dO (by rfl) Bt.fW (aj (pv 6) aA)) (fun _ _ _ _=>(bJ (i:=0) (show List.Nodup (["at","spring","room","boxes","many"]:List Str) by decide +kernel) rfl (Or.inl rfl))) (fun _ _ _ _=>dZ) (fun _ _ _ _=>(bM Rk (hr.mono (by decide)) (by rfl) (aj (pv 1) (aj (pv 2) (aj (pv 3) (aj (pv 4) aA))))))) aA))))))
   (aG (aZ (fP (aj (pv 2) (aj (pv 4) aA)))))))))), ?_⟩
  refine ⟨_,rfl,(by show 2<=sizeLine;decide),fun l1 hl1=> ?_⟩;have W_:=aL (o:=HO.lst [V.int 4,V.int 8]) hl1;have nl1:l1≠r:=T.S.ne hl1;refine ⟨_,rfl,r,8,rfl,T.S.keep W_,by decide,by decide,fun z1 H1 z10 z11 R1 k1=>⟨rfl,.inr ⟨_,rfl, ?_⟩⟩⟩;obtain ⟨n1,en1,hn1⟩:=K1 4 8 (decide (V.int z1=V.int 7));refine ⟨_,_,_,_,rfl,rfl,bH.of (k1 _ _ aq nl1),en1,r,n1,rfl,R1,by omega,by omega,fun cnt H2 c0 c1 R2 k2=>⟨_,_,rfl,rfl, ?_⟩⟩;have T2:=((T.same W_).draw k1 R1).draw k2 R2;have kp2:=((Kp.of_same (r:=r) W_).trans k1).trans k2;have cb:1+cnt<=8:=by omega
  clear k1 k2 R1 en1;refine ⟨_,rfl,(by show 4<=sizeLine;decide),fun l2 hl2=> ?_⟩;have sl2:=aL (o:=HO.lst [V.int 1,V.int 2,V.int 3,V.int 20]) hl2;have nl2:l2≠r:=R2.ne hl2;refine ⟨_,rfl,r,4,rfl,R2.keep sl2,by decide,by decide,fun z H3 z0 z1 R3 k3=> ?_⟩
  obtain ⟨bb,eb,b0,b1⟩:∃bb:Int,uM [V.int 1,V.int 2,V.int 3,V.int 20] z=some (.int bb)/\0<bb/\bb<=20:=by
   have:z=0\/z=1\/z=2\/z=3:=by omega
   rcases this with rfl|rfl|rfl|rfl
   ·exact ⟨1,rfl,by decide,by decide⟩
   ·exact ⟨2,rfl,by decide,by decide⟩
   ·exact ⟨3,rfl,by decide,by decide⟩
   ·exact ⟨20,rfl,by decide,by decide⟩
  refine ⟨_,_,_,_,rfl,rfl,bH.of (k3 _ _ aq nl2),eb,r,bb,rfl,R3,b0,by omega,fun i H4 i0 i1 R4 k4=>⟨_,_,rfl,rfl, ?_⟩⟩;have T4:=((T2.same sl2).draw k3 R3).draw k4 R4;have uz:=((kp2.trans (Kp.of_same (r:=r) sl2)).trans k3).trans k4;obtain ⟨m,em,m0,HW⟩:∃m:Nat,(1:Int)+i=m/\0<m/\m<=20:=⟨(1+i).toNat,by omega,by omega,by omega⟩;dsimp only [iV];rw [em];clear k3 k4 R3 eb;refine ⟨(by show 2<=sizeLine;decide),fun l4 hl4=> ?_⟩;have W9:=aL (o:=HO.lst [V.int 2,V.int 8]) hl4;have ad4:l4≠r:=R4.ne hl4;refine ⟨_,rfl,r,2,rfl,R4.keep W9,by decide,by decide,fun z4 H5 z40 z41 R5 k5=> ?_⟩;have T5:=(T4.same W9).draw k5 R5
  obtain ⟨bx,ebx,bx0,bx1⟩:∃bb:Int,uM [V.int 2,V.int 8] z4=some (.int bb)/\0<bb/\bb<=8:=by
   have:z4=0\/z4=1:=by omega
   rcases this with rfl|rfl
   ·exact ⟨2,rfl,by decide,by decide⟩
   ·exact ⟨8,rfl,by decide,by decide⟩
  refine ⟨_,_,_,_,rfl,rfl,bH.of (k5 _ _ aq ad4),ebx, ?_⟩;have kp5:Kp r H H5:=(uz.trans (Kp.of_same W9)).trans k5;clear k5 ebx T4 T2 uz kp2;refine ⟨(by show 0<=sizeLine;decide),fun a ha=> ?_⟩;have sa:=aL (o:=HO.lst []) ha;have RB:a≠r:=R5.ne ha;have ha0:H a=none:=qK kp5 RB ha;have T6:=T5.claim (t:=[0]) sa ha ⟨_,aq⟩;have Tj:∀x u,H x=some u->bL τ a [0] x=τ x:=fun x u e=>bI (aD e ha0);have ta6:bL τ a [0] a=[0]:=cY;have XS:=kp5.trans (Kp.of_same sa);have ea6:(upd H5 a (.lst [])) a=some (.lst []):=aq;generalize (upd H5 a (.lst []))=H6 at sa T6 XS ea6 ⊢;generalize bL τ a [0]=τ6 at T6 Tj ta6;refine ⟨_,rfl,_,rfl,by omega,by omega, ?_⟩
  refine lM (lo:=0) (fun j σ Hc=>∃(v w':Option V) (τc:Tg) (rs:List Addr) (rws:List (List Rw)),σ=[some (.ref r),some (.int (1+cnt)),some (.int m),some (.int bx),some (.ref a),v,w']/\ST τc Hc r/\Hc a=some (.lst (rs.map V.ref))/\τc a=[0]/\rs.length=rws.length/\rws.length=j/\(∀x∈rws,x.length<=60)/\(∀(k:Nat) (q:Addr) (x:List Rw),rs[k]? = some q->rws[k]? = some x->q≠a/\τc q=[0]/\eU Hc q m x)/\(∀x u,H x=some u->τc x=τ x)/\Kp r H Hc)
   ⟨none,none,τ6,[],[],rfl,T6,ea6,ta6,rfl,rfl,by simp,fun k q x e=>by simp at e,Tj,XS⟩ ?_ ?_
  ·rintro j σ Hc hj ⟨v,w',τc,rs,rws,rfl,Tc,Vm,tac,lr,lj,l60,hrs,V3,kpc⟩
   refine ⟨_,rfl,(by show 2<=sizeLine;decide),fun l8 hl8=> ?_⟩;have O1:=aL (o:=HO.lst [V.int 9,V.int 61]) hl8;have nl8:l8≠r:=Tc.S.ne hl8;refine ⟨_,rfl,r,8,rfl,Tc.S.keep O1,by decide,by decide,fun g H7 g0 g1 R7 k7=>⟨rfl,.inr ⟨_,rfl, ?_⟩⟩⟩;obtain ⟨nz,ez,hnz⟩:=K1 9 61 (decide (V.int g=V.int 7));refine ⟨_,_,_,_,rfl,rfl,bH.of (k7 _ _ aq nl8),ez,r,nz,rfl,R7,by omega,by omega,fun sz H8 s0 s1 R8 k8=> ?_⟩;have T8:=((Tc.same O1).draw k7 R7).draw k8 R8;have k78:=k7.trans k8;have Np:∀x o,Hc x=some o->τc x≠[]->H8 x=some o:=fun x o e t=>(Tc.same O1).keep k78 (O1 _ _ e) t;have t8:∀x xs,Hc x=some (.tup xs)->H8 x=some (.tup xs):=fun x xs e=>(Tc.same O1).S.tups k78 _ _ (O1 _ _ e);have ea8:=Np _ _ Vm (by rw [tac];simp);have RD:=(kpc.trans (Kp.of_same O1)).trans k78;refine ⟨_,rfl,.inl ⟨rfl,_,bH.of ea8⟩,_,rfl,sz,rfl,by omega,by omega,fun D hD=> ?_⟩;have sD:=aL (o:=HO.lst []) hD;have XJ:D≠r:=R8.ne hD;have Wg:H D=none:=qK RD XJ hD;have Z_:D≠a:=(aD ea8 hD).symm;have TD:=T8.claim (t:=[0]) sD hD ⟨_,aq⟩
   have Ti:∀x u,Hc x=some u->bL τc D [0] x=τc x:=fun x u e=>by
    by_cases z:x=D
    ·subst z
     have:=k78 _ _ (O1 _ _ e) XJ;rw [hD] at this;cases this
    ·exact bI z
   have OJ:bL τc D [0] D=[0]:=cY;have ZL:bL τc D [0] a=[0]:=by rw [bI Z_.symm];exact tac
   have tgH:∀x u,H x=some u->bL τc D [0] x=τ x:=fun x u e=>by rw [bI (aD e Wg)];exact V3 x u e
   have QK:∀(k:Nat) (q:Addr) (x:List Rw),rs[k]? = some q->rws[k]? = some x->q≠a/\q≠D/\bL τc D [0] q=[0]/\eU H8 q m x:=fun k q x h1 h2=>by
    obtain ⟨n1,t1,R1'⟩:=hrs k q x h1 h2;have rr:=R1';obtain ⟨ts,hq,_⟩:=rr;have hq8:=Np _ _ hq (by rw [t1];simp);exact ⟨n1,aD hq8 hD,by rw [Ti _ _ hq];exact t1,R1'.keep (fun o e=>Np _ _ e (by rw [t1];simp)) t8⟩
   generalize bL τc D [0]=τd at TD Ti OJ ZL tgH QK;refine p7 (lo:=0) (n:=sz.toNat) (fun i σ Hd=>∃(v:Option V) (refs:List V) (rw':List Rw),σ=[v,some (.ref r),some (.int m),some (.int bx),some (.int sz)]/\ST τd Hd r/\Hd D=some (.lst refs)/\aO Hd refs (rw'.map lK)/\(∀x∈rw',BW m x)/\rw'.length=i/\Hd a=some (.lst (rs.map V.ref))/\(∀(k:Nat) (q:Addr) (x:List Rw),rs[k]? = some q->rws[k]? = some x->eU Hd q m x)/\Kp r H Hd) ?_ ?_ ?_
   ·exact ⟨none,[],[],rfl,TD,aq,by simp [aO],by simp,rfl,sD _ _ ea8,fun k q x h1 h2=>((QK k q x h1 h2).2.2.2).same sD,RD.trans (Kp.of_same sD)⟩
   ·rintro i σ Hd hi ⟨v,refs,rw',rfl,Td,RV,dd,od,ld,R_,hrd,kpd⟩
    dsimp only [iV,En];rw [if_pos rfl];refine ⟨_,rfl,_,rfl,_,rfl,_,rfl,r,bx,sz,m,rfl,Td.S,s0,by omega,m0,HW,bx0,bx1,fun y x H9 dy xo R9 k9=> ?_⟩;have T9:=Td.draw k9 R9;have Nm:∀x o,Hd x=some o->τd x≠[]->H9 x=some o:=fun x o e t=>Td.keep k9 e t;have t9:∀x xs,Hd x=some (.tup xs)->H9 x=some (.tup xs):=Td.S.tups k9;have hD9:=Nm _ _ RV (by rw [OJ];simp);have tu:∀a ys,H9 a=some (.tup ys)->(upd H9 D (.lst (refs++[y]))) a=some (.tup ys):=fun a ys e=>by rw [aF (eO e hD9 (by intro z;cases z))];exact e
    have ll:refs.length=rw'.length:=by rw [dd.length,List.length_map]
    refine ⟨refs,hD9,(by rw [ll,sizeLine_eq];omega),_,refs++[y],rw'++[x],rfl,T9.set hD9 (by rw [OJ];simp),aq, ?_, ?_,by simp [ld],by rw [aF Z_.symm];exact Nm _ _ R_ (by rw [ZL];simp), ?_, ?_⟩
    ·rw [List.map_append]
     exact jL ((dd.kp t9).kp tu) (dy.keep tu _ (Ad x))
    ·intro q hq
     rcases List.mem_append.mp hq with hq|hq
     ·exact od q hq
     ·rw [List.mem_singleton.mp hq];exact xo
    ·intro kk q x' h1 h2
     obtain ⟨_,n2,t2,_⟩:=QK kk q x' h1 h2;exact (hrd kk q x' h1 h2).keep (fun o e=>by rw [aF n2];exact Nm _ _ e (by rw [t2];simp)) (fun y ys e=>tu _ _ (t9 _ _ e))
    ·intro x' o e n'
     rw [aF (aD e Wg)];exact k9 _ _ (kpd _ _ e n') n'
   ·rintro σ Hd ⟨v,refs,rw',rfl,Td,RV,dd,od,ld,R_,hrd,kpd⟩
    refine ⟨_,_,_,rfl,rfl,R_,(by rw [List.length_map,lr,lj,sizeLine_eq];omega), ?_⟩;have tu:∀x ys,Hd x=some (.tup ys)->(upd Hd a (.lst (rs.map V.ref++[V.ref D]))) x=some (.tup ys):=fun x ys e=>by rw [aF (eO e R_ (by intro z;cases z))];exact e
    refine ⟨_,_,τd,rs++[D],rws++[rw'],rfl,Td.set R_ (by rw [ZL];simp),by rw [aq,List.map_append];rfl,ZL,by simp [lr],by simp [lj], ?_, ?_,tgH,fun x o e n'=>by rw [aF (aD e ha0)];exact kpd _ _ e n'⟩
    ·intro x hx
     rcases List.mem_append.mp hx with hx|hx
     ·exact l60 x hx
     ·rw [List.mem_singleton.mp hx];omega
    ·intro kk q x h1 h2
     rcases qO h2 with h2|⟨ek,rfl⟩
     ·have kl:=(List.getElem?_eq_some_iff.mp h2).1
      rw [List.getElem?_append_left (by rw [lr];exact kl)] at h1;obtain ⟨n1,_,t1,_⟩:=QK kk q x h1 h2;exact ⟨n1,t1,(hrd kk q x h1 h2).keep (fun o e=>by rw [aF n1];exact e) tu⟩
     ·have e1:q=D:=by
       rcases qO h1 with h1|⟨_,h1⟩
       ·have:=(List.getElem?_eq_some_iff.mp h1).1;rw [lr] at this;omega
       ·exact h1
      subst e1;exact ⟨Z_,OJ,refs,by rw [aF Z_];exact RV,dd.kp tu,od,by omega⟩
  ·rintro σ Hc ⟨v,w',τc,rs,rws,rfl,Tc,Vm,tac,lr,lj,l60,hrs,V3,kpc⟩
   refine ⟨_,rfl,_,rfl,(by show 2<=sizeLine;decide),fun p hp=> ?_⟩;have sp:=aL (o:=HO.tup [V.int m,V.ref a]) hp;exact k p a rs rws m τc _ ⟨aq,sp _ _ Vm,tac,lr,fun k q x h1 h2=>⟨(hrs k q x h1 h2).2.1,((hrs k q x h1 h2).2.2).same sp⟩⟩ (by omega) (by omega) m0 HW l60 (Tc.same sp) V3 (kpc.trans (Kp.of_same sp))
def NumV (τ:Tg) (H:Hp) (v:V) (ns:List Int) (m:Nat):Prop:=ou m ns/\((v = .non/\ns=List.replicate m 0) \/ ∃l,v = .ref l/\τ l=[0]/\H l=some (.lst (ns.map V.int)))
theorem NumV.mv {i:Nat} {τ τ':Tg} {H H':Hp} {v:V} {ns:List Int} {m:Nat} (h:NumV τ H v ns m) (q:Mv i τ H τ' H'):NumV τ' H' v ns m:=by
 obtain ⟨g,h⟩:=h;refine ⟨g, ?_⟩;rcases h with h|⟨l,e,t,hl⟩
 ·exact .inl h
 ·have:=q.keep _ _ hl (.inl t)
  exact .inr ⟨l,e,this.2.trans t,this.1⟩
theorem Uw (m:Nat):ou m (List.replicate m 0):=⟨by rw [List.length_replicate],fun x hx=>by rw [(List.mem_replicate.mp hx).2];exact ⟨by decide,by decide⟩⟩
structure Zv (H:Hp) (p L:Addr) (rs:List Addr) (rws:List (List Rw)) (m:Nat):Prop where
 ep:H p=some (.tup [.int m,.ref L])
 eL:H L=some (.lst (rs.map V.ref))
 len:rs.length=rws.length
 row:∀(k:Nat) (r:Addr) (x:List Rw),rs[k]? = some r->rws[k]? = some x->eU H r m x
theorem Pg.h {τ:Tg} {H:Hp} {p L:Addr} {rs:List Addr} {rws:List (List Rw)} {m:Nat} (g:Pg τ H p L rs rws m):Zv H p L rs rws m:=⟨g.ep,g.eL,g.len,fun k r x h1 h2=>(g.row k r x h1 h2).2⟩
def Ou (H:Hp) (v:V) (ns:List Int) (m:Nat):Prop:=ou m ns/\((v = .non/\ns=List.replicate m 0) \/ ∃l,v = .ref l/\H l=some (.lst (ns.map V.int)))
theorem NumV.h {τ:Tg} {H:Hp} {v:V} {ns:List Int} {m:Nat} (h:NumV τ H v ns m):Ou H v ns m:=⟨h.1,h.2.elim .inl fun ⟨l,e,_,q⟩=> .inr ⟨l,e,q⟩⟩
theorem uU {CW CH CN:Addr} {i:Nat} {τ:Tg} {H:Hp} {p L:Addr} {rs:List Addr} {rws:List (List Rw)} {m:Nat} {nv:V} {ns:List Int} {Q:Addr->Hp->Prop} (g:Zv H p L rs rws m) (n8:rws.length<=100) (HW:m<=100) (un:yp τ H) (i0:i≠0) (nh:Ou H nv ns m)
 (go:∀(τ':Tg) (W:yj) (H':Hp),k_ CW CH i τ' H' W (uL m ns rws)->(∀x u,H x=some u->τ' x=τ x)->Same H H'->Q W.o H') (o dx:Addr) (ho:H o=none) (hdx:H dx=none) (ndx:dx≠o):
 jC CW CH CN K (.ref o::([.ref p,nv]++[])) (upd (upd H dx (.own o)) o (.ins CW dx [])) (fun v H'=>v = .non/\Q o H') (fun _ _ _=>False):=by
 obtain ⟨good,hv⟩:=nh;have ho':(upd H dx (.own o)) o=none:=by rw [aF ndx.symm];exact ho
 have sm:Same H (upd (upd H dx (.own o)) o (.ins CW dx [])):=(aL hdx).trans (aL ho');refine ⟨i,τ,o,dx,p,L,rs,m,nv,ns,rws,rfl,aq,sm _ _ g.ep,sm _ _ g.eL,g.len,fun kk q' x h1 h2=>(g.row kk q' x h1 h2).same sm,n8,HW,un.same sm,i0,by have:=good.1;omega, ?_,fun _ τ5 W H5 eo w5 tg kp=>⟨rfl, ?_⟩,fun bad=>absurd good bad⟩
 ·rcases hv with h|⟨cl,e,h⟩
  ·exact .inl h
  ·exact .inr ⟨cl,e,sm _ _ h⟩
 ·rw [←eo]
  exact go τ5 W H5 w5 (fun x u e=>tg x u (sm _ _ e) (aD e ho)) (fun x u e=>kp _ _ (sm _ _ e) (aD e ho))
def ZK (t:Tc):List V:=[.str (lC t.r),.int (gJ t.r),oV t.rd,oV t.wr]
def OD (t:Tc):PyData:= .tuple [.str (lC t.r),.int (gJ t.r),oD t.rd,oD t.wr]
def iU (t:Tc):lq:=((t.k:Int),lC t.r,(gJ t.r:Int))
theorem U5 (x:Option Int):Bg (oD x)=true:=by cases x<;>rfl
theorem U4 (t:Tc):Bg (OD t)=true:=by simp only [OD,Bg,pX,U5,Bool.and_self]
theorem Vp {H:Hp} {p:Addr} {t:Tc} (h:H p=some (.tup (ZK t))):Dat H (.ref p) (OD t):=by
 unfold OD ZK at *;simp only [Dat];exact ⟨p,_,rfl,h,by simp only [aO,Dat,and_true,true_and];exact ⟨N6 _,N6 _⟩⟩
theorem qp {CW CH CN CO:Addr} {i:Nat} {τ:Tg} {H:Hp} {W:yj} {S:g_} {t:Tc} {Q:VK} (w:k_ CW CH i τ H W S) (tl:S.ts.length<=10000) (a:Kr S t)
 (go:∀(p:Addr) (H':Hp),H p=none->H' p=some (.tup (ZK t))->k_ CW CH i τ H' W (cX S t.k)->Ot i τ H H'->Q (.ref p) H'):pN CW CH CN CO K [.ref W.o,.int t.k] H Q (fun _ _ _=>False):=by
 obtain ⟨s,es,ws,er,e1,e2⟩:=a;have kl:=(List.getElem?_eq_some_iff.mp es).1;have inn:xT (t.k:Int) S.hs.length:=⟨by omega,by omega⟩
 have one:∀(k':Nat) (t':bG),(t.k:Int)=k'->S.hs[k']? = some t'->t'=s/\k'=t.k:=fun k' t' e1 e2=>by
  have:k'=t.k:=by omega
  subst this;rw [es] at e2;exact ⟨(Option.some.inj e2).symm,rfl⟩
 refine ⟨i,τ,W,S,_,rfl,w,tl,fun k' t' r' tt Hk q1 q2 wt' er' tr' tf tk wk stk=> ?_,fun z=>absurd inn z,fun k' t' e1 e2 z=>absurd (by rw [(one k' t' e1 e2).1];exact ws) z⟩;obtain ⟨rfl,rfl⟩:=one k' t' q1 q2;rw [er] at er';cases er';refine go tt Hk tf ?_ wk stk;rw [tk];unfold ZK El;rw [e1,e2]
theorem Fd {S S' S1:g_} {l:List Tc} {j:Nat} {t:Tc} (R:Run S l S') (R1:Run S (l.take j) S1) (e:l[j]? = some t):Kr S1 t/\Run S (l.take (j+1)) (cX S1 t.k):=by
 have jl:=(List.getElem?_eq_some_iff.mp e).1
 have el:l=l.take j++t::l.drop (j+1):=by
  have q:=(List.take_append_drop j l).symm;rw [List.drop_eq_getElem_cons jl] at q;rw [List.getElem?_eq_getElem jl] at e;cases e;exact q
 rw [el] at R;obtain ⟨T,r1,r2,r3⟩:=Run.app.mp R;have:=R1.det r1;subst this;refine ⟨r2, ?_⟩;rw [List.take_add_one,e];exact Run.app.mpr ⟨S1,R1,r2,rfl⟩
theorem rT:∀{l:List Tc} {S S':g_},Run S l S'->S'.ts=S.ts++l.map fun t=>(t.k:Int)
 | [],S,S',h=>by have h:S'=S:=h;rw [h];simp
 | t::l,S,S',⟨a,h⟩=>by
   rw [rT h];obtain ⟨s,_,_,e⟩:=a.turn;rw [e];simp
theorem zO:∀{l:List Tc} {S S':g_},Run S l S'->S'.hs.length=S.hs.length/\S'.m=S.m
 | [],S,S',h=>by have h:S'=S:=h;rw [h];exact ⟨rfl,rfl⟩
 | t::l,S,S',⟨a,h⟩=>by
   rw [(zO h).1,(zO h).2];obtain ⟨s,_,_,e⟩:=a.turn;rw [e];simp
theorem vU:∀{l:List Tc} {S S':g_},Run S l S'->o_ S->o_ S'
 | [],S,S',h,g=>by have h:S'=S:=h;rw [h];exact g
 | t::l,S,S',⟨a,h⟩,g=>vU h (g.turn _)
theorem Rr:∀{l:List Tc} {S S':g_},Run S l S' -> ∀t∈l,t.k<S.hs.length
 | [],S,S',h,t,ht=>by cases ht
 | x::l,S,S',⟨a,h⟩,t,ht=>by
   obtain ⟨s,es,_⟩:=id a;rcases List.mem_cons.mp ht with rfl|ht
   ·exact (List.getElem?_eq_some_iff.mp es).1
   ·have:=Rr h t ht
    obtain ⟨s,_,_,e⟩:=a.turn;rw [e] at this;simpa using this
def aside (c:Nat) (H:Hp):Tg:=fun x=>if (H x).isSome then [c] else []
theorem xr (c:Nat) (H:Hp):yp (aside c H) H:=fun x e=>by unfold aside;rw [e];rfl
theorem xu {c:Nat} {H:Hp} {x:Addr} {o:HO} (e:H x=some o):aside c H x=[c]:=by unfold aside;rw [e];rfl
theorem k_.back {CW CH:Addr} {i:Nat} {τ τ1:Tg} {H H':Hp} {W:yj} {S:g_} (w:k_ CW CH i τ1 H' W S) (un:yp τ H) (tg:∀x u,H x=some u->τ1 x=[i+1]) (s:Same H H'):
 ∃τ':Tg,k_ CW CH i τ' H' W S/\(∀x u,H x=some u->τ' x=τ x):=by
 refine ⟨fun x=>if (H x).isSome then τ x else τ1 x,w.mv ⟨fun x o e t=>⟨e, ?_⟩,fun x xs e=>e⟩ fun x e=> ?_,fun x u e=>by simp [e]⟩
 ·cases q:H x with
  | none=>simp
  | some u=>
    have:=tg x u q;rw [this] at t;rcases t with t|t
    ·cases t
    ·exact absurd (Option.some.inj t) (by omega)
 ·have:H x=none:=s.free e
  simp only [this];exact w.un x e
def tZ (l:List Tc):List V:=l.map fun t=>V.int (t.k:Int)
theorem z_ {l:List Tc} {j:Nat} {v:V} (h:(tZ l)[j]? = some v):∃t,l[j]? = some t/\v = .int (t.k:Int):=by
 unfold tZ at h;rw [List.getElem?_map] at h;cases e:l[j]? with
 | none=>rw [e] at h;cases h
 | some t=>rw [e] at h;exact ⟨t,rfl,(Option.some.inj h).symm⟩
theorem qL (l:List Tc):(tZ l).length=l.length:=List.length_map _
def zG (CW CH:Addr) (K:PySem.W.Frag):Sp:=fun vs H Q _=>∃(i:Nat) (τ:Tg) (p L:Addr) (rs:List Addr) (rws:List (List Rw)) (m:Nat) (nv:V) (ns:List Int) (o:Addr) (l:List Tc) (S':g_),vs=[.ref p,.ref o,nv]/\Zv H p L rs rws m/\rws.length<=8/\m<=20/\Ou H nv ns m/\H o=some (.lst (tZ l))/\Run (uL m ns rws) l S'/\l.length<=400/\yp τ H/\i≠0 /\
 ∀(τ':Tg) (W:yj) (H':Hp),k_ CW CH i τ' H' W S'->(∀x u,H x=some u->τ' x=τ x)->Same H H'->Q (.ref W.o) H'
theorem Mu {ak au aW bD dG:Addr} {f:Addr} {fd:FuncData} (F:jX K "_law_gone" "_law_gone" jG f fd) (nu:oJ P w K mg base 7 ak "Works" ["self","program","cells"] [] (fun vs H Q _=>jC ak au aW K vs H Q fun _ _ _=>False)) (fL:MethAt P w K mg base 7 ak "turn" ["self","hand"] (fun vs H Q _=>pN ak au bD dG K vs H Q fun _ _ _=>False)) (aM:dz K ak):cj P w K mg base jA 9 f fd ["program","order","numbers"] (zG ak au K):=by
 refine F.ok vQ (fun vs H Q E h=> ?_) (fun cdv A outer s H vs Q E hr h=> ?_)
 ·obtain ⟨i,τ,p,L,rs,rws,m,nv,ns,o,l,S',rfl,_⟩:=h
  rfl
 ·obtain ⟨i,τ,p,L,rs,rws,m,nv,ns,o,l,S',rfl,g,r8,HW,nh,ho,R,ll,un,i0,k⟩:=h
  refine ⟨_,(aB (bB (i:=3) vQ.nd rfl (Or.inl rfl) (n_ nu (hr.mono (by decide)) (by rfl) (aj (pv 0) (aj (pv 2) aA))))
   (aB (jQ PassesOwn.never rfl (dM (K:=K) rfl (pv 1)) (bJ (i:=4) vQ.nd rfl (Or.inl rfl))
   (aG (eX (cT fL aM.cls (hr.mono (by decide)) (pv 3) (aj (pv 4) aA)))))
   (aG (aZ (pv 3))))), ?_⟩
  refine ⟨_,rfl,_,rfl, ?_⟩;dsimp only [vL];refine (uU (i:=i) (τ:=aside (i+1) H) g (by omega) (by omega) (xr _ _) i0 nh fun τ1 W H1 w1 Kf s1=> ?_);have Kf:∀x u,H x=some u->τ1 x=[i+1]:=fun x u e=>by rw [Kf x u e];exact xu e
  refine ⟨_,rfl,o,rfl,⟨_,bH.of (s1 _ _ ho)⟩, ?_⟩
  refine oG (K:=K) (a:=o) (xs:=tZ l) (fun j σ Hc=>∃(x1:Option V) (S1:g_),σ=[some (.ref p),some (.ref o),some nv,some (.ref W.o),x1]/\k_ ak au i τ1 Hc W S1/\Run (uL m ns rws) (l.take j) S1/\Same H Hc)
   ⟨none,_,rfl,w1,by rw [List.take_zero];rfl,s1⟩ (fun j σ Hc _ ⟨_,_,_,_,_,sc⟩=>bH.of (sc _ _ ho)) ?_ ?_
  ·rintro j v σ Hc hj ⟨x1,S1,rfl,wc,R1,sc⟩
   obtain ⟨t,et,rfl⟩:=z_ hj;have jl:=(List.getElem?_eq_some_iff.mp et).1;obtain ⟨at1,R2⟩:=Fd R R1 et;have tl:S1.ts.length<=10000:=by rw [rT R1];show ([]++_).length<=_;simp;omega
   refine ⟨_,rfl,W.o,W.dx,_,rfl,wc.o,rfl,_,rfl, ?_⟩;dsimp only [vL];refine qp wc tl at1 fun q Hd hq eq wd st=> ?_;exact ⟨_,_,rfl,wd,R2,fun x u e=>st.keep _ _ (sc _ _ e) (by rw [Kf x u e];simp)⟩
  ·rintro σ Hc ⟨x1,S1,rfl,wc,R1,sc⟩
   rw [qL,List.take_length] at R1;have:=R1.det R;subst this;obtain ⟨τ',w',tg'⟩:=wc.back un Kf sc;exact ⟨_,rfl,k τ' W Hc w' tg' sc⟩
def zp (K:PySem.W.Frag):Sp:=fun vs H Q _=>∃(p L:Addr) (rs:List Addr) (rws:List (List Rw)) (m:Nat) (nv:V) (ns:List Int) (o:Addr) (l:List Tc) (S':g_),vs=[.ref p,.ref o,nv]/\Zv H p L rs rws m/\rws.length<=8/\m<=20/\Ou H nv ns m/\H o=some (.lst (tZ l))/\Run (uL m ns rws) l S'/\l.length<=400 /\
 ∀(a:Addr) (H':Hp),H a=none->iu H' a (l.map iU)->Same H H'->Q (.ref a) H'
theorem Mp {ak au aW bD dG:Addr} {f:Addr} {fd:FuncData} (F:yt K "web_of" "web_of" iB [.none] f fd) (nu:oJ P w K mg base 7 ak "Works" ["self","program","cells"] [] (fun vs H Q _=>jC ak au aW K vs H Q fun _ _ _=>False)) (fL:MethAt P w K mg base 7 ak "turn" ["self","hand"] (fun vs H Q _=>pN ak au bD dG K vs H Q fun _ _ _=>False)) (aM:dz K ak):cj P w K mg base jA 9 f fd ["program","order","cells"] (zp K):=by
 refine F.ok lF (fun vs H Q E h=> ?_) (fun cdv A outer s H vs Q E hr h=> ?_)
 ·obtain ⟨p,L,rs,rws,m,nv,ns,o,l,S',rfl,_⟩:=h
  rfl
 ·obtain ⟨p,L,rs,rws,m,nv,ns,o,l,S',rfl,g,r8,HW,nh,ho,R,ll,k⟩:=h
  refine ⟨_,(aB (bB (i:=3) lF.nd rfl (Or.inl rfl) (n_ nu (hr.mono (by decide)) (by rfl) (aj (pv 0) (aj (pv 2) aA))))
   (aB (bB (i:=4) lF.nd rfl (Or.inl rfl) (fQ aA))
   (aB (jQ PassesOwn.never rfl (dM (K:=K) rfl (pv 1)) (bJ (i:=5) lF.nd rfl (Or.inl rfl))
   (aB (bB (i:=6) lF.nd rfl (Or.inl rfl) (cT fL aM.cls (hr.mono (by decide)) (pv 3) (aj (pv 5) aA)))
   (aG (eX (gk (K:=K) rfl (pv 4) (aj (fP (aj (pv 5) (aj (aN (aP (K:=K) rfl) (pv 6) aC (fun _ _=>rfl)) (aj (aN (aP (K:=K) rfl) (pv 6) aC (fun _ _=>rfl)) aA)))) aA))))))
   (aG (aZ (pv 4)))))), ?_⟩
  refine ⟨_,rfl,_,rfl, ?_⟩;dsimp only [vL];refine (uU (i:=2) (τ:=aside 1 H) g (by omega) (by omega) (xr _ _) (by decide) nh fun τ1 W H1 w1 Kf s1=> ?_);have Kf:∀x u,H x=some u->τ1 x=[1]:=fun x u e=>by rw [Kf x u e];exact xu e
  refine ⟨(by show 0<=sizeLine;decide),fun a ha=> ?_⟩;have sa:=aL (o:=HO.lst []) ha;have ta:τ1 a=[]:=w1.un a ha;have ha0:H a=none:=s1.free ha;refine ⟨_,rfl,o,rfl,⟨_,bH.of (sa _ _ (s1 _ _ ho))⟩, ?_⟩
  refine oG (K:=K) (a:=o) (xs:=tZ l) (fun j σ Hc=>∃(x1 x2:Option V) (S1:g_) (refs:List V),σ=[some (.ref p),some (.ref o),some nv,some (.ref W.o),some (.ref a),x1,x2]/\k_ ak au 2 τ1 Hc W S1/\Run (uL m ns rws) (l.take j) S1/\Hc a=some (.lst refs)/\aO Hc refs (((l.take j).map iU).map tD)/\Same H Hc)
   ⟨none,none,_,[],rfl,w1.same sa,by rw [List.take_zero];rfl,aq,by simp [aO],s1.trans sa⟩ (fun j σ Hc _ ⟨_,_,_,_,_,_,_,_,_,sc⟩=>bH.of (sc _ _ ho)) ?_ ?_
  ·rintro j v σ Hc hj ⟨x1,x2,S1,refs,rfl,wc,R1,Vm,dc,sc⟩
   obtain ⟨t,et,rfl⟩:=z_ hj;have jl:=(List.getElem?_eq_some_iff.mp et).1;obtain ⟨at1,R2⟩:=Fd R R1 et;have tl:S1.ts.length<=10000:=by rw [rT R1];show ([]++_).length<=_;simp;omega
   refine ⟨_,rfl,W.o,W.dx,_,rfl,wc.o,rfl,_,rfl, ?_⟩;dsimp only [vL];refine qp wc tl at1 fun q Hd hq eq wd st=> ?_;have R_:=st.keep _ _ Vm (by rw [ta];simp);refine ⟨_,rfl,.inl ⟨rfl,_,bH.of R_⟩,_,rfl,_,rfl,_,_,_,_,rfl,rfl,dg.of eq,rfl,_,rfl,_,_,_,_,rfl,rfl,dg.of eq,rfl,(by show 3<=sizeLine;decide),fun u hu=> ?_⟩;have su:=aL (o:=HO.tup [V.int (t.k:Int),V.str (lC t.r),V.int (gJ t.r)]) hu;have eau:=su _ _ R_;have eu:(upd Hd u (.tup [V.int (t.k:Int),V.str (lC t.r),V.int (gJ t.r)])) u=some (.tup [V.int (t.k:Int),V.str (lC t.r),V.int (gJ t.r)]):=aq;have wu:=wd.same su;have du:=(dc.keep (fun x xs e=>su _ _ (st.tup _ _ e)) _ (jo tD Ac _));have scu:Same H (upd Hd u (.tup [V.int (t.k:Int),V.str (lC t.r),V.int (gJ t.r)])):=fun x o' e=>su _ _ (st.keep _ _ (sc _ _ e) (by rw [Kf x o' e];simp));generalize (upd Hd u (.tup [V.int (t.k:Int),V.str (lC t.r),V.int (gJ t.r)]))=He at eau eu wu du scu ⊢;have rl:refs.length=j:=by rw [dc.length,List.length_map,List.length_map,List.length_take];omega
   refine ⟨_,_,_,rfl,rfl,eau,(by rw [rl,sizeLine_eq];omega), ?_⟩;have kk:Kp a He (upd He a (.lst (refs++[V.ref u]))):=Kp.set;have tu:∀x ys,He x=some (.tup ys)->(upd He a (.lst (refs++[V.ref u]))) x=some (.tup ys):=kk.tups eau;refine ⟨_,_,_,refs++[.ref u],rfl,wu.kp kk eau (by intro xs z;cases z) ta ⟨_,aq⟩,R2,aq, ?_,fun x o' e=>kk _ _ (scu _ _ e) (aD e ha0)⟩;rw [List.take_add_one,et];show aO _ _ ((((l.take j)++[t]).map iU).map tD);rw [List.map_append,List.map_append];exact jL (du.keep tu _ (jo tD Ac _)) (Q8 (x:=iU t) (tu _ _ eu))
  ·rintro σ Hc ⟨x1,x2,S1,refs,rfl,wc,R1,Vm,dc,sc⟩
   rw [qL,List.take_length] at dc;exact ⟨_,rfl,k a Hc ha0 ⟨refs,Vm,dc⟩ sc⟩
def Jy (l:List Tc) (h:Nat):List Tc:=l.filter fun t=>t.k==h
structure Km (H:Hp) (D:Addr) (as:List Addr) (l:List Tc):Prop where
 d:H D=some (.lst (as.map V.ref))
 r:∀(h:Nat) (q:Addr),as[h]? = some q -> ∃refs,H q=some (.lst refs)/\aO H refs ((Jy l h).map OD)
theorem Ab (l:List Tc):pX (l.map OD)=true:=jo OD U4 l
theorem Km.keep {H H':Hp} {D:Addr} {as:List Addr} {l:List Tc} (h:Km H D as l) (k:∀x o,H x=some o->(x=D\/x∈as)->H' x=some o) (t:∀x xs,H x=some (.tup xs)->H' x=some (.tup xs)):Km H' D as l:=
 ⟨k _ _ h.d (.inl rfl),fun n q e=>by
   obtain ⟨refs,e1,d1⟩:=h.r n q e;exact ⟨refs,k _ _ e1 (.inr (List.mem_of_getElem? e)),d1.keep t _ (Ab _)⟩⟩
theorem Km.same {H H':Hp} {D:Addr} {as:List Addr} {l:List Tc} (h:Km H D as l) (k:Same H H'):Km H' D as l:=h.keep (fun x o e _=>k _ _ e) k.tups
def rW (l:List Tc) (n:Nat):PyData:= .list ((List.range n).map fun h=> .list ((Jy l h).map OD))
theorem Km.dat {H:Hp} {D:Addr} {as:List Addr} {l:List Tc} (h:Km H D as l):Dat H (.ref D) (rW l as.length):=by
 unfold rW;simp only [Dat];refine ⟨D,_,rfl,h.d, ?_⟩
 have gen:∀n,n<=as.length->aO H ((as.take n).map V.ref) ((List.range n).map fun h=>PyData.list ((Jy l h).map OD)):=by
  intro n
  induction n with
  | zero=>intro _;simp [aO]
  | succ n ih=>
    intro hn;obtain ⟨refs,e1,d1⟩:=h.r n as[n] (by simp);rw [List.take_add_one,List.range_succ,List.map_append,List.map_append,List.getElem?_eq_getElem (by omega)];refine jL (ih (by omega)) ?_;simp only [Dat];exact ⟨_,refs,rfl,e1,d1⟩
 have:=gen as.length (Nat.le_refl _);rwa [List.take_length] at this
theorem Mz (l:List Tc) (t:Tc) (h:Nat):Jy (l++[t]) h=Jy l h++(if t.k=h then [t] else []):=by
 unfold Jy;rw [List.filter_append];congr 1
 by_cases e:t.k=h<;>simp [e]
def nW (K:PySem.W.Frag):Sp:=fun vs H Q _=>∃(p L:Addr) (rs:List Addr) (rws:List (List Rw)) (m:Nat) (nv:V) (ns:List Int) (o:Addr) (l:List Tc) (S':g_),vs=[.ref p,.ref o,nv]/\Zv H p L rs rws m/\rws.length<=8/\m<=20/\Ou H nv ns m/\H o=some (.lst (tZ l))/\Run (uL m ns rws) l S'/\l.length<=400 /\
 ∀(D:Addr) (as:List Addr) (H':Hp),H D=none->(∀q∈as,H q=none)->as.length=rws.length->Km H' D as l->Same H H'->Q (.ref D) H'
theorem zX {ak au aW bD dG:Addr} {f:Addr} {fd:FuncData} (F:yt K "touches_of" "touches_of" dB [.none] f fd) (nu:oJ P w K mg base 7 ak "Works" ["self","program","cells"] [] (fun vs H Q _=>jC ak au aW K vs H Q fun _ _ _=>False)) (fL:MethAt P w K mg base 7 ak "turn" ["self","hand"] (fun vs H Q _=>pN ak au bD dG K vs H Q fun _ _ _=>False)) (aM:dz K ak):cj P w K mg base jA 9 f fd ["program","order","cells"] (nW K):=by
 refine F.ok gO (fun vs H Q E h=> ?_) (fun cdv A outer s H vs Q E hr h=> ?_)
 ·obtain ⟨p,L,rs,rws,m,nv,ns,o,l,S',rfl,_⟩:=h
  rfl
 ·obtain ⟨p,L,rs,rws,m,nv,ns,o,l,S',rfl,g,r8,HW,nh,ho,R,ll,k⟩:=h
  refine ⟨_,(aB (bB (i:=3) gO.nd rfl (Or.inl rfl) (n_ nu (hr.mono (by decide)) (by rfl) (aj (pv 0) (aj (pv 2) aA))))
   (aB (mR (i:=4) rfl gO.nd rfl (Or.inl rfl) (N:=["rows"]) (own:=["rows"]) (caps:=[]) (bw.of (by kernel_rfl)) (dM (K:=K) rfl (aN (aP (K:=K) rfl) (pv 0) aC (fun _ _=>rfl))) (fun _ _ _ _=>(bJ (i:=0) (show List.Nodup (["rows"]:List Str) by decide +kernel) rfl (Or.inl rfl))) (fun _ _ _ _=>dZ) (fun _ _ _ _=>(fQ aA)))
   (aB (jQ PassesOwn.never rfl (dM (K:=K) rfl (pv 1)) (bJ (i:=5) gO.nd rfl (Or.inl rfl))
   (aB (bB (i:=6) gO.nd rfl (Or.inl rfl) (cT fL aM.cls (hr.mono (by decide)) (pv 3) (aj (pv 5) aA)))
   (aG (eX (gk (K:=K) rfl (aN (aX (K:=K) rfl) (pv 4) (pv 5) (fun _ _=>rfl)) (aj (pv 6) aA))))))
   (aG (aZ (pv 4)))))), ?_⟩
  refine ⟨_,rfl,_,rfl, ?_⟩;dsimp only [vL];refine (uU (i:=2) (τ:=aside 1 H) g (by omega) (by omega) (xr _ _) (by decide) nh fun τ1 W H1 w1 Kf s1=> ?_);have Kf:∀x u,H x=some u->τ1 x=[1]:=fun x u e=>by rw [Kf x u e];exact xu e
  refine ⟨_,rfl,_,_,_,_,rfl,rfl,dg.of (s1 _ _ g.ep),rfl,L,rfl,⟨_,bH.of (s1 _ _ g.eL)⟩,fun D hD=> ?_⟩;have tD:τ1 D=[]:=w1.un D hD
  refine lO (K:=K) (a:=L) (xs:=rs.map V.ref) (fun i σ Hd=>∃(v:Option V) (as:List Addr),σ=[v]/\Hd D=some (.lst (as.map V.ref))/\as.length=i/\as.Nodup/\(∀a∈as,H1 a=none/\a≠D/\Hd a=some (.lst []))/\Same H1 Hd)
   ⟨none,[],rfl,aq,rfl,List.nodup_nil,by simp,aL hD⟩ (fun i σ Hd _ ⟨_,_,_,_,_,_,_,sm⟩=>bH.of (sm _ _ (s1 _ _ g.eL))) ?_ ?_
  ·rintro i x σ Hd hi ⟨v,as,rfl,RV,la,nd,al,sm⟩
   dsimp only [iV,En];rw [if_pos rfl];have il:i<rs.length:=by have:=(List.getElem?_eq_some_iff.mp hi).1;rwa [List.length_map] at this
   refine ⟨(by show 0<=sizeLine;decide),fun q hq=>⟨as.map V.ref, ?_, ?_,_,as++[q],rfl, ?_,by simp [la], ?_, ?_, ?_⟩⟩
   ·exact aL hq _ _ RV
   ·rw [List.length_map,la,sizeLine_eq];have:=g.len;omega
   ·rw [aq,List.map_append];rfl
   ·refine List.nodup_append.mpr ⟨nd,by simp,fun a ha b hb e=> ?_⟩
    rw [List.mem_singleton.mp hb] at e;have:=(al a ha).2.2;rw [e,hq] at this;cases this
   ·intro a ha
    rcases List.mem_append.mp ha with ha|ha
    ·obtain ⟨h1,h2,h3⟩:=al a ha
     exact ⟨h1,h2,by rw [aF h2];exact aL hq _ _ h3⟩
    ·rw [List.mem_singleton.mp ha]
     have nq:q≠D:=fun e=>by rw [e,RV] at hq;cases hq
     exact ⟨sm.free hq,nq,by rw [aF nq,aq]⟩
   ·intro x u e
    rw [aF (aD e hD)];exact aL hq _ _ (sm _ _ e)
  rintro σ H2 ⟨v,as,rfl,hD2,la,nd,al,sm⟩;rw [List.length_map,g.len] at la;have s2:=s1.trans sm;have w2:=w1.same sm;have Wg:H D=none:=s1.free hD;refine ⟨_,rfl,o,rfl,⟨_,bH.of (s2 _ _ ho)⟩, ?_⟩
  refine oG (K:=K) (a:=o) (xs:=tZ l) (fun j σ Hc=>∃(x1 x2:Option V) (S1:g_),σ=[some (.ref p),some (.ref o),some nv,some (.ref W.o),some (.ref D),x1,x2]/\k_ ak au 2 τ1 Hc W S1/\Run (uL m ns rws) (l.take j) S1/\Km Hc D as (l.take j)/\Same H Hc)
   ⟨none,none,_,rfl,w2,by rw [List.take_zero];rfl,⟨hD2,fun h q e=>⟨[],(al q (List.mem_of_getElem? e)).2.2,by rw [List.take_zero];simp [Jy,aO]⟩⟩,s2⟩ (fun j σ Hc _ ⟨_,_,_,_,_,_,_,sc⟩=>bH.of (sc _ _ ho)) ?_ ?_
  ·rintro j v σ Hc hj ⟨x1,x2,S1,rfl,wc,R1,rc,sc⟩
   obtain ⟨t,et,rfl⟩:=z_ hj;have jl:=(List.getElem?_eq_some_iff.mp et).1;obtain ⟨at1,R2⟩:=Fd R R1 et;have tl:S1.ts.length<=10000:=by rw [rT R1];show ([]++_).length<=_;simp;omega
   refine ⟨_,rfl,W.o,W.dx,_,rfl,wc.o,rfl,_,rfl, ?_⟩;dsimp only [vL];refine qp wc tl at1 fun u Hd hu eu wd st=> ?_
   have rd:Km Hd D as (l.take j):=rc.keep (fun x o' e h=>st.keep _ _ e (by
    rcases h with rfl|h
    ·rw [tD];simp
    ·rw [w1.un x (al x h).1];simp)) st.tup
   have sd:Same H Hd:=fun x o' e=>st.keep _ _ (sc _ _ e) (by rw [Kf x o' e];simp)
   have kl:t.k<as.length:=by
    have:=Rr R t (List.mem_of_getElem? et);rw [la];have e:(uL m ns rws).hs.length=rws.length:=by show (rws.map _).length=_;rw [List.length_map]
    rwa [e] at this
   obtain ⟨q,eq⟩:∃q,as[t.k]? = some q:=⟨_,List.getElem?_eq_getElem kl⟩;obtain ⟨refs,e1,d1⟩:=rd.r t.k q eq;have mq:=List.mem_of_getElem? eq;obtain ⟨hq1,hqD,_⟩:=al q mq;refine ⟨_,rfl,_,rfl,_,_,_,_,rfl,rfl,bH.of rd.d,d_ (j:=t.k) (v:=V.ref q) (by rw [List.getElem?_map,eq];rfl),.inl ⟨rfl,_,bH.of e1⟩,_,rfl,q,_,_,rfl,rfl,e1, ?_, ?_⟩
   ·rw [d1.length,List.length_map,sizeLine_eq]
    have:=List.length_filter_le (fun t':Tc=>t'.k==t.k) (l.take j);rw [List.length_take] at this;unfold Jy;omega
   have kk:Kp q Hd (upd Hd q (.lst (refs++[V.ref u]))):=Kp.set;have tu:∀x ys,Hd x=some (.tup ys)->(upd Hd q (.lst (refs++[V.ref u]))) x=some (.tup ys):=kk.tups e1;have tq:τ1 q=[]:=w1.un q hq1;refine ⟨_,_,_,rfl,wd.kp kk e1 (by intro xs z;cases z) tq ⟨_,aq⟩,R2,⟨?_,fun h q' e'=> ?_⟩,fun x o' e=>kk _ _ (sd _ _ e) (aD e (s1.free hq1))⟩
   ·rw [aF hqD.symm];exact rd.d
   ·rw [List.take_add_one,et]
    show ∃refs',_/\aO _ refs' ((Jy (l.take j++[t]) h).map OD);rw [Mz]
    by_cases z:t.k=h
    ·subst z
     rw [eq] at e';cases e';rw [if_pos rfl,List.map_append];exact ⟨_,aq,jL (d1.keep tu _ (Ab _)) (Vp (tu _ _ eu))⟩
    ·rw [if_neg z,List.append_nil]
     obtain ⟨refs',e2,d2⟩:=rd.r h q' e'
     have nq:q'≠q:=fun x=>by
      subst x;exact z ((List.getElem?_inj kl nd).mp (eq.trans e'.symm))
     exact ⟨refs',by rw [aF nq];exact e2,d2.keep tu _ (Ab _)⟩
  ·rintro σ Hc ⟨x1,x2,S1,rfl,wc,R1,rc,sc⟩
   rw [qL,List.take_length] at rc;exact ⟨_,rfl,k D as Hc Wg (fun q hq=>s1.free (al q hq).1) la rc sc⟩
def Lk (s:bG):V:=if s.st = "waits" then .int s.pos else .non
def Ey (CH:Addr) (K:PySem.W.Frag):Sp:=fun vs H Q _=>∃(A:o9) (s:bG),vs=[.ref A.h]/\nM CH H A s /\ ∀(t:Addr) (H':Hp),Dat (nw H H') (.ref t) (sE s)->Same H H'->Q (.ref t) H'
theorem Qw {au:Addr} {f:Addr} {fd:FuncData} (F:jX K "picture" "Hand.picture" cN f fd) (aK:gH K au) (Bt:yX mg):cj P w K mg base jA 1 f fd ["self"] (Ey au K):=by
 refine F.ok nA (fun vs H Q E h=> ?_) (fun cdv A outer s H vs Q E hr h=> ?_)
 ·obtain ⟨A,s,rfl,_⟩:=h
  rfl
 ·obtain ⟨B,s,rfl,c,k⟩:=h
  refine ⟨_,(aB (bB (i:=1) nA.nd rfl (Or.inl rfl) (jR (aY cU (bK (K:=K) rfl (pv 0) rfl) bA (aR _)) (bK (K:=K) rfl (pv 0) rfl) mV))
   (aG (aZ (fP (aj (bK (K:=K) rfl (pv 0) rfl) (aj (pv 1) (aj (fj (eG (K:=K) rfl) (by rfl) Bt.iQ fV (aj (bK (K:=K) rfl (pv 0) rfl) aA)) (aj (fj (eG (K:=K) rfl) (by rfl) Bt.iQ fV (aj (bK (K:=K) rfl (pv 0) rfl) aA)) aA)))))))), ?_⟩
  refine uR (fun σ H1=>σ=[some (.ref B.h),some (Lk s)]/\H1=H) (fun D' hD' rt'=> ?_) ?_
  ·refine ⟨_,rfl,B.h,au,B.hx,_,_,rfl,c.h,aK.cls,aK.j6,rfl,rfl,_,rfl, ?_⟩
   refine bQ (fun q=> ?_) (fun q=> ?_)
   ·have hq:s.st=Str.ofString "waits" :=V.str.inj (of_decide_eq_true q)
    refine ⟨_,rfl,B.h,au,B.hx,_,_,rfl,c.h,aK.cls,aK.ux,rfl,hD' _ _ ⟨?_,rfl⟩⟩;unfold Lk;rw [if_pos hq];rfl
   ·have hq:¬s.st=Str.ofString "waits" :=fun z=>q (decide_eq_true (by rw [z]))
    refine hD' _ _ ⟨?_,rfl⟩;unfold Lk;rw [if_neg hq];rfl
  rintro σ H1 ⟨rfl,rfl⟩;refine ⟨_,rfl,B.h,au,B.hx,_,_,rfl,c.h,aK.cls,aK.j6,rfl,_,rfl,_,rfl,B.h,au,B.hx,_,_,rfl,c.h,aK.cls,aK.mW,rfl,B.b,_,rfl,.inl (bH.of c.b),fun b hb=> ?_⟩;have sb:=aL (o:=HO.lst (s.bs.map V.int)) hb;have cb:=c.same sb;refine ⟨_,rfl,B.h,au,B.hx,_,_,rfl,cb.h,aK.cls,aK.sI,rfl,B.sy,_,rfl,.inl (bH.of cb.y),fun y hy=> ?_⟩;have sy:=aL (o:=HO.lst (s.sy.map V.int)) hy;refine ⟨(by show 4<=sizeLine;decide),fun t ht=> ?_⟩;have st:=aL (o:=HO.tup [V.str s.st,Lk s,V.ref b,V.ref y]) ht;refine k t _ ?_ ((sb.trans sy).trans st);have fy:H1 y=none:=sb.free hy;have ft:H1 t=none:=sb.free (sy.free ht);simp only [sE,Dat];refine ⟨t,_,rfl,yK ft aq, ?_⟩;simp only [aO,Dat,and_true,true_and];refine ⟨?_,gQ (yK hb (st _ _ (sy _ _ aq))),gQ (yK fy (st _ _ aq))⟩;unfold Lk;split<;>simp only [Dat]
def SN (S:g_):PyData:=I_ S (Dm S)
def Lf (CW CH:Addr) (K:PySem.W.Frag):Sp:=fun vs H Q _=>∃(i:Nat) (τ:Tg) (W:yj) (S:g_),vs=[.ref W.o]/\k_ CW CH i τ H W S /\ ∀(t:Addr) (H':Hp),Dat H' (.ref t) (SN S)->Same H H'->Q (.ref t) H'
theorem k_.prog {CW CH:Addr} {i:Nat} {τ:Tg} {H:Hp} {W:yj} {S:g_} (w:k_ CW CH i τ H W S):Dat H (.ref W.pg) (Hq S):=by
 have go:∀(rs:List Addr) (hs:List bG),rs.length=hs.length->(∀(k:Nat) (r:Addr) (s:bG),rs[k]? = some r->hs[k]? = some s->eU H r S.m s.rws)->aO H (rs.map V.ref) (hs.map fun s=>qF s.rws):=by
  intro rs
  induction rs with
  | nil=>
    intro hs l _;cases hs with
    | nil=>simp only [List.map_nil,aO]
    | cons a b=>cases l
  | cons r rs ih=>
    intro hs l h;cases hs with
    | nil=>cases l
    | cons s hs=>
      simp only [List.map_cons,aO];obtain ⟨ts,e1,e2,_⟩:=h 0 r s rfl rfl;exact ⟨wL e1 e2,ih hs (by simpa using l) fun k r' s' h1 h2=>h (k+1) r' s' h1 h2⟩
 simp only [Hq,Dat];refine ⟨W.pg,_,rfl,w.pg, ?_⟩;simp only [aO,Dat,and_true,true_and];exact ⟨W.L,_,rfl,w.L,go W.rs S.hs w.rl fun k r s h1 h2=>(w.rs k r s h1 h2).2⟩
theorem k_.G8 {CW CH:Addr} {i:Nat} {τ:Tg} {H:Hp} {W:yj} {S:g_} (w:k_ CW CH i τ H W S):∀s∈S.hs,∀r∈s.rws,BW S.m r:=fun s hs=>by
 obtain ⟨k,hk⟩:=List.getElem?_of_mem hs;obtain ⟨A,_,a⟩:=w.hand hk;obtain ⟨ts,_,_,h,_⟩:=a.r;exact h
theorem Us {ak au:Addr} {f:Addr} {fd:FuncData} (F:jX K "picture" "Works.picture" cB f fd) (aM:dz K ak) (aK:gH K au) (xM:MethAt P w K mg base 1 au "picture" ["self"] (Ey au K)) (yr:MethAt P w K mg base 1 ak "cells" ["self"] (zJ ak au K)) (jU:MethAt P w K mg base 1 ak "counts" ["self"] (qw ak au K)) (Bt:yX mg):cj P w K mg base jA 2 f fd ["self"] (Lf ak au K):=by
 refine F.ok lG (fun vs H Q E h=> ?_) (fun cdv A outer s H vs Q E hr h=> ?_)
 ·obtain ⟨i,τ,W,S,rfl,_⟩:=h
  rfl
 ·obtain ⟨i,τ,W,S,rfl,w,k⟩:=h
  refine ⟨_,(aB (mR (i:=1) rfl lG.nd rfl (Or.inl rfl) (N:=["one"]) (own:=["one"]) (caps:=[]) (bw.of (by kernel_rfl)) (dM (K:=K) rfl (bK (K:=K) rfl (pv 0) rfl)) (fun _ _ _ _=>(bJ (i:=0) (show List.Nodup (["one"]:List Str) by decide +kernel) rfl (Or.inl rfl))) (fun _ _ _ _=>dZ) (fun _ _ _ _=>(ig xM aK.cls (hr.mono (by decide)) (pv 0))))
   (aG (aZ (fP (aj (bK (K:=K) rfl (pv 0) rfl) (aj (ig yr aM.cls (hr.mono (by decide)) (pv 0)) (aj (pv 1) (aj (ig jU aM.cls (hr.mono (by decide)) (pv 0)) aA)))))))), ?_⟩
  refine ⟨_,rfl,W.o,ak,W.dx,_,_,rfl,w.o,aM.cls,aM.oU,rfl,W.hl,rfl,⟨_,bH.of w.hl⟩,fun D hD=> ?_⟩;refine J0 (K:=K) (fun j=>((S.hs[j]?).map sE).getD .none) hD (bH.of w.hl) (by rw [List.length_map,w.len];have:=w.hn;omega) (fun j x H1 F hj s1 kF=> ?_) (fun H1 s1 d1=> ?_)
  ·rw [List.getElem?_map] at hj
   obtain ⟨A,eA,rfl⟩:∃A,W.hd[j]? = some A/\x = .ref A.h:=by
    cases e:W.hd[j]? with
    | none=>rw [e] at hj;cases hj
    | some A=>rw [e] at hj;exact ⟨A,rfl,(Option.some.inj hj).symm⟩
   have jl:j<S.hs.length:=by rw [←w.len];exact (List.getElem?_eq_some_iff.mp eA).1
   have es:S.hs[j]? = some S.hs[j]:=by simp [jl]
   have a:=(w.same s1).hd j A _ eA es;refine ⟨_,rfl,A.h,A.hx,_,rfl,a.c.h,rfl,A,_,rfl,a.c,fun t H2 d2 s2=> ?_⟩;refine kF _ H2 s2 ?_;rw [es];exact d2
  have w1:=w.same s1;refine ⟨_,rfl,W.o,ak,W.dx,_,_,rfl,w1.o,aM.cls,aM.sJ,rfl,_,rfl,W.o,W.dx,_,rfl,w1.o,rfl,i,τ,W,S,rfl,w1,fun l2 H2 f2 e2 s2=> ?_⟩;have w2:=w1.same s2;refine ⟨_,rfl,_,rfl,W.o,W.dx,_,rfl,w2.o,rfl,i,τ,W,S,rfl,w2,fun l3 H3 f3 e3 s3=> ?_⟩;have w3:=w2.same s3;refine ⟨(by show 4<=sizeLine;decide),fun t ht=> ?_⟩;have st:=aL (o:=HO.tup [V.ref W.pg,V.ref l2,V.ref D,V.ref l3]) ht;have w4:=w3.same st;refine k t _ ?_ (((s1.trans s2).trans s3).trans st);have d4:=d1.same (((Qz _ _).trans (s2.trans s3)).trans st) _
  have eh:((List.range (W.hd.map fun a=>V.ref a.h).length).map fun j=>((S.hs[j]?).map sE).getD .none)=S.hs.map sE:=by
   rw [List.length_map,w.len];refine List.ext_getElem? fun n=> ?_
   by_cases hn:n<S.hs.length
   ·simp [hn]
   ·simp [hn]
  rw [eh] at d4;unfold SN I_;simp only [Dat];refine ⟨t,_,rfl,aq, ?_⟩;have d5:=w4.prog;simp only [aO,and_true];refine ⟨d5,gQ (st _ _ (s3 _ _ e2)),d4,gQ (st _ _ e3)⟩
theorem Nk (K:PySem.W.Frag) (C:Addr):PySem.W.kitOne K (.ref C) (.ref C)=some true:=by simp [PySem.W.kitOne]
def wkE (S T:g_):Bool:=PyData.eqv (SN S) (SN T)
def Ld (CW CH:Addr) (K:PySem.W.Frag):Sp:=fun vs H Q _=>∃(i i':Nat) (τ τ':Tg) (W W':yj) (S S':g_),vs=[.ref W.o,.ref W'.o]/\k_ CW CH i τ H W S/\k_ CW CH i' τ' H W' S'/\o_ S/\o_ S' /\ ∀(H':Hp),Same H H'->Q (.bl (wkE S S')) H'
theorem Ur {ak au:Addr} {f:Addr} {fd:FuncData} (F:jX K "__eq__" "Works.__eq__" cM f fd) (aM:dz K ak) (uZ:IsO K mg ak "Works") (nH:MethAt P w K mg base 2 ak "picture" ["self"] (Lf ak au K)) (Bt:yX mg):cj P w K mg base jA 3 f fd ["self","other"] (Ld ak au K):=by
 refine F.ok ur (fun vs H Q E h=> ?_) (fun cdv A outer s H vs Q E hr h=> ?_)
 ·obtain ⟨i,i',τ,τ',W,W',S,S',rfl,_⟩:=h
  rfl
 ·obtain ⟨i,i',τ,τ',W,W',S,S',rfl,w,w',g,g',k⟩:=h
  have FQ:=hr.units;refine ⟨_,(aG (aZ (v7 (aQ (dR (K:=K) (cv:= .ref ak) (c:= .ref ak) rfl rfl) (by rfl) Bt.cg bR (aj (pv 1) (aj (jZ (v:= .ref ak) (by rfl) uZ.bd rfl) aA))) (mU (d7 (HD (K:=K) rfl FQ) (ig nH aM.cls (hr.mono (by decide)) (pv 0)) (ig nH aM.cls (hr.mono (by decide)) (pv 1)) (aR _)))))), ?_⟩;refine ⟨_,rfl,_,_,true,rfl,uZ.ty w'.o aM.cls,Nk K _,true,rfl, ?_⟩;refine iK ?_;refine ⟨_,rfl,W.o,W.dx,_,rfl,w.o,rfl,i,τ,W,S,rfl,w,fun t H1 d1 s1=> ?_⟩;have w1:=w'.same s1;refine ⟨_,rfl,W'.o,W'.dx,_,rfl,w1.o,rfl,i',τ',W',S',rfl,w1,fun t' H2 d2 s2=> ?_⟩;refine ⟨_,_,d1.same s2 _,d2,Ge g w.G8,Ge g' w'.G8, ?_⟩;rw [if_neg Bool.false_ne_true];exact k H2 (s1.trans s2)
theorem yD (r:Rw):(lC r = "load")↔isLoad r=true:=by
 cases r<;>simp only [lC,isLoad]<;>decide
theorem Pr {x y:Tc} (h:stepT x y):(decide ((iU x).1=(iU y).1)||mt (iU x) (iU y))=true:=by
 by_cases e:(iU x).1=(iU y).1
 ·rw [decide_eq_true e];rfl
 have nk:¬x.k=y.k:=fun z=>e (by show (x.k:Int)=y.k;rw [z]);have na:¬apart x.r y.r:=h.resolve_left nk;have ec:gJ x.r=gJ y.r:=Classical.byContradiction fun z=>na (.inl z);rw [decide_eq_false e,Bool.false_or];unfold mt;rw [if_neg e,if_pos (show (iU x).2.2=(iU y).2.2 by show (gJ x.r:Int)=gJ y.r;rw [ec])]
 by_cases q:lC x.r = "load"
 ·rw [if_pos (show (iU x).2.1 = "load" from q)]
  have:¬lC y.r = "load" :=fun z=>na (.inr ⟨(yD _).mp q,(yD _).mp z⟩);rw [decide_eq_false (show ¬(iU y).2.1 = "load" from this)];rfl
 ·rw [if_neg (show ¬(iU x).2.1 = "load" from q)]
theorem Br {l:List Tc} {m a:Nat} {x y:Tc} (lt:m<a) (em:l[m]? = some y) (ea:l[a]? = some x) (h:stepT y x):mO (l.map iU) m a=true:=by
 unfold mO W3;rw [List.getElem?_map,List.getElem?_map,em,ea,decide_eq_true lt,Bool.true_and];exact Pr h
section
variable {l:List Tc} {os:List Nat} (nd:os.Nodup) (len:os.length=l.length) (lt:∀x∈os,x<l.length)
include nd len lt
theorem zV:∀i,i<l.length->i∈os:=fun i hi=>Decidable.byContradiction fun n=>by
 have:=List.Nodup.length_le_of_subset (l₁:=i::os) (List.nodup_cons.mpr ⟨n,nd⟩) (l₂:=List.range l.length) fun x hx=>List.mem_range.mpr (by
  rcases List.mem_cons.mp hx with rfl|hx
  ·exact hi
  ·exact lt x hx)
 rw [List.length_cons,List.length_range] at this;omega
theorem Qj (kp:Bd (l.map iU) os):VG l os:=by
 have gen:∀n,n<=os.length->VG l (os.take n):=by
  intro n
  induction n with
  | zero=>intro _;rw [List.take_zero];exact .nil
  | succ n ih=>
    intro hn;have e:os[n]? = some os[n]:=by simp
    have hl:=lt _ (List.mem_of_getElem? e);rw [List.take_add_one,e];refine .snoc (ih (by omega)) (x:=l[os[n]]) (by simp) (fun z=> ?_) (fun m y ml em st=> ?_)
    ·obtain ⟨j,hj⟩:=List.getElem?_of_mem z
     have jl:=(List.getElem?_eq_some_iff.mp hj).1;rw [List.length_take] at jl;rw [List.getElem?_take_of_lt (by omega)] at hj;have:=(List.getElem?_inj (by omega) nd).mp (hj.trans e.symm);omega
    ·obtain ⟨j,hj⟩:=List.getElem?_of_mem (zV nd len lt m (List.getElem?_eq_some_iff.mp em).1)
     rcases Nat.lt_trichotomy j n with q|q|q
     ·exact List.mem_of_getElem? (i:=j) (by rw [List.getElem?_take_of_lt q];exact hj)
     ·subst q
      rw [e] at hj;have:=Option.some.inj hj;omega
     ·have:=kp n j _ _ q e hj
      rw [Br ml em (by simp) st] at this;cases this
 have:=gen os.length (Nat.le_refl _);rwa [List.take_length] at this
theorem Cm:os.Perm (List.range l.length):=by
 refine (List.perm_ext_iff_of_nodup nd List.nodup_range).mpr fun x=>⟨fun h=>List.mem_range.mpr (lt x h),fun h=>zV nd len lt x (List.mem_range.mp h)⟩
theorem MF (kp:Bd (l.map iU) os) (h:Nat):Jy (pick l os) h=Jy l h:=by
 let q:Nat->Bool:=fun i=>match l[i]? with |some t=>t.k==h|none=>false
 have fp:∀us:List Nat,Jy (pick l us) h=pick l (us.filter q):=by
  intro us;unfold Jy pick
  induction us with
  | nil=>rfl
  | cons i us ih=>
    rw [List.filterMap_cons,List.filter_cons];cases e:l[i]? with
    | none=>
      rw [ih,if_neg (show ¬q i=true by simp [q,e])]
    | some t=>
      dsimp only;rw [List.filter_cons,ih]
      by_cases z:t.k=h
      ·rw [if_pos (by simp [z]),if_pos (show q i=true by simp [q,e,z]),List.filterMap_cons,e]
      ·rw [if_neg (by simp [z]),if_neg (show ¬q i=true by simp [q,e,z])]
 have e0:pick l (List.range l.length)=l:=by
  have:=BZ l;have r0:tV l []=List.range l.length:=List.filter_eq_self.mpr fun i _=>by simp
  rwa [r0] at this
 have p1:(os.filter q).Pairwise (· < ·):=by
  rw [List.pairwise_filter,List.pairwise_iff_getElem];intro i j hi hj hij qi qj;have e1:os[i]? = some os[i]:=by simp
  have e2:os[j]? = some os[j]:=by simp
  have k1:=kp i j _ _ hij e1 e2;have l1:=lt _ (List.mem_of_getElem? e1);have l2:=lt _ (List.mem_of_getElem? e2);rcases Nat.lt_trichotomy os[i] os[j] with z|z|z
  ·exact z
  ·have:=(List.getElem?_inj hi nd).mp (e1.trans (by rw [z];exact e2.symm))
   omega
  ·have a1:l[os[i]]? = some l[os[i]]:=by simp
   have a2:l[os[j]]? = some l[os[j]]:=by simp
   have h1:l[os[i]].k=h:=by
    have qi:(match l[os[i]]? with |some t=>t.k==h|none=>false)=true:=qi;rw [a1] at qi;simpa using qi
   have h2:l[os[j]].k=h:=by
    have qj:(match l[os[j]]? with |some t=>t.k==h|none=>false)=true:=qj;rw [a2] at qj;simpa using qj
   rw [Br z a2 a1 (.inl (by rw [h1,h2]))] at k1;cases k1
 have p2:((List.range l.length).filter q).Pairwise (· < ·):=List.Pairwise.filter _ List.pairwise_lt_range;have e:os.filter q=(List.range l.length).filter q:=List.Perm.eq_of_pairwise (le:=fun x y:Nat=>x<y) (fun a b _ _ h1 h2=>by omega) p1 p2 ((Cm nd len lt).filter q);rw [fp,e,←fp,e0]
end
theorem Lz {l:List Tc} {os:List Nat} (lt:∀x∈os,x<l.length):(pick l os).length=os.length:=by
 unfold pick
 induction os with
 | nil=>rfl
 | cons i os ih=>
   have:=lt i (.head _);rw [List.filterMap_cons,List.getElem?_eq_getElem this];show (_::_).length=_;rw [List.length_cons,List.length_cons,ih fun x hx=>lt x (.tail _ hx)]
theorem Ce {l:List Tc} {os:List Nat} (lt:∀x∈os,x<l.length) {j p:Nat} (e:os[j]? = some p):(pick l os)[j]? = l[p]? :=by
 unfold pick
 induction os generalizing j with
 | nil=>simp at e
 | cons i os ih=>
   have:=lt i (.head _);rw [List.filterMap_cons,List.getElem?_eq_getElem this];cases j with
   | zero=>
     have e:i=p:=by simpa using e
     subst e;simp [this]
   | succ j=>exact ih (fun x hx=>lt x (.tail _ hx)) (by simpa using e)
theorem Rg {S T:g_} (a:yx S T):Dm S=Dm T:=by
 unfold Dm;rw [a.hs];refine List.map_congr_left fun k _=> ?_;rw [a.ts.count_eq]
theorem Vy {S T:g_} (a:yx S T):SN S=SN T:=by
 unfold SN I_ Hq;rw [Rg a,a.m,a.ns,a.hs]
def yE (hs:List bG) (k:Nat):Bool:=match hs[k]? with
 | some s=>decide (s.st = "waits")
 | none=>false
def qm (hs:List bG):List Nat:=(List.range hs.length).filter (yE hs)
theorem Vh {α:Type} (p:Nat->Bool) (f:Nat->α) (n:Nat):(List.range n).filterMap (fun i=>if p i then some (f i) else none)=((List.range n).filter p).map f:=by
 induction n with
 | zero=>rfl
 | succ n ih=>
   rw [eY,ih,List.range_succ,List.filter_append,List.map_append];congr 1;cases h:p n<;>simp [h]
theorem Ja {hs:List bG} {z k:Nat} (h:(qm hs)[z]? = some k):∃s,hs[k]? = some s/\s.st = "waits" :=by
 have m:=List.mem_of_getElem? h;have:=(List.mem_filter.mp m).2;unfold yE at this;cases e:hs[k]? with
 | none=>rw [e] at this;cases this
 | some s=>rw [e] at this;exact ⟨s,rfl,of_decide_eq_true this⟩
structure Fr (i:Nat) (r:Addr) (τ:Tg) (H H':Hp):Prop where
 k:∀x u,H x=some u->x≠r->(τ x).head?≠some i->H' x=some u
 t:∀x xs,H x=some (.tup xs)->H' x=some (.tup xs)
theorem Fr.trans {i:Nat} {r:Addr} {τ:Tg} {H H1 H2:Hp} (a:Fr i r τ H H1) (b:Fr i r τ H1 H2):Fr i r τ H H2:=⟨fun x u e n m=>b.k _ _ (a.k _ _ e n m) n m,fun x xs e=>b.t _ _ (a.t _ _ e)⟩
theorem Fr.same {i:Nat} {r:Addr} {τ:Tg} {H H':Hp} (k:Same H H'):Fr i r τ H H':=⟨fun x u e _ _=>k _ _ e,k.tups⟩
theorem Fr.draw {i:Nat} {r:Addr} {τ:Tg} {H H':Hp} (T:ST τ H r) (k:Kp r H H'):Fr i r τ H H':=⟨fun x u e n _=>k _ _ e n,T.S.tups k⟩
theorem Fr.stp {i:Nat} {r:Addr} {τ:Tg} {H H':Hp} (k:Ot i τ H H'):Fr i r τ H H':=⟨fun x u e _ m=>k.keep _ _ e m,k.tup⟩
theorem Fr.newly {i:Nat} {r a:Addr} {τ:Tg} {H H1:Hp} {xs ys:List V} (f:Fr i r τ H H1) (ha:H a=none) (e1:H1 a=some (.lst xs)):Fr i r τ H (upd H1 a (.lst ys)):=⟨fun x u e n m=>by rw [aF (aD e ha)];exact f.k _ _ e n m,fun x zs e=>by rw [aF (aD e ha)];exact f.t _ _ e⟩
theorem Fr.mv {i j:Nat} {r:Addr} {τ:Tg} {H H':Hp} (f:Fr i r τ H H') (T:ST τ H r) (n:j≠i) (i0:i≠0):Mv j τ H τ H':=⟨fun x u e t=>⟨f.k _ _ e (T.ne (by
 rcases t with t|t
 ·rw [t];simp
 ·intro z;rw [z] at t;cases t)) (by
 rcases t with t|t
 ·rw [t];exact fun z=>i0 (Option.some.inj z).symm
 ·rw [t];exact fun z=>n (Option.some.inj z)),rfl⟩,f.t⟩
def rK (CW CH:Addr) (K:PySem.W.Frag):Sp:=fun vs H Q _=>∃(r:Addr) (i:Nat) (τ:Tg) (W:yj) (S:g_),vs=[.ref r,.ref W.o]/\ST τ H r/\k_ CW CH i τ H W S/\S.ts=[]/\S.hs.length<=8 /\
 ∀(o:Addr) (l:List Tc) (S':g_) (H':Hp),H o=none->Run S l S'->l.length<=300->H' o=some (.lst (tZ l))->ST τ H' r->Fr i r τ H H'->Q (.ref o) H'
theorem CV (l:List Tc) (t:Tc):tZ l++[V.int (t.k:Int)]=tZ (l++[t]):=by unfold tZ;rw [List.map_append];rfl
theorem QG (b1 b2:Bool):∃v:Int,uM [V.int 31,V.int 101,V.int 301] ((if b1 then 1 else 0)+(if b2 then 1 else 0))=some (V.int v)/\0<v/\v<=301:=by
 cases b1<;>cases b2
 ·exact ⟨31,rfl,by decide,by decide⟩
 ·exact ⟨101,rfl,by decide,by decide⟩
 ·exact ⟨101,rfl,by decide,by decide⟩
 ·exact ⟨301,rfl,by decide,by decide⟩
theorem Fp {ak au bD dG:Addr} {f:Addr} {fd:FuncData} (F:jX K "_law_order" "_law_order" iG f fd) (bU:FnAt P w K mg base 1 "_law_draw" ["spring","many"] (mQ K)) (jU:MethAt P w K mg base 1 ak "counts" ["self"] (qw ak au K)) (DR:MethAt P w K mg base 4 ak "how" ["self","hand"] (fun vs H Q _=>Lg ak au bD K vs H Q fun _ _ _=>False)) (fL:MethAt P w K mg base 7 ak "turn" ["self","hand"] (fun vs H Q _=>pN ak au bD dG K vs H Q fun _ _ _=>False)) (aM:dz K ak) (Bt:yX mg):cj P w K mg base jA 8 f fd ["spring","works"] (rK ak au K):=by
 refine F.ok lH (fun vs H Q E h=> ?_) (fun cdv A outer s H vs Q E hr h=> ?_)
 ·obtain ⟨r,i,τ,W,S,rfl,_⟩:=h
  rfl
 ·obtain ⟨r,i,τ,W,S,rfl,T,w,ts0,h8,k⟩:=h
  have FQ:=hr.units
  refine ⟨_,(aB (bB (i:=2) lH.nd rfl (Or.inl rfl) (bM bU (hr.mono (by decide)) (by rfl) (aj (pv 0) (aj aC aA))))
   (aB (bB (i:=3) lH.nd rfl (Or.inl rfl) (fQ aA))
   (aB (jQ PassesOwn.never rfl (dO (by rfl) Bt.fW (aj (bM bU (hr.mono (by decide)) (by rfl) (aj (pv 0) (aj (aN (aX (K:=K) rfl) (fQ (aj aC (aj aC (aj aC aA)))) (cP iJ (fj oZ (by rfl) Bt.Dz wV (aj (d7 cU (cP kO (pv 2) aC) aC (aR _)) aA)) (fj oZ (by rfl) Bt.Dz wV (aj (d7 cU (pv 2) aC (aR _)) aA))) (fun _ _=>rfl)) aA))) aA)) (bJ (i:=4) lH.nd rfl (Or.inl rfl))
   (aB (mR (i:=5) rfl lH.nd rfl (Or.inl rfl) (N:=["hand","works"]) (own:=["hand"]) (caps:=[1]) (bw.of (by kernel_rfl)) (dO (by rfl) Bt.fW (aj (aQ (bh (K:=K) rfl) (by rfl) Bt.gR eN (aj (ig jU aM.cls (hr.mono (by decide)) (pv 1)) aA)) aA)) (fun _ _ _ _=>(bJ (i:=0) (show List.Nodup (["hand","works"]:List Str) by decide +kernel) rfl (Or.inl rfl))) (fun _ _ _ _=>(zT (aY cU (cT DR aM.cls (hr.mono (by decide)) (pv 1) (aj (pv 0) aA)) bA (aR _)))) (fun _ _ _ _=>(pv 0)))
   (aG (cG (aY (Hz (K:=K) rfl FQ) (pv 5) (fQ aA) (aR _)) (aB (eX (gk (K:=K) rfl (pv 3) (aj (aN (aX (K:=K) rfl) (pv 5) (bM bU (hr.mono (by decide)) (by rfl) (aj (pv 0) (aj (aQ (bh (K:=K) rfl) (by rfl) Bt.gR eN (aj (pv 5) aA)) aA))) (fun _ _=>rfl)) aA)))
   (aG (eX (cT fL aM.cls (hr.mono (by decide)) (pv 1) (aj (aN (aX (K:=K) rfl) (pv 3) (LR Ei aC) (fun _ _=>rfl)) aA))))) bF))))
   (aG (aZ (pv 3)))))), ?_⟩
  refine ⟨_,rfl,r,32,rfl,T.S,by decide,by decide,fun sh H1 z0 z1 R1 k1=> ?_⟩;have T1:=T.draw k1 R1;have w1:=w.mv (T.kr k1) T1.un;have q1:Fr i r τ H H1:=Fr.draw T k1;refine ⟨(by show 0<=sizeLine;decide),fun o ho=> ?_⟩;have so:=aL (o:=HO.lst []) ho;have nor:o≠r:=R1.ne ho;have to:τ o=[]:=T1.un o ho;have Wb:H o=none:=qK k1 nor ho;have T2:=T1.same so;have w2:=w1.same so;have q2:=q1.trans (Fr.same so);have eo2:(upd H1 o (.lst [])) o=some (.lst []):=aq;generalize (upd H1 o (.lst []))=H2 at T2 w2 q2 eo2 ⊢;refine ⟨_,rfl,(by show 3<=sizeLine;decide),fun l3 hl3=> ?_⟩;have Py:=aL (o:=HO.lst [V.int 31,V.int 101,V.int 301]) hl3;refine ⟨_,rfl,_,_,rfl,rfl,(by show (0:Int)<8;decide),rfl,.inr ⟨_,rfl,_,rfl,rfl,.inr ⟨_,rfl,_,_,rfl,rfl, ?_⟩⟩⟩;obtain ⟨n3,en3,n30,n31⟩:=QG (decide (V.int (sh % 8)=V.int 7)) (decide (V.int sh=V.int 31));refine ⟨_,_,_,_,rfl,rfl,bH.of aq,en3,r,n3,rfl,(T2.same Py).S,n30,by omega,fun mn H4 m0 m1 R4 k4=>⟨_,rfl,by omega,by omega, ?_⟩⟩;have T4:=(T2.same Py).draw k4 R4;have w4:=(w2.same Py).mv ((T2.same Py).kr k4) T4.un;have q4:=(q2.trans (Fr.same Py)).trans (Fr.draw (T2.same Py) k4);have eo4:=k4 _ _ (Py _ _ eo2) nor
  refine lM (lo:=0) (n:=mn.toNat) (fun j σ Hc=>∃(x4 x5:Option V) (l:List Tc) (S1:g_),σ=[some (.ref r),some (.ref W.o),some (.int sh),some (.ref o),x4,x5]/\ST τ Hc r/\k_ ak au i τ Hc W S1/\Run S l S1/\l.length<=j/\Hc o=some (.lst (tZ l))/\Fr i r τ H Hc)
   ⟨none,none,[],S,rfl,T4,w4,rfl,Nat.le_refl _,eo4,q4⟩ ?_ ?_
  ·rintro j σ Hc hj ⟨x4,x5,l,S1,rfl,Tc',wc,R,lj,eoc,qc⟩
   clear T4 w4 q4 eo4 T2 w2 q2 eo2 T1 w1 q1;have hl1:S1.hs.length=S.hs.length:=(zO R).1;have tl:S1.ts.length<=10000:=by rw [rT R,ts0];simp;omega
   refine ⟨_,rfl,W.o,W.dx,_,rfl,wc.o,rfl,i,τ,W,S1,rfl,wc,fun l' H6 f6 e6 s6=> ?_⟩;have cl:((Dm S1).map V.int).length=S1.hs.length:=by unfold Dm;rw [List.length_map,List.length_map,List.length_range]
   have w6:=wc.same s6;have T6:=Tc'.same s6;refine ⟨l',_,rfl,.inl (bH.of e6),_,rfl,by rw [cl];omega,by rw [cl];omega,fun D hD=> ?_⟩;rw [cl,Int.toNat_natCast];refine jM (fun z=>if yE S1.hs z then some (.int (z:Nat)) else none) hD (by omega) (fun z H7 G F hz s7 kG kF=> ?_) (fun H7 s7 e7=> ?_)
   ·have w7:=w6.same s7
    have es:S1.hs[z]? = some S1.hs[z]:=by simp [hz]
    have inn:xT ((0:Int)+z) S1.hs.length:=⟨by omega,by omega⟩;refine ⟨_,rfl,W.o,W.dx,_,rfl,w7.o,rfl,_,rfl,i,τ,W,S1,_,rfl,w7,fun k3 t3 e3 e3'=> ?_,fun z=>absurd inn z⟩
    obtain rfl:t3=S1.hs[z]:=by
     have:k3=z:=by omega
     subst this;rw [es] at e3';exact (Option.some.inj e3').symm
    refine ⟨rfl,_,rfl, ?_⟩;have eb:yE S1.hs z=decide (S1.hs[z].st = "waits"):=by unfold yE;rw [es]
    rw [eb] at kG kF;refine bQ (fun q=> ?_) (fun q=> ?_)
    ·have hq:S1.hs[z].st=Str.ofString "waits" :=V.str.inj (of_decide_eq_true q)
     refine ⟨_,rfl,kF _ H7 (Same.refl _) ?_⟩;rw [decide_eq_true hq,Int.zero_add];rfl
    ·refine kG H7 (Same.refl _) ?_
     have hq:¬S1.hs[z].st=Str.ofString "waits" :=fun z=>q (decide_eq_true (by rw [z]));rw [decide_eq_false hq];rfl
   have e7':H7 D=some (.lst (((qm S1.hs).map fun k:Nat=>(k:Int)).map V.int)):=by
    rw [e7,Vh,List.map_map];rfl
   have w7:=w6.same s7;have T7:=T6.same s7;have s67:=s6.trans s7;have XJ:D≠r:=T6.S.ne hD;have eo7:=s67 _ _ eoc;have q7:=qc.trans (Fr.same s67)
   have wm:(qm S1.hs).length<=100:=by
    have:=List.length_filter_le (yE S1.hs) (List.range S1.hs.length);unfold qm;rw [List.length_range] at this;omega
   refine ⟨_,rfl,(by show 0<=sizeLine;decide),fun z hz=> ?_⟩;have sz:=aL (o:=HO.lst []) hz;refine ⟨_,_,gQ (sz _ _ e7'),gQ (ns:=[]) aq,shaped_ints _,shaped_ints _,_,rfl, ?_⟩;rw [wI PyData.int Aj]
   by_cases nw:qm S1.hs=[]
   ·rw [nw]
    refine iy ?_;exact ⟨_,_,l,S1,rfl,T7.same sz,w7.same sz,R,by omega,sz _ _ eo7,q7.trans (Fr.same sz)⟩
   have ne:decide (((qm S1.hs).map fun k:Nat=>(k:Int))=[])=false:=decide_eq_false fun e=>nw (List.map_eq_nil_iff.mp e);rw [ne];refine iK ?_;have w8:=w7.same sz;have T8:=T7.same sz;have e8:=sz _ _ e7';have eo8:=sz _ _ eo7;have q8:=q7.trans (Fr.same sz);generalize (upd H7 z (.lst []))=H8 at w8 T8 e8 eo8 q8 ⊢;have wn:0<(qm S1.hs).length:=List.length_pos_iff.mpr nw;refine ⟨_,rfl,.inl ⟨rfl,_,bH.of eo8⟩,_,rfl,_,rfl,_,rfl,D,_,rfl,.inl (bH.of e8),r,_,rfl,T8.S, ?_, ?_,fun y H9 y0 y1 R9 k9=> ?_⟩
   ·simp;omega
   ·simp;omega
   have y1:y<(qm S1.hs).length:=by simpa using y1
   obtain ⟨y,rfl⟩:=Int.eq_ofNat_of_zero_le y0;obtain ⟨f,ef⟩:∃f,(qm S1.hs)[y]? = some f:=⟨_,List.getElem?_eq_getElem (by omega)⟩;obtain ⟨sf,esf,wsf⟩:=Ja ef;have T9:=T8.draw k9 R9;have w9:=w8.mv (T8.kr k9) T9.un;have q9:=q8.trans (Fr.draw T8 k9);have eo9:=k9 _ _ eo8 nor;refine ⟨_,_,_,_,rfl,rfl,bH.of (k9 _ _ e8 XJ),d_ (by rw [List.getElem?_map,List.getElem?_map,ef];rfl),o,_,_,rfl,rfl,eo9,(by rw [qL,sizeLine_eq];omega), ?_⟩;obtain ⟨rw',erw,_⟩:=w9.ok sf (List.mem_of_getElem? esf) wsf;have at9:Kr S1 ⟨f,rw',vV S1.ns rw',GK sf.bs rw'⟩:=⟨sf,esf,wsf,erw,rfl,rfl⟩;generalize htt:(⟨f,rw',vV S1.ns rw',GK sf.bs rw'⟩:Tc)=t at at9;have ft:f=t.k:=by rw [←htt]
   rw [ft,CV];have kk:Kp o H9 (upd H9 o (.lst (tZ (l++[t])))):=Kp.set
   have Ta:ST τ (upd H9 o (.lst (tZ (l++[t])))) r:=⟨T9.S.keep' kk nor.symm,T9.t,T9.un.dom fun x e=>by
    by_cases z:x=o
    ·rw [z,aq] at e;cases e
    ·rw [aF z] at e;exact e⟩
   have wa:=w9.kp kk eo9 (by intro xs z;cases z) to ⟨_,aq⟩;have qa:=q9.newly (ys:=tZ (l++[t])) Wb eo9;have eoa:(upd H9 o (.lst (tZ (l++[t])))) o=some (.lst (tZ (l++[t]))):=aq;generalize (upd H9 o (.lst (tZ (l++[t]))))=Ha at Ta wa qa eoa ⊢;refine ⟨_,rfl,W.o,W.dx,_,rfl,wa.o,rfl,_,rfl,_,rfl,_,_,_,_,rfl,rfl,bH.of eoa,(by rw [←CV];exact Oq _ _), ?_⟩;dsimp only [vL];refine qp wa tl at9 fun q Hd hq eq wd st=> ?_;refine ⟨_,_,l++[t],cX S1 t.k,rfl,Ta.stp st,wd,Run.app.mpr ⟨S1,R,at9,rfl⟩,by simp;omega,st.keep _ _ eoa (by rw [to];simp),qa.trans (Fr.stp st)⟩
  ·rintro σ Hc ⟨x4,x5,l,S1,rfl,Tc',wc,R,lj,eoc,qc⟩
   exact ⟨_,rfl,k o l S1 Hc Wb R (by omega) eoc Tc' qc⟩
theorem Ie (K:PySem.W.Frag):PySem.W.kitOne K (.type "str") (.type "bool")=some false:=by kernel_rfl
theorem Ig (K:PySem.W.Frag):PySem.W.kitOne K (.type "NoneType") (.type "bool")=some false:=by kernel_rfl
theorem yP (n:Nat) (v:V):(List.range n).filterMap (fun _=>some v)=List.replicate n v:=by
 induction n with
 | zero=>rfl
 | succ n ih=>rw [eY,ih,List.replicate_succ'];rfl
def Wk:Nat->PyData->Prop
 | 0,_=>False
 | n+1,.list ds=>ds.length<=20000 /\ ∀d∈ds,Wk n d
 | n+1,.tuple ds=>ds.length<=20000 /\ ∀d∈ds,Wk n d
 | _+1,.int _=>True
 | _+1,.str _=>True
 | _+1,.none=>True
 | _+1,_=>False
def jD (n:Nat) (K:PySem.W.Frag):Sp:=fun vs H Q _=>∃(x y:V) (d:PyData),vs=[x,y]/\Dat H x d/\Dat H y d/\Wk n d /\ ∀H',Same H H'->Q (.bl true) H'
theorem Jr {f:Addr} {fd:FuncData} (F:jX K "_law_same" "_law_same" jj f fd):cj P w K mg base jA 1 f fd ["found","due"] (jD 0 K):=by
 refine F.ok BK (fun vs H Q E h=> ?_) (fun cdv A outer s H vs Q E hr h=> ?_)
 ·obtain ⟨x,y,d,_,_,_,z,_⟩:=h
  exact z.elim
 ·obtain ⟨x,y,d,_,_,_,z,_⟩:=h
  exact z.elim
theorem oR {n:Nat} {f:Addr} {fd:FuncData} (F:jX K "_law_same" "_law_same" jj f fd) (u5:FnAt P w K mg base (n+1) "_law_same" ["found","due"] (jD n K)) (Bt:yX mg):cj P w K mg base jA (n+1+1) f fd ["found","due"] (jD (n+1) K):=by
 refine F.ok BK (fun vs H Q E h=> ?_) (fun cdv A outer s H vs Q E hr h=> ?_)
 ·obtain ⟨x,y,d,rfl,_⟩:=h
  rfl
 ·obtain ⟨x,y,d,rfl,dx,dy,pl,k⟩:=h
  refine ⟨_,(aB (cG (iI (aQ (Gg (K:=K) rfl) (by rfl) Bt.cg bR (aj (pv 1) (aj (fP (aj (gC (v:= .ty "list") (by rfl) Bt.iQ fV rfl) (aj (gC (v:= .ty "tuple") (by rfl) Bt.Ax wU rfl) aA))) aA)))) (aB (cG (PW.pt (tW (aY oh (aQ (dR (K:=K) (cv:= .ty "list") (c:= .type "list") rfl rfl) (by rfl) Bt.cg bR (aj (pv 0) (aj (gC (v:= .ty "list") (by rfl) Bt.iQ fV rfl) aA))) (aQ (dR (K:=K) (cv:= .ty "list") (c:= .type "list") rfl rfl) (by rfl) Bt.cg bR (aj (pv 1) (aj (gC (v:= .ty "list") (by rfl) Bt.iQ fV rfl) aA))) (aR _)) (pQ (aY oh (aQ (dR (K:=K) (cv:= .ty "tuple") (c:= .type "tuple") rfl rfl) (by rfl) Bt.cg bR (aj (pv 0) (aj (gC (v:= .ty "tuple") (by rfl) Bt.Ax wU rfl) aA))) (aQ (dR (K:=K) (cv:= .ty "tuple") (c:= .type "tuple") rfl rfl) (by rfl) Bt.cg bR (aj (pv 1) (aj (gC (v:= .ty "tuple") (by rfl) Bt.Ax wU rfl) aA))) (aR _))))) (aG (aZ j4)) bF)
   (aG (aZ (v7 (d7 cU (aQ (bh (K:=K) rfl) (by rfl) Bt.gR eN (aj (pv 0) aA)) (aQ (bh (K:=K) rfl) (by rfl) Bt.gR eN (aj (pv 1) aA)) (aR _)) (mU (aQ (jy (K:=K) rfl rfl) (by rfl) Bt.Oo Gi (aj (gZ rfl (N:=["one","other"]) (own:=["one","other"]) (caps:=[]) (bw.of (by kernel_rfl)) (Qe (K:=K) rfl (by rfl) Bt.Zi (aj (pv 0) (aj (pv 1) aA))) (fun _ _ _ _=>(Hv (K:=K) (n:=2) rfl rfl (qH (bJ (i:=0) (show List.Nodup (["one","other"]:List Str) by decide +kernel) rfl (Or.inl rfl)) (qH (bJ (i:=1) (show List.Nodup (["one","other"]:List Str) by decide +kernel) rfl (Or.inl rfl)) Hu)))) (fun _ _ _ _=>dZ) (fun _ _ _ _=>(bM u5 (hr.mono (Nat.le_refl _)) (by rfl) (aj (pv 0) (aj (pv 1) aA))))) aA))))))) bF)
   (aG (aZ (v7 (d7 cU (aQ (dR (K:=K) (cv:= .ty "bool") (c:= .type "bool") rfl rfl) (by rfl) Bt.cg bR (aj (pv 0) (aj (gC (v:= .ty "bool") (by rfl) Bt.Gr Aq rfl) aA))) (aQ (dR (K:=K) (cv:= .ty "bool") (c:= .type "bool") rfl rfl) (by rfl) Bt.cg bR (aj (pv 1) (aj (gC (v:= .ty "bool") (by rfl) Bt.Gr Aq rfl) aA))) (aR _)) (mU (d7 cU (pv 0) (pv 1) (aR _))))))), ?_⟩
  refine ⟨_,rfl,(by show 2<=sizeLine;decide),fun p hp=> ?_⟩;have s1:=aL (o:=HO.tup [V.ty "list",V.ty "tuple"]) hp
  match d,pl,dx,dy with
  | .int i,pl,dx,dy=>
    simp only [Dat] at dx dy;subst dx dy;refine ⟨_,_,p,["list","tuple"],false,rfl,.of (.int i),aq,Gx K,_,rfl,iy ?_⟩;refine ⟨_,rfl,_,_,false,rfl,.int i,mY K,_,rfl,_,_,false,rfl,.int i,mY K,rfl,_,rfl,iK ?_⟩;refine ⟨_,rfl,_,rfl,rfl, ?_⟩;rw [decide_eq_true rfl];exact k _ s1
  | .str i,pl,dx,dy=>
    simp only [Dat] at dx dy;subst dx dy;refine ⟨_,_,p,["list","tuple"],false,rfl,.str i,aq,Gu K,_,rfl,iy ?_⟩;refine ⟨_,rfl,_,_,false,rfl,.str i,Ie K,_,rfl,_,_,false,rfl,.str i,Ie K,rfl,_,rfl,iK ?_⟩;refine ⟨_,rfl,_,rfl,rfl, ?_⟩;rw [decide_eq_true rfl];exact k _ s1
  | .none,pl,dx,dy=>
    simp only [Dat] at dx dy;subst dx dy;refine ⟨_,_,p,["list","tuple"],false,rfl,.non,aq,Gw K,_,rfl,iy ?_⟩;refine ⟨_,rfl,_,_,false,rfl,.non,Ig K,_,rfl,_,_,false,rfl,.non,Ig K,rfl,_,rfl,iK ?_⟩;refine ⟨_,rfl,_,rfl,rfl, ?_⟩;rw [decide_eq_true rfl];exact k _ s1
  | .list ds,pl,dx,dy=>
    simp only [Dat] at dx dy;obtain ⟨a,vs,rfl,ha,da⟩:=dx;obtain ⟨b,ws,rfl,hb,db⟩:=dy;have la:vs.length=ds.length:=da.length;have lb:ws.length=ds.length:=db.length;have Ud:ds.length<=20000:=pl.1;have ha1:=s1 _ _ ha;have hb1:=s1 _ _ hb;refine ⟨_,_,p,["list","tuple"],true,rfl,.of (.lst hb1),aq,DN K,_,rfl,iK ?_⟩;refine ⟨_,rfl,_,_,true,rfl,.lst ha1,gP K,_,rfl,_,_,true,rfl,.lst hb1,gP K,rfl,_,rfl,qM rfl ?_⟩;refine ⟨_,rfl,_,_,false,rfl,.lst ha1,oF K,_,rfl,_,_,false,rfl,.lst hb1,oF K,rfl,_,rfl,qM rfl ?_⟩;refine ⟨_,rfl,a,_,rfl,.inl (bH.of ha1),_,rfl,b,_,rfl,.inl (bH.of hb1),rfl,_,rfl, ?_⟩;refine bQ (fun _=> ?_) (fun z=>absurd (decide_eq_true (by rw [la,lb])) z);refine ⟨_,rfl,_,rfl,a,b,vs,ws,rfl,.inl ⟨bH.of ha1,bH.of hb1,fun D hD=> ?_⟩⟩;refine JV (K:=K) la lb (fun i=>some (.bl true)) hD (bH.of ha1) (bH.of hb1) (by omega) (fun i x y H2 G F hx hy s2 kG kF=> ?_) (fun H2 s2 e2=> ?_)
    ·obtain ⟨d,ed,dx⟩:=da.get hx
     obtain ⟨d',ed',dy⟩:=db.get hy;rw [ed] at ed';cases ed';exact ⟨_,rfl,_,rfl,x,y,d,rfl,dx.same (s1.trans s2) d,dy.same (s1.trans s2) d,pl.2 d (List.mem_of_getElem? ed),fun H3 s3=>kF _ H3 s3 rfl⟩
    ·rw [yP] at e2
     refine ⟨D,List.replicate ds.length true,rfl,bH.of (by rw [e2,List.map_replicate]), ?_⟩;rw [show (List.replicate ds.length true).all id=true by simp];exact k H2 (s1.trans s2)
  | .tuple ds,pl,dx,dy=>
    simp only [Dat] at dx dy;obtain ⟨a,vs,rfl,ha,da⟩:=dx;obtain ⟨b,ws,rfl,hb,db⟩:=dy;have la:vs.length=ds.length:=da.length;have lb:ws.length=ds.length:=db.length;have Ud:ds.length<=20000:=pl.1;have ha1:=s1 _ _ ha;have hb1:=s1 _ _ hb;refine ⟨_,_,p,["list","tuple"],true,rfl,.of (.tup hb1),aq,Az K,_,rfl,iK ?_⟩;refine ⟨_,rfl,_,_,false,rfl,.tup ha1,oE K,_,rfl,_,_,false,rfl,.tup hb1,oE K,rfl,_,rfl,qM rfl ?_⟩;refine ⟨_,rfl,_,_,true,rfl,.tup ha1,nF K,_,rfl,_,_,true,rfl,.tup hb1,nF K,rfl,_,rfl,qM rfl ?_⟩;refine ⟨_,rfl,a,_,rfl,.inr (dg.of ha1),_,rfl,b,_,rfl,.inr (dg.of hb1),rfl,_,rfl, ?_⟩;refine bQ (fun _=> ?_) (fun z=>absurd (decide_eq_true (by rw [la,lb])) z);refine ⟨_,rfl,_,rfl,a,b,vs,ws,rfl,.inr ⟨dg.of ha1,dg.of hb1,fun D hD=> ?_⟩⟩;refine Ga (K:=K) la lb (fun i=>some (.bl true)) hD ha1 hb1 (by omega) (fun i x y H2 G F hx hy s2 kG kF=> ?_) (fun H2 s2 e2=> ?_)
    ·obtain ⟨d,ed,dx⟩:=da.get hx
     obtain ⟨d',ed',dy⟩:=db.get hy;rw [ed] at ed';cases ed';exact ⟨_,rfl,_,rfl,x,y,d,rfl,dx.same (s1.trans s2) d,dy.same (s1.trans s2) d,pl.2 d (List.mem_of_getElem? ed),fun H3 s3=>kF _ H3 s3 rfl⟩
    ·rw [yP] at e2
     refine ⟨D,List.replicate ds.length true,rfl,bH.of (by rw [e2,List.map_replicate]), ?_⟩;rw [show (List.replicate ds.length true).all id=true by simp];exact k H2 (s1.trans s2)
theorem Lb {K:PySem.W.Frag} {H H':Hp} {a:Addr} {xs:List V} (h:bH K H a xs) (k:∀o,H a=some o->H' a=some o):bH K H' a xs:=by
 rcases h with (h|⟨o,h⟩)|h
 ·exact .inl (.inl (k _ h))
 ·exact .inl (.inr ⟨o,k _ h⟩)
 ·exact .inr h
structure Sw (CW CH r p L:Addr) (rs:List Addr) (rws:List (List Rw)) (m:Nat) (nv:V) (ns:List Int) (o a D:Addr) (as:List Addr) (l:List Tc) (W:yj) (S':g_) (τ:Tg) (H:Hp):Prop where
 T:ST τ H r
 g:Pg τ H p L rs rws m
 n:NumV τ H nv ns m
 o:H o=some (.lst (tZ l))
 a:iu H a (l.map iU)
 d:Km H D as l
 w:k_ CW CH 5 τ H W S'
section
variable {CW CH r p L:Addr} {rs:List Addr} {rws:List (List Rw)} {m:Nat} {nv:V} {ns:List Int} {o a D:Addr} {as:List Addr} {l:List Tc} {W:yj} {S':g_} {τ:Tg} {H H':Hp}
theorem Sw.same (h:Sw CW CH r p L rs rws m nv ns o a D as l W S' τ H) (k:Same H H'):Sw CW CH r p L rs rws m nv ns o a D as l W S' τ H':=
 ⟨h.T.same k,h.g.same k,h.n.mv (Mv.of_same (i:=0) k),k _ _ h.o,h.a.same k,h.d.same k,h.w.same k⟩
theorem Sw.kp (h:Sw CW CH r p L rs rws m nv ns o a D as l W S' τ H) (k:Kp r H H') (S:bC H' r) (no:o≠r) (na:a≠r) (nD:D≠r) (nas:∀q∈as,q≠r):Sw CW CH r p L rs rws m nv ns o a D as l W S' τ H':=
 ⟨h.T.draw k S,h.g.mv (h.T.kr (i:=0) k),h.n.mv (h.T.kr (i:=0) k),k _ _ h.o no,h.a.spr h.T.S k na,h.d.keep (fun x u e q=>k _ _ e (by
   rcases q with rfl|q
   ·exact nD
   ·exact nas x q)) (h.T.S.tups k),h.w.mv (h.T.kr k) (h.T.draw k S).un⟩
end
theorem Qd (ws:List lq) (h:ws.length<=20000):Wk 4 (.list (ws.map tD)):=⟨by rw [List.length_map];exact h,fun d hd=>by
 obtain ⟨x,_,rfl⟩:=List.mem_map.mp hd;refine ⟨by show 3<=20000;decide,fun d hd=> ?_⟩;simp only [List.mem_cons,List.not_mem_nil,or_false] at hd;rcases hd with rfl|rfl|rfl<;>trivial⟩
theorem Ly (n:Nat) (x:Option Int):Wk (n+1) (oD x):=by cases x<;>trivial
theorem Lx {l:List Tc} {n:Nat} (h:l.length<=20000) (hn:n<=20000):Wk 4 (rW l n):=⟨by rw [List.length_map,List.length_range];exact hn,fun d hd=>by
 obtain ⟨k,_,rfl⟩:=List.mem_map.mp hd;refine ⟨?_,fun d hd=> ?_⟩
 ·rw [List.length_map]
  exact Nat.le_trans (List.length_filter_le _ _) h
 ·obtain ⟨t,_,rfl⟩:=List.mem_map.mp hd
  refine ⟨by show 4<=20000;decide,fun d hd=> ?_⟩;simp only [List.mem_cons,List.not_mem_nil,or_false] at hd;rcases hd with rfl|rfl|rfl|rfl
  ·trivial
  ·trivial
  ·exact Ly _ _
  ·exact Ly _ _⟩
def kI (l:List Tc):List Int:=l.map fun t=>(t.k:Int)
def G4 (K:PySem.W.Frag):Sp:=fun vs H Q _=>∃(a:Addr) (ns:List Int),vs=[.ref a]/\bH K H a (ns.map V.int)/\ns.length<=63 /\ ∀H',Q (.bl true) H'
theorem Ut {ak au aW:Addr} {f:Addr} {fd:FuncData} (F:jX K "law" "law" qD f fd) (Ke:FnAt P w K mg base 1 "_law_spring" ["script"] (vN K)) (bU:FnAt P w K mg base 1 "_law_draw" ["spring","many"] (mQ K)) (GF:FnAt P w K mg base 5 "_law_program" ["spring"] (Eu K)) (nu:oJ P w K mg base 7 ak "Works" ["self","program","cells"] [] (fun vs H Q _=>jC ak au aW K vs H Q fun _ _ _=>False)) (Ow:FnAt P w K mg base 8 "_law_order" ["spring","works"] (rK ak au K)) (DW:FnAt P w K mg base 9 "web_of" ["program","order","cells"] (zp K)) (rm:FnAt P w K mg base 9 "touches_of" ["program","order","cells"] (nW K)) (IW:FnAt P w K mg base 9 "_law_gone" ["program","order","numbers"] (zG ak au K)) (uN:MethAt P w K mg base 1 ak "__len__" ["self"] (Es ak au K)) (xK:MethAt P w K mg base 3 ak "__eq__" ["self","other"] (Ld ak au K)) (yu:FnAt P w K mg base 3 "_law_free_order" ["spring","web"] (zH K)) (Gz:FnAt P w K mg base 4 "same_run" ["web","order"] (zy K)) (u5:FnAt P w K mg base 5 "_law_same" ["found","due"] (jD 4 K)) (aM:dz K ak) (Bt:yX mg):cj P w K mg base jA 10 f fd ["script"] (G4 K):=by
 refine F.ok jc (fun vs H Q E h=> ?_) (fun cdv A outer s H vs Q E hr h=> ?_)
 ·obtain ⟨a,ns,rfl,_⟩:=h
  rfl
 ·obtain ⟨sc,Z4,rfl,hs0,hlen,k⟩:=h
  have FQ:=hr.units
  refine ⟨_,(aB (bB (i:=1) jc.nd rfl (Or.inr rfl) (bM Ke (hr.mono (by decide)) (by rfl) (aj (pv 0) aA)))
   (aB (bB (i:=2) jc.nd rfl (Or.inl rfl) (bM bU (hr.mono (by decide)) (by rfl) (aj (pv 1) (aj aC aA))))
   (aB (bB (i:=3) jc.nd rfl (Or.inl rfl) (bM GF (hr.mono (by decide)) (by rfl) (aj (pv 1) aA)))
   (aB (mR (i:=4) rfl jc.nd rfl (Or.inl rfl) (N:=["cell","spring"]) (own:=["cell"]) (caps:=[1]) (bw.of (by kernel_rfl)) (dO (by rfl) Bt.fW (aj (aN (aP (K:=K) rfl) (pv 3) aC (fun _ _=>rfl)) aA)) (fun _ _ _ _=>(bJ (i:=0) (show List.Nodup (["cell","spring"]:List Str) by decide +kernel) rfl (Or.inl rfl))) (fun _ _ _ _=>dZ) (fun _ _ _ _=>(bM bU (hr.mono (by decide)) (by rfl) (aj (pv 1) (aj aC aA)))))
   (aB (cG (aY cU (pv 2) aC (aR _)) (aG (bB (i:=4) jc.nd rfl (Or.inl rfl) mV)) bF)
   (aB (bB (i:=5) jc.nd rfl (Or.inr rfl) (bM Ow (hr.mono (by decide)) (by rfl) (aj (pv 1) (aj (n_ nu (hr.mono (by decide)) (by rfl) (aj (pv 3) (aj (pv 4) aA))) aA))))
   (aB (bB (i:=6) jc.nd rfl (Or.inr rfl) (bM DW (hr.mono (by decide)) (by rfl) (aj (pv 3) (aj (pv 5) (aj (pv 4) aA)))))
   (aB (bB (i:=7) jc.nd rfl (Or.inl rfl) (bM rm (hr.mono (by decide)) (by rfl) (aj (pv 3) (aj (pv 5) (aj (pv 4) aA)))))
   (aB (bB (i:=8) jc.nd rfl (Or.inl rfl) (bM IW (hr.mono (by decide)) (by rfl) (aj (pv 3) (aj (pv 5) (aj (pv 4) aA)))))
   (aB (cG (PW.pt (tW (jP (iI (aQ (dR (K:=K) (cv:= .ty "list") (c:= .type "list") rfl rfl) (by rfl) Bt.cg bR (aj (pv 6) (aj (gC (v:= .ty "list") (by rfl) Bt.iQ fV rfl) aA))))) (tW (aY (Hz (K:=K) rfl FQ) (gZ rfl (N:=["there"]) (own:=["there"]) (caps:=[]) (bw.of (by kernel_rfl)) (dM (K:=K) rfl (pv 6)) (fun _ _ _ _=>(bJ (i:=0) (show List.Nodup (["there"]:List Str) by decide +kernel) rfl (Or.inl rfl))) (fun _ _ _ _=>dZ) (fun _ _ _ _=>(aN (aP (K:=K) rfl) (pv 0) aC (fun _ _=>rfl)))) (pv 5) (aR _)) (pQ (aY oh (aQ (J3 uN (hr.mono (by decide))) (by rfl) Bt.gR eN (aj (pv 8) aA)) (aQ (bh (K:=K) rfl) (by rfl) Bt.gR eN (aj (pv 5) aA)) (aR _)))))) (aG (aZ j4)) bF)
   (aB (jQ PassesOwn.never rfl (dO (by rfl) Bt.fW (aj (cP iJ aC (aQ (J1 rfl) (by rfl) Bt.Zj Vt (aj (aQ (bh (K:=K) rfl) (by rfl) Bt.gR eN (aj (pv 0) aA)) (aj aC aA)))) aA)) (bJ (i:=9) jc.nd rfl (Or.inl rfl))
   (aB (bB (i:=10) jc.nd rfl (Or.inl rfl) (bM yu (hr.mono (by decide)) (by rfl) (aj (pv 1) (aj (pv 6) aA))))
   (aB (mR (i:=11) rfl jc.nd rfl (Or.inl rfl) (N:=["place","order"]) (own:=["place"]) (caps:=[5]) (bw.of (by kernel_rfl)) (dM (K:=K) rfl (pv 10)) (fun _ _ _ _=>(bJ (i:=0) (show List.Nodup (["place","order"]:List Str) by decide +kernel) rfl (Or.inl rfl))) (fun _ _ _ _=>dZ) (fun _ _ _ _=>(aN (aX (K:=K) rfl) (pv 1) (pv 0) (fun _ _=>rfl))))
   (aB (cG (aY Qk (bM Gz (hr.mono (by decide)) (by rfl) (aj (fj (eG (K:=K) rfl) (by rfl) Bt.iQ fV (aj (pv 6) aA)) (aj (fj (eG (K:=K) rfl) (by rfl) Bt.iQ fV (aj (pv 10) aA)) aA))) j4 (aR _)) (aG (aZ j4)) bF)
   (aB (cG (jP (iI (bM u5 (hr.mono (by decide)) (by rfl) (aj (bM rm (hr.mono (by decide)) (by rfl) (aj (pv 3) (aj (pv 11) (aj (pv 4) aA)))) (aj (pv 7) aA))))) (aG (aZ j4)) bF)
   (aB (cG (jP (iI (bM u5 (hr.mono (by decide)) (by rfl) (aj (bM DW (hr.mono (by decide)) (by rfl) (aj (pv 3) (aj (pv 11) (aj (pv 4) aA)))) (aj (gZ rfl (N:=["place","web"]) (own:=["place"]) (caps:=[6]) (bw.of (by kernel_rfl)) (dM (K:=K) rfl (pv 10)) (fun _ _ _ _=>(bJ (i:=0) (show List.Nodup (["place","web"]:List Str) by decide +kernel) rfl (Or.inl rfl))) (fun _ _ _ _=>dZ) (fun _ _ _ _=>(aN (aX (K:=K) rfl) (pv 1) (pv 0) (fun _ _=>rfl)))) aA))))) (aG (aZ j4)) bF)
   (aG (cG (jP (aY (Uo xK (hr.mono (by decide))) (pv 8) (bM IW (hr.mono (by decide)) (by rfl) (aj (pv 3) (aj (pv 11) (aj (pv 4) aA)))) (aR _))) (aG (aZ j4)) bF))))))))
   (aG (aZ j4))))))))))))), ?_⟩
  refine ⟨_,rfl,sc,Z4,rfl,hs0,hlen,fun r H1 hr0 R1 s1=> ?_⟩;have T1:ST (fun _=>[]) H1 r:=⟨R1,rfl,fun _ _=>rfl⟩;refine ⟨_,rfl,r,2,rfl,R1,by decide,by decide,fun pl H2 pl0 Ud R2 k2=> ?_⟩;have T2:=T1.draw k2 R2;refine ⟨_,rfl,r,fun _=>[],rfl,T2,fun p L rs rws m τ3 H3 g3 n0 n8 m0 HW l60 T3 tg3 H_=> ?_⟩
  have SC3:∀u,H sc=some u->H3 sc=some u/\τ3 sc=[]:=fun u e=>by
   have e2:=k2 _ _ (s1 _ _ e) (aD e hr0);exact ⟨H_ _ _ e2 (aD e hr0),tg3 _ _ e2⟩
  have nsc:∀u,H sc=some u->sc≠r:=fun u e=>aD e hr0;clear T1 T2 tg3 H_ k2 s1;refine ⟨_,rfl,_,_,_,_,rfl,rfl,dg.of g3.ep,rfl,_,rfl,by omega,by omega,fun D hD=> ?_⟩;rw [Int.toNat_natCast];have sD:=aL (o:=HO.lst []) hD;have XJ:D≠r:=T3.S.ne hD;have TD:=T3.claim (t:=[0]) sD hD ⟨_,aq⟩;have OJ:bL τ3 D [0] D=[0]:=cY;have Ti:∀x u,H3 x=some u->bL τ3 D [0] x=τ3 x:=fun x u e=>bI (aD e hD);generalize bL τ3 D [0]=τd at TD OJ Ti;refine p7 (lo:=0) (n:=m) (fun i σ Hd=>∃(v:Option V) (ns:List Int),σ=[v,some (.ref r)]/\ST τd Hd r/\Hd D=some (.lst (ns.map V.int))/\(∀x∈ns,0<=x/\x<1000)/\ns.length=i/\Kp r H3 Hd) ?_ ?_ ?_
  ·exact ⟨none,[],rfl,TD,aq,by simp,rfl,.of_same sD⟩
  ·rintro i σ Hd hi ⟨v,ns,rfl,Td,RV,od,ld,kd⟩
   dsimp only [iV,En];rw [if_pos rfl];refine ⟨_,rfl,r,1000,rfl,Td.S,by decide,by decide,fun y H4 y0 y1 R4 k4=> ?_⟩;have T4:=Td.draw k4 R4;have Ym:=Td.keep k4 RV (by rw [OJ];simp);refine ⟨_,Ym,(by rw [List.length_map,sizeLine_eq];omega),_,ns++[y],rfl,T4.set Ym (by rw [OJ];simp),by rw [aq,List.map_append];rfl, ?_,by simp [ld],fun x u e n'=>by rw [aF (aD e hD)];exact k4 _ _ (kd _ _ e n') n'⟩;intro x hx;rcases List.mem_append.mp hx with hx|hx
   ·exact od x hx
   ·rw [List.mem_singleton.mp hx];exact ⟨y0,by omega⟩
  rintro σ H4 ⟨v,ns1,rfl,T4,Ym,od,ld,k4⟩
  have g4:Pg τd H4 p L rs rws m:=g3.mv (i:=0) ⟨fun x u e t=>⟨k4 _ _ e (T3.ne (by
   rcases t with t|t
   ·rw [t];simp
   ·intro z;rw [z] at t;cases t)),Ti x u e⟩,T3.S.tups k4⟩
  have SC4:∀u,H sc=some u->H4 sc=some u/\τd sc=[]:=fun u e=>⟨k4 _ _ (SC3 u e).1 (nsc u e),by rw [Ti _ _ (SC3 u e).1];exact (SC3 u e).2⟩;have ok1:ou m ns1:=⟨by rw [ld],od⟩;clear g3 SC3 T3 TD sD Ti k4 od;dsimp only [iV];refine uR (fun σ H'=>∃nv ns,σ=[some (.ref sc),some (.ref r),some (.int pl),some (.ref p),some nv,none,none,none,none,none,none,none]/\H'=H4/\NumV τd H4 nv ns m) (fun D' hD' rt'=> ?_) ?_
  ·refine ⟨_,rfl,rfl,_,rfl,bQ (fun _=> ?_) (fun _=> ?_)⟩
   ·exact hD' _ _ ⟨.non,_,rfl,rfl,Uw m,.inl ⟨rfl,rfl⟩⟩
   ·exact hD' _ _ ⟨.ref D,_,rfl,rfl,ok1,.inr ⟨D,rfl,OJ,Ym⟩⟩
  rintro σ H5 ⟨nv,ns,rfl,rfl,Z1⟩;have good:=Z1.1;clear Ym ok1 OJ hD;refine ⟨_,rfl,_,rfl,_,rfl, ?_⟩;dsimp only [vL];refine (uU (i:=1) (τ:=τd) g4.h (by omega) (by omega) T4.un (by decide) Z1.h fun τ6 W6 H6 w6 Tj s6=> ?_);have T6:=T4.made s6 Tj w6.un;have m6:Mv 0 τd H5 τ6 H6:=Mv.tags s6 Tj;have hl0:(uL m ns rws).hs.length=rws.length:=by show (rws.map _).length=_;rw [List.length_map]
  refine ⟨r,1,τ6,W6,_,rfl,T6,w6,rfl,by rw [hl0];exact n8,fun o l S' H7 ho R ll eo T7 f7=> ?_⟩;have nor:o≠r:=T6.S.ne ho;have m7:Mv 0 τd H5 τ6 H7:=m6.trans (f7.mv T6 (by decide) (by decide));have g7:=g4.mv m7;have Xw:=Z1.mv m7;have SC7:∀u,H sc=some u->H7 sc=some u:=fun u e=>f7.k _ _ (s6 _ _ (SC4 u e).1) (nsc u e) (by rw [Tj _ _ (SC4 u e).1,(SC4 u e).2];simp);have bg:o_ (uL m ns rws):=JQ good.2;have gS':=vU R bg;have hl':S'.hs.length=rws.length:=by rw [(zO R).1,hl0]
  have Ek:S'.ts.length=l.length:=by rw [rT R];show ([]++_).length=_;simp
  clear m6 m7 w6 s6 Tj f7 g4 Z1 T4 SC4 T6 ho;refine ⟨_,rfl,_,rfl,_,rfl,p,L,rs,rws,m,nv,ns,o,l,S',rfl,g7.h,n8,HW,Xw.h,eo,R,by omega,fun a H8 ha W8 s8=> ?_⟩;have RB:a≠r:=T7.S.ne ha;have m8:Mv 0 τ6 H7 τ6 H8:=Mv.of_same s8;refine ⟨_,rfl,_,rfl,_,rfl,p,L,rs,rws,m,nv,ns,o,l,S',rfl,(g7.mv m8).h,n8,HW,(Xw.mv m8).h,s8 _ _ eo,R,by omega,fun E as H9 hE has las rw9 s9=> ?_⟩;have T8:=T7.same s8;have nEr:E≠r:=T8.S.ne hE;have nas:∀q∈as,q≠r:=fun q hq=>T8.S.ne (has q hq);have m9:Mv 0 τ6 H7 τ6 H9:=m8.trans (Mv.of_same s9);refine ⟨_,rfl,_,rfl,_,rfl,5,τ6,p,L,rs,rws,m,nv,ns,o,l,S',rfl,(g7.mv m9).h,n8,HW,(Xw.mv m9).h,s9 _ _ (s8 _ _ eo),R,by omega,(T8.same s9).un,by decide,fun τ W Ha wa tga sa=> ?_⟩;have ma:Mv 0 τ6 H7 τ Ha:=m9.trans (Mv.tags sa tga);have s7a:=(s8.trans s9).trans sa;have LA:Sw ak au r p L rs rws m nv ns o a E as l W S' τ Ha:=⟨(T8.same s9).made sa tga wa.un,g7.mv ma,Xw.mv ma,s7a _ _ eo,(W8.same s9).same sa,rw9.same sa,wa⟩;have SCa:∀u,H sc=some u->Ha sc=some u:=fun u e=>s7a _ _ (SC7 u e);clear m8 m9 ma g7 Xw T7 T8 W8 s8 s9 sa s7a tga wa rw9 has hE ha SC7 eo;obtain ⟨refs,ea,da⟩:=id LA.a;have rl:refs.length=l.length:=by rw [da.length,List.length_map,List.length_map]
  refine ⟨_,rfl,_,_,true,rfl,.lst ea,gP K,true,rfl,iy ?_⟩;refine ⟨_,rfl,a,rfl,⟨_,bH.of ea⟩,fun D1 hD1=> ?_⟩;refine lN (K:=K) (a:=a) (xs:=refs) (fun i=>(l[i]?).map fun t=>V.int (t.k:Int)) hD1 (bH.of ea) (by omega) (fun i x H1' G F hi s1' kG kF=> ?_) (fun Hb sb eb=> ?_)
  ·obtain ⟨d,ed,dx⟩:=da.get hi
   rw [List.getElem?_map,List.getElem?_map] at ed;cases et:l[i]? with
   | none=>rw [et] at ed;cases ed
   | some t=>
     rw [et] at ed;cases ed;obtain ⟨u,rfl,hu⟩:=uf (dx.same s1' _);exact ⟨_,rfl,_,_,_,_,rfl,rfl,dg.of hu,rfl,kF _ _ (Same.refl _) (by rw [et];rfl)⟩
  rw [rl,qQ] at eb;have LB:=LA.same sb;have ekI:∀l':List Tc,tZ l'=(kI l').map V.int:=fun l'=>by unfold tZ kI;rw [List.map_map];rfl
  refine ⟨_,rfl,_,_,gQ (ns:=kI l) (by rw [eb];exact congrArg _ (congrArg _ (ekI l))),gQ (ns:=kI l) (by rw [LB.o,ekI]),shaped_ints _,shaped_ints _,_,rfl, ?_⟩;rw [wI PyData.int Aj,decide_eq_true rfl];refine iy ?_;refine ⟨_,rfl,W.o,W.dx,_,rfl,LB.w.o,⟨5,τ,W,S',rfl,LB.w,_,rfl,by omega,by omega, ?_⟩⟩;refine ⟨_,rfl,o,_,rfl,.inl (bH.of LB.o),rfl,_,rfl, ?_⟩;refine qM (by rw [qL,Ek]) ?_;have SCb:∀u,H sc=some u->Hb sc=some u:=fun u e=>sb _ _ (SCa u e);have sc5:bH K Hb sc (Z4.map V.int):=Lb hs0 SCb;clear LA SCa ea da rl eb sb;unfold K_;dsimp only;refine uR (fun σ H'=>True) (fun D' hD' rt'=> ?_) (fun σ H' _=>k H');refine ⟨_,rfl,sc,_,rfl,.inl sc5,_,_,rfl,_,_,rfl,rfl,_,rfl, ?_, ?_, ?_⟩
  ·rw [List.length_map];split<;>omega
  ·rw [List.length_map];split<;>omega
  generalize ((1:Int)+(if 3<((Z4.map V.int).length:Int) then 3 else ((Z4.map V.int).length:Int))).toNat=stp
  refine lM (lo:=0) (n:=stp) (fun j σ Hc=>∃(x9 x10 x11:Option V),σ=[some (.ref sc),some (.ref r),some (.int pl),some (.ref p),some nv,some (.ref o),some (.ref a),some (.ref E),some (.ref W.o),x9,x10,x11]/\Sw ak au r p L rs rws m nv ns o a E as l W S' τ Hc)
   ⟨none,none,none,rfl,LB⟩ ?_ (fun σ Hc _=>hD' _ _ trivial)
  rintro j σ Hc hj ⟨x9,x10,x11,rfl,LC⟩;clear LB sc5 SCb;have wl:(l.map iU).length=l.length:=List.length_map _;refine ⟨_,rfl,_,rfl,r,a,l.map iU,rfl,LC.T.S,LC.a,by omega,RB,fun c os Hd hc eos lo nd lt kp ncr Sd kd=> ?_⟩;rw [wl] at lo lt;have LD:=LC.kp kd Sd nor RB nEr nas;have O:=Qj nd lo lt kp;obtain ⟨U,_,RU,_,_⟩:=R.other O;have AL:yx S' U:=R.end O (zV nd lo lt) RU;have pln:=Lz lt;refine ⟨_,rfl,c,rfl,⟨_,bH.of eos⟩,fun D2 hD2=> ?_⟩;refine lN (K:=K) (a:=c) (xs:=(nI os).map V.int) (fun i=>((pick l os)[i]?).map fun t=>V.int (t.k:Int)) hD2 (bH.of eos) (by rw [List.length_map,jw];omega) (fun i x H1' G F hi s1' kG kF=> ?_) (fun He se ee=> ?_)
  ·rw [List.getElem?_map] at hi
   cases ei:os[i]? with
   | none=>rw [nI,List.getElem?_map,ei] at hi;cases hi
   | some q=>
     rw [zY ei] at hi;cases hi;have ql:=lt q (List.mem_of_getElem? ei);refine ⟨_,rfl,_,rfl,_,_,_,_,rfl,rfl,bH.of (s1' _ _ LD.o),d_ (j:=q) (v:=V.int (l[q].k:Int)) (by unfold tZ;simp [ql]),kF _ _ (Same.refl _) ?_⟩;rw [Ce lt ei,List.getElem?_eq_getElem ql];rfl
  rw [List.length_map,jw,←pln,qQ] at ee;have ee:He D2=some (.lst (tZ (pick l os))):=ee;have LE:=LD.same se;have Vl:=se _ _ eos;obtain ⟨refs,ea,da⟩:=id LE.a;refine ⟨_,rfl,a,_,rfl,.inl (bH.of ea),fun b hb=> ?_⟩;have sb:=aL (o:=HO.lst refs) hb;have ebb:(upd He b (.lst refs)) b=some (.lst refs):=aq;have WB:iu (upd He b (.lst refs)) b (l.map iU):=⟨refs,ebb,da.same sb _⟩;refine ⟨_,rfl,c,_,rfl,.inl (bH.of (sb _ _ Vl)),fun b2 hb2=> ?_⟩;have ZS:=aL (o:=HO.lst ((nI os).map V.int)) hb2
  have io:t_ (l.map iU).length (nI os)=true:=by
   rw [oX,wl];exact (Cm nd lo lt).map _
  refine ⟨b,b2,l.map iU,nI os,rfl,WB.same ZS,by omega,aq,by rw [jw];omega,io,fun rr Hf iff sf=> ?_⟩
  have rt1:rr=true:=iff.mpr fun k' l' p' q' lt' e1 e2=>by
   unfold nI at e1 e2;rw [List.getElem?_map] at e1 e2;cases h1:os[k']? with
   | none=>rw [h1] at e1;cases e1
   | some u=>
     cases h2:os[l']? with
     | none=>rw [h2] at e2;cases e2
     | some u'=>
       rw [h1] at e1;rw [h2] at e2;cases e1;cases e2;exact kp k' l' u u' lt' h1 h2
  subst rt1;refine ⟨true,true,rfl,rfl,_,rfl,iy ?_⟩;have LF:=LE.same ((sb.trans ZS).trans sf);have eF:Hf D2=some (.lst (tZ (pick l os))):=sf _ _ (ZS _ _ (sb _ _ ee));have cF:Hf c=some (.lst ((nI os).map V.int)):=sf _ _ (ZS _ _ (sb _ _ Vl));clear WB ebb ea da LE ee Vl LD eos;have pl4:(pick l os).length<=400:=by omega
  refine ⟨_,rfl,_,rfl,_,rfl,p,L,rs,rws,m,nv,ns,D2,pick l os,U,rfl,LF.g.h,n8,HW,LF.n.h,eF,RU,pl4,fun E2 as2 Hg hE2 afq aed rw2 sg=> ?_⟩;have LG:=LF.same sg;have d1:=rw2.dat;have d2:=LG.d.dat
  have rq:rW (pick l os) as2.length=rW l as.length:=by
   unfold rW;rw [aed,las];congr 1;refine List.map_congr_left fun h _=> ?_;rw [MF nd lo lt kp]
  rw [rq] at d1;refine ⟨_,rfl,_,_,_,rfl,d1,d2,Lx (by omega) (by omega),fun Hh sh=>⟨_,rfl,iy ?_⟩⟩;have LH:=LG.same sh;have eH:=sh _ _ (sg _ _ eF);have cH:=sh _ _ (sg _ _ cF);clear d1 d2 rq LG LF rw2 afq hE2;refine ⟨_,rfl,_,rfl,_,rfl,p,L,rs,rws,m,nv,ns,D2,pick l os,U,rfl,LH.g.h,n8,HW,LH.n.h,eH,RU,pl4,fun a2 Hi ha2 W2 si=> ?_⟩;have LI':=LH.same si;obtain ⟨refs,ea,da⟩:=id LI'.a;refine ⟨_,rfl,c,rfl,⟨_,bH.of (si _ _ cH)⟩,fun D3 hD3=> ?_⟩;refine lN (K:=K) (a:=c) (xs:=(nI os).map V.int) (fun i=>(os[i]?).bind fun q=>refs[q]?) hD3 (bH.of (si _ _ cH)) (by rw [List.length_map,jw];omega) (fun i x H1' G F hi s1' kG kF=> ?_) (fun Hj sj ej=> ?_)
  ·rw [List.getElem?_map] at hi
   cases ei:os[i]? with
   | none=>rw [nI,List.getElem?_map,ei] at hi;cases hi
   | some q=>
     rw [zY ei] at hi;cases hi;have ql:=lt q (List.mem_of_getElem? ei);have rl:refs.length=l.length:=by rw [da.length,List.length_map,List.length_map]
     have eq:refs[q]? = some refs[q]:=by simp [rl,ql]
     exact ⟨_,rfl,_,rfl,_,_,_,_,rfl,rfl,bH.of (s1' _ _ ea),d_ eq,kF _ _ (Same.refl _) (by rw [ei];exact eq)⟩
  rw [List.length_map,jw] at ej
  have dj:Dat Hj (.ref D3) (.list (((pick l os).map iU).map tD)):=by
   simp only [Dat];refine ⟨D3,_,rfl,ej, ?_⟩;have daj:=da.same sj _
   have gen:∀n,n<=os.length->aO Hj ((List.range n).filterMap fun i=>(os[i]?).bind fun q=>refs[q]?) ((((pick l os).take n).map iU).map tD):=by
    intro n
    induction n with
    | zero=>intro _;simp [aO]
    | succ n ih=>
      intro hn;have en:os[n]? = some os[n]:=by simp
      have ql:=lt _ (List.mem_of_getElem? en);have et:l[os[n]]? = some l[os[n]]:=by simp
      obtain ⟨v,ev,dv⟩:=daj.getD (i:=os[n]) (d:=tD (iU l[os[n]])) (by rw [List.getElem?_map,List.getElem?_map,et];rfl);rw [eY,en,List.take_add_one,Ce lt en,et];show aO Hj (_++(refs[os[n]]?).toList) _;rw [ev,List.map_append,List.map_append];exact jL (ih (by omega)) dv
   have:=gen os.length (Nat.le_refl _);rwa [←pln,List.take_length,pln] at this
  obtain ⟨vs2,e2,dd2⟩:=W2.same sj
  have d2:Dat Hj (.ref a2) (.list (((pick l os).map iU).map tD)):=by
   simp only [Dat];exact ⟨a2,_,rfl,e2,dd2⟩
  refine ⟨_,_,_,rfl,d2,dj,Qd _ (by rw [List.length_map];omega),fun Hk sk=>⟨_,rfl,iy ?_⟩⟩;have LK:=LI'.same (sj.trans sk);have eK:=sk _ _ (sj _ _ (si _ _ eH));clear d2 dj e2 dd2 ej ea da LI' W2 LH;refine ⟨_,rfl,_,rfl,_,rfl,_,rfl,6,τ,p,L,rs,rws,m,nv,ns,D2,pick l os,U,rfl,LK.g.h,n8,HW,LK.n.h,eK,RU,pl4,LK.T.un,by decide,fun τ' W' Hl wl' tgl sl=> ?_⟩;have LL:=LK.same sl;have gU:=vU RU bg;refine ⟨W.o,W'.o,W.dx,W'.dx,_,_,rfl,rfl,LL.w.o,wl'.o,5,6,τ,τ',W,W',_,_,rfl,LL.w,wl',gS',gU,fun Hm sm=> ?_⟩
  have eE:wkE S' U=true:=by
   unfold wkE;rw [←Vy AL];exact Vj (Ge gS' LL.w.G8)
  rw [eE];refine ⟨_,rfl,_,rfl,iy ?_⟩;exact ⟨_,_,_,rfl,LL.same sm⟩
end
theorem len0 {us:List Value} (h:us.length=0):us=[]:=List.eq_nil_of_length_eq_zero h
theorem bN {us:List Value} {n:Nat} (h:us.length=n+1):∃a vs,us=a::vs/\vs.length=n:=by
 cases us with
 | nil=>cases h
 | cons a t=>exact ⟨a,t,rfl,Nat.succ.inj h⟩
theorem Du (kV doc pm:Value) (an:Option Addr) (cdv ct:Value) (us:List Value) (hl:us.length=(["value"]:List Str).length):bindArgs (PySem.W.fnOf "is_whole" "is_whole" (aJ fD) (aH fD) (ao fD) .none kV doc pm an cdv ct) ⟨us,[]⟩=pure ((["value"]:List Str).zip us):=by obtain ⟨_,_,rfl,h1⟩:=bN hl;cases len0 h1;rfl
theorem Dw (kV doc pm:Value) (an:Option Addr) (cdv ct:Value) (us:List Value) (hl:us.length=(["value","count"]:List Str).length):bindArgs (PySem.W.fnOf "is_below" "is_below" (aJ fH) (aH fH) (ao fH) .none kV doc pm an cdv ct) ⟨us,[]⟩=pure ((["value","count"]:List Str).zip us):=by obtain ⟨_,_,rfl,h1⟩:=bN hl;obtain ⟨_,_,rfl,h2⟩:=bN h1;cases len0 h2;rfl
theorem Aw (kV doc pm:Value) (an:Option Addr) (cdv ct:Value) (us:List Value) (hl:us.length=(["self","rows"]:List Str).length):bindArgs (PySem.W.fnOf "__init__" "Hand.__init__" (aJ dY) (aH dY) (ao dY) .none kV doc pm an cdv ct) ⟨us,[]⟩=pure ((["self","rows"]:List Str).zip us):=by obtain ⟨_,_,rfl,h1⟩:=bN hl;obtain ⟨_,_,rfl,h2⟩:=bN h1;cases len0 h2;rfl
theorem Gm (kV doc pm:Value) (an:Option Addr) (cdv ct:Value) (us:List Value) (hl:us.length=(["row"]:List Str).length):bindArgs (PySem.W.fnOf "cell_of" "cell_of" (aJ gw) (aH gw) (ao gw) .none kV doc pm an cdv ct) ⟨us,[]⟩=pure ((["row"]:List Str).zip us):=by obtain ⟨_,_,rfl,h1⟩:=bN hl;cases len0 h1;rfl
theorem jg (kV doc pm:Value) (an:Option Addr) (cdv ct:Value) (us:List Value) (hl:us.length=(["self","part"]:List Str).length):bindArgs (PySem.W.fnOf "value_of" "Hand.value_of" (aJ bY) (aH bY) (ao bY) .none kV doc pm an cdv ct) ⟨us,[]⟩=pure ((["self","part"]:List Str).zip us):=by obtain ⟨_,_,rfl,h1⟩:=bN hl;obtain ⟨_,_,rfl,h2⟩:=bN h1;cases len0 h2;rfl
theorem yg (kV doc pm:Value) (an:Option Addr) (cdv ct:Value) (us:List Value) (hl:us.length=(["self","row"]:List Str).length):bindArgs (PySem.W.fnOf "holds" "Hand.holds" (aJ dF) (aH dF) (ao dF) .none kV doc pm an cdv ct) ⟨us,[]⟩=pure ((["self","row"]:List Str).zip us):=by obtain ⟨_,_,rfl,h1⟩:=bN hl;obtain ⟨_,_,rfl,h2⟩:=bN h1;cases len0 h2;rfl
theorem Av (kV doc pm:Value) (an:Option Addr) (cdv ct:Value) (us:List Value) (hl:us.length=(["self","box","number"]:List Str).length):bindArgs (PySem.W.fnOf "take" "Hand.take" (aJ dX) (aH dX) (ao dX) .none kV doc pm an cdv ct) ⟨us,[]⟩=pure ((["self","box","number"]:List Str).zip us):=by obtain ⟨_,_,rfl,h1⟩:=bN hl;obtain ⟨_,_,rfl,h2⟩:=bN h1;obtain ⟨_,_,rfl,h3⟩:=bN h2;cases len0 h3;rfl
theorem Gp (kV doc pm:Value) (an:Option Addr) (cdv ct:Value) (us:List Value) (hl:us.length=(["self","row"]:List Str).length):bindArgs (PySem.W.fnOf "do" "Hand.do" (aJ gB) (aH gB) (ao gB) .none kV doc pm an cdv ct) ⟨us,[]⟩=pure ((["self","row"]:List Str).zip us):=by obtain ⟨_,_,rfl,h1⟩:=bN hl;obtain ⟨_,_,rfl,h2⟩:=bN h1;cases len0 h2;rfl
theorem uK (kV doc pm:Value) (an:Option Addr) (cdv ct:Value) (us:List Value) (hl:us.length=(["self"]:List Str).length):bindArgs (PySem.W.fnOf "lead_on" "Hand.lead_on" (aJ cO) (aH cO) (ao cO) .none kV doc pm an cdv ct) ⟨us,[]⟩=pure ((["self"]:List Str).zip us):=by obtain ⟨_,_,rfl,h1⟩:=bN hl;cases len0 h1;rfl
theorem tH (kV doc pm:Value) (an:Option Addr) (cdv ct:Value) (us:List Value) (hl:us.length=(["cells","count"]:List Str).length):bindArgs (PySem.W.fnOf "check_numbers" "check_numbers" (aJ cA) (aH cA) (ao cA) .none kV doc pm an cdv ct) ⟨us,[]⟩=pure ((["cells","count"]:List Str).zip us):=by obtain ⟨_,_,rfl,h1⟩:=bN hl;obtain ⟨_,_,rfl,h2⟩:=bN h1;cases len0 h2;rfl
theorem qX (kV doc pm:Value) (an:Option Addr) (cdv ct:Value) (us:List Value) (hl:us.length=(["self","one"]:List Str).length):bindArgs (PySem.W.fnOf "touch_by" "Works.touch_by" (aJ b_) (aH b_) (ao b_) .none kV doc pm an cdv ct) ⟨us,[]⟩=pure ((["self","one"]:List Str).zip us):=by obtain ⟨_,_,rfl,h1⟩:=bN hl;obtain ⟨_,_,rfl,h2⟩:=bN h1;cases len0 h2;rfl
theorem tM (kV doc pm:Value) (an:Option Addr) (cdv ct:Value) (us:List Value) (hl:us.length=(["self","hand"]:List Str).length):bindArgs (PySem.W.fnOf "hand_of" "Works.hand_of" (aJ cC) (aH cC) (ao cC) .none kV doc pm an cdv ct) ⟨us,[]⟩=pure ((["self","hand"]:List Str).zip us):=by obtain ⟨_,_,rfl,h1⟩:=bN hl;obtain ⟨_,_,rfl,h2⟩:=bN h1;cases len0 h2;rfl
theorem yd (kV doc pm:Value) (an:Option Addr) (cdv ct:Value) (us:List Value) (hl:us.length=(["self","hand"]:List Str).length):bindArgs (PySem.W.fnOf "turn" "Works.turn" (aJ dD) (aH dD) (ao dD) .none kV doc pm an cdv ct) ⟨us,[]⟩=pure ((["self","hand"]:List Str).zip us):=by obtain ⟨_,_,rfl,h1⟩:=bN hl;obtain ⟨_,_,rfl,h2⟩:=bN h1;cases len0 h2;rfl
theorem xq {K:PySem.W.Frag} {T:Addr} {tc:Value} {td:Option Addr} {tn:Nat} {Ek:Array (Option Value)} (d:K.lookup T=some ⟨tc,td,.seq #[.none] tn,Ek⟩) {kV doc pm:Value} {an:Option Addr} {cdv ct:Value}:Binds K (PySem.W.fnOf "__init__" "Works.__init__" (aJ bO) (aH bO) (ao bO) (.ref T) kV doc pm an cdv ct) ["self","program","cells"] []:=by
 intro s us KX hl;have hl:us.length=3:=by simpa using hl
 obtain ⟨_,_,rfl,h1⟩:=bN hl;obtain ⟨_,_,rfl,h2⟩:=bN h1;obtain ⟨_,_,rfl,h3⟩:=bN h2;cases len0 h3;exact PySem.W.binds_K KX rfl d rfl rfl rfl
theorem wZ {K:PySem.W.Frag} {T:Addr} {tc:Value} {td:Option Addr} {tn:Nat} {Ek:Array (Option Value)} (d:K.lookup T=some ⟨tc,td,.seq #[.none] tn,Ek⟩) {kV doc pm:Value} {an:Option Addr} {cdv ct:Value}:Binds K (PySem.W.fnOf "__init__" "Works.__init__" (aJ bO) (aH bO) (ao bO) (.ref T) kV doc pm an cdv ct) ["self","program","cells"] [.none]:=by
 intro s us KX hl;have hl:us.length=2:=by simpa using hl
 obtain ⟨_,_,rfl,h1⟩:=bN hl;obtain ⟨_,_,rfl,h2⟩:=bN h1;cases len0 h2;exact PySem.W.binds_K KX rfl d rfl rfl rfl
theorem wY {K:PySem.W.Frag} {T:Addr} {tc:Value} {td:Option Addr} {tn:Nat} {Ek:Array (Option Value)} (d:K.lookup T=some ⟨tc,td,.seq #[.none] tn,Ek⟩) {kV doc pm:Value} {an:Option Addr} {cdv ct:Value} (s:Shared) (us:List Value) (z:Value) (KX:K.In s.heap) (hl:(us++[z]).length=(["self","program","cells"]:List Str).length):BindsTo s (PySem.W.fnOf "__init__" "Works.__init__" (aJ bO) (aH bO) (ao bO) (.ref T) kV doc pm an cdv ct) ⟨us,[("cells",z)]⟩ ((["self","program","cells"]:List Str).zip (us++[z])):=by
 have hl:us.length=2:=by simpa using hl
 obtain ⟨_,_,rfl,h1⟩:=bN hl;obtain ⟨_,_,rfl,h2⟩:=bN h1;cases len0 h2;exact PySem.W.binds_K KX rfl d rfl rfl rfl
theorem wW (kV doc pm:Value) (an:Option Addr) (cdv ct:Value) (us:List Value) (hl:us.length=(["self"]:List Str).length):bindArgs (PySem.W.fnOf "cells" "Works.cells" (aJ cQ) (aH cQ) (ao cQ) .none kV doc pm an cdv ct) ⟨us,[]⟩=pure ((["self"]:List Str).zip us):=by obtain ⟨_,_,rfl,h1⟩:=bN hl;cases len0 h1;rfl
theorem Ar (kV doc pm:Value) (an:Option Addr) (cdv ct:Value) (us:List Value) (hl:us.length=(["self","hand"]:List Str).length):bindArgs (PySem.W.fnOf "how" "Works.how" (aJ dW) (aH dW) (ao dW) .none kV doc pm an cdv ct) ⟨us,[]⟩=pure ((["self","hand"]:List Str).zip us):=by obtain ⟨_,_,rfl,h1⟩:=bN hl;obtain ⟨_,_,rfl,h2⟩:=bN h1;cases len0 h2;rfl
theorem uH (kV doc pm:Value) (an:Option Addr) (cdv ct:Value) (us:List Value) (hl:us.length=(["self"]:List Str).length):bindArgs (PySem.W.fnOf "counts" "Works.counts" (aJ cL) (aH cL) (ao cL) .none kV doc pm an cdv ct) ⟨us,[]⟩=pure ((["self"]:List Str).zip us):=by obtain ⟨_,_,rfl,h1⟩:=bN hl;cases len0 h1;rfl
theorem tO (kV doc pm:Value) (an:Option Addr) (cdv ct:Value) (us:List Value) (hl:us.length=(["self"]:List Str).length):bindArgs (PySem.W.fnOf "__len__" "Works.__len__" (aJ cD) (aH cD) (ao cD) .none kV doc pm an cdv ct) ⟨us,[]⟩=pure ((["self"]:List Str).zip us):=by obtain ⟨_,_,rfl,h1⟩:=bN hl;cases len0 h1;rfl
theorem uJ (kV doc pm:Value) (an:Option Addr) (cdv ct:Value) (us:List Value) (hl:us.length=(["self"]:List Str).length):bindArgs (PySem.W.fnOf "picture" "Hand.picture" (aJ cN) (aH cN) (ao cN) .none kV doc pm an cdv ct) ⟨us,[]⟩=pure ((["self"]:List Str).zip us):=by obtain ⟨_,_,rfl,h1⟩:=bN hl;cases len0 h1;rfl
theorem tK (kV doc pm:Value) (an:Option Addr) (cdv ct:Value) (us:List Value) (hl:us.length=(["self"]:List Str).length):bindArgs (PySem.W.fnOf "picture" "Works.picture" (aJ cB) (aH cB) (ao cB) .none kV doc pm an cdv ct) ⟨us,[]⟩=pure ((["self"]:List Str).zip us):=by obtain ⟨_,_,rfl,h1⟩:=bN hl;cases len0 h1;rfl
theorem uI (kV doc pm:Value) (an:Option Addr) (cdv ct:Value) (us:List Value) (hl:us.length=(["self","other"]:List Str).length):bindArgs (PySem.W.fnOf "__eq__" "Works.__eq__" (aJ cM) (aH cM) (ao cM) .none kV doc pm an cdv ct) ⟨us,[]⟩=pure ((["self","other"]:List Str).zip us):=by obtain ⟨_,_,rfl,h1⟩:=bN hl;obtain ⟨_,_,rfl,h2⟩:=bN h1;cases len0 h2;rfl
theorem uG (kV doc pm:Value) (an:Option Addr) (cdv ct:Value) (us:List Value) (hl:us.length=(["one","other"]:List Str).length):bindArgs (PySem.W.fnOf "touches_meet" "touches_meet" (aJ cJ) (aH cJ) (ao cJ) .none kV doc pm an cdv ct) ⟨us,[]⟩=pure ((["one","other"]:List Str).zip us):=by obtain ⟨_,_,rfl,h1⟩:=bN hl;obtain ⟨_,_,rfl,h2⟩:=bN h1;cases len0 h2;rfl
theorem Gk (kV doc pm:Value) (an:Option Addr) (cdv ct:Value) (us:List Value) (hl:us.length=(["web","place","later"]:List Str).length):bindArgs (PySem.W.fnOf "is_step" "is_step" (aJ gq) (aH gq) (ao gq) .none kV doc pm an cdv ct) ⟨us,[]⟩=pure ((["web","place","later"]:List Str).zip us):=by obtain ⟨_,_,rfl,h1⟩:=bN hl;obtain ⟨_,_,rfl,h2⟩:=bN h1;obtain ⟨_,_,rfl,h3⟩:=bN h2;cases len0 h3;rfl
theorem Dv (kV doc pm:Value) (an:Option Addr) (cdv ct:Value) (us:List Value) (hl:us.length=(["web","order"]:List Str).length):bindArgs (PySem.W.fnOf "is_order" "is_order" (aJ fG) (aH fG) (ao fG) .none kV doc pm an cdv ct) ⟨us,[]⟩=pure ((["web","order"]:List Str).zip us):=by obtain ⟨_,_,rfl,h1⟩:=bN hl;obtain ⟨_,_,rfl,h2⟩:=bN h1;cases len0 h2;rfl
theorem Dt (kV doc pm:Value) (an:Option Addr) (cdv ct:Value) (us:List Value) (hl:us.length=(["web","order"]:List Str).length):bindArgs (PySem.W.fnOf "same_run" "same_run" (aJ fB) (aH fB) (ao fB) .none kV doc pm an cdv ct) ⟨us,[]⟩=pure ((["web","order"]:List Str).zip us):=by obtain ⟨_,_,rfl,h1⟩:=bN hl;obtain ⟨_,_,rfl,h2⟩:=bN h1;cases len0 h2;rfl
theorem Gq {K:PySem.W.Frag} {T:Addr} {tc:Value} {td:Option Addr} {tn:Nat} {Ek:Array (Option Value)} (d:K.lookup T=some ⟨tc,td,.seq #[.none] tn,Ek⟩) {kV doc pm:Value} {an:Option Addr} {cdv ct:Value}:Binds K (PySem.W.fnOf "web_of" "web_of" (aJ iB) (aH iB) (ao iB) (.ref T) kV doc pm an cdv ct) ["program","order","cells"] []:=by
 intro s us KX hl;have hl:us.length=3:=by simpa using hl
 obtain ⟨_,_,rfl,h1⟩:=bN hl;obtain ⟨_,_,rfl,h2⟩:=bN h1;obtain ⟨_,_,rfl,h3⟩:=bN h2;cases len0 h3;exact PySem.W.binds_K KX rfl d rfl rfl rfl
theorem xg {K:PySem.W.Frag} {T:Addr} {tc:Value} {td:Option Addr} {tn:Nat} {Ek:Array (Option Value)} (d:K.lookup T=some ⟨tc,td,.seq #[.none] tn,Ek⟩) {kV doc pm:Value} {an:Option Addr} {cdv ct:Value}:Binds K (PySem.W.fnOf "touches_of" "touches_of" (aJ dB) (aH dB) (ao dB) (.ref T) kV doc pm an cdv ct) ["program","order","cells"] []:=by
 intro s us KX hl;have hl:us.length=3:=by simpa using hl
 obtain ⟨_,_,rfl,h1⟩:=bN hl;obtain ⟨_,_,rfl,h2⟩:=bN h1;obtain ⟨_,_,rfl,h3⟩:=bN h2;cases len0 h3;exact PySem.W.binds_K KX rfl d rfl rfl rfl
theorem Gn (kV doc pm:Value) (an:Option Addr) (cdv ct:Value) (us:List Value) (hl:us.length=(["script"]:List Str).length):bindArgs (PySem.W.fnOf "_law_spring" "_law_spring" (aJ gA) (aH gA) (ao gA) .none kV doc pm an cdv ct) ⟨us,[]⟩=pure ((["script"]:List Str).zip us):=by obtain ⟨_,_,rfl,h1⟩:=bN hl;cases len0 h1;rfl
theorem Ol (kV doc pm:Value) (an:Option Addr) (cdv ct:Value) (us:List Value) (hl:us.length=(["spring","many"]:List Str).length):bindArgs (PySem.W.fnOf "_law_draw" "_law_draw" (aJ jH) (aH jH) (ao jH) .none kV doc pm an cdv ct) ⟨us,[]⟩=pure ((["spring","many"]:List Str).zip us):=by obtain ⟨_,_,rfl,h1⟩:=bN hl;obtain ⟨_,_,rfl,h2⟩:=bN h1;cases len0 h2;rfl
theorem J9 (kV doc pm:Value) (an:Option Addr) (cdv ct:Value) (us:List Value) (hl:us.length=(["spring","boxes"]:List Str).length):bindArgs (PySem.W.fnOf "_law_value" "_law_value" (aJ iD) (aH iD) (ao iD) .none kV doc pm an cdv ct) ⟨us,[]⟩=pure ((["spring","boxes"]:List Str).zip us):=by obtain ⟨_,_,rfl,h1⟩:=bN hl;obtain ⟨_,_,rfl,h2⟩:=bN h1;cases len0 h2;rfl
theorem J8 (kV doc pm:Value) (an:Option Addr) (cdv ct:Value) (us:List Value) (hl:us.length=(["spring","boxes"]:List Str).length):bindArgs (PySem.W.fnOf "_law_worth" "_law_worth" (aJ iC) (aH iC) (ao iC) .none kV doc pm an cdv ct) ⟨us,[]⟩=pure ((["spring","boxes"]:List Str).zip us):=by obtain ⟨_,_,rfl,h1⟩:=bN hl;obtain ⟨_,_,rfl,h2⟩:=bN h1;cases len0 h2;rfl
theorem Oi (kV doc pm:Value) (an:Option Addr) (cdv ct:Value) (us:List Value) (hl:us.length=(["spring","room","boxes","many"]:List Str).length):bindArgs (PySem.W.fnOf "_law_line" "_law_line" (aJ jF) (aH jF) (ao jF) .none kV doc pm an cdv ct) ⟨us,[]⟩=pure ((["spring","room","boxes","many"]:List Str).zip us):=by obtain ⟨_,_,rfl,h1⟩:=bN hl;obtain ⟨_,_,rfl,h2⟩:=bN h1;obtain ⟨_,_,rfl,h3⟩:=bN h2;obtain ⟨_,_,rfl,h4⟩:=bN h3;cases len0 h4;rfl
theorem Dy (kV doc pm:Value) (an:Option Addr) (cdv ct:Value) (us:List Value) (hl:us.length=(["spring"]:List Str).length):bindArgs (PySem.W.fnOf "_law_program" "_law_program" (aJ fJ) (aH fJ) (ao fJ) .none kV doc pm an cdv ct) ⟨us,[]⟩=pure ((["spring"]:List Str).zip us):=by obtain ⟨_,_,rfl,h1⟩:=bN hl;cases len0 h1;rfl
theorem J_ (kV doc pm:Value) (an:Option Addr) (cdv ct:Value) (us:List Value) (hl:us.length=(["spring","works"]:List Str).length):bindArgs (PySem.W.fnOf "_law_order" "_law_order" (aJ iG) (aH iG) (ao iG) .none kV doc pm an cdv ct) ⟨us,[]⟩=pure ((["spring","works"]:List Str).zip us):=by obtain ⟨_,_,rfl,h1⟩:=bN hl;obtain ⟨_,_,rfl,h2⟩:=bN h1;cases len0 h2;rfl
theorem Ka (kV doc pm:Value) (an:Option Addr) (cdv ct:Value) (us:List Value) (hl:us.length=(["one","other"]:List Str).length):bindArgs (PySem.W.fnOf "_law_meets" "_law_meets" (aJ iH) (aH iH) (ao iH) .none kV doc pm an cdv ct) ⟨us,[]⟩=pure ((["one","other"]:List Str).zip us):=by obtain ⟨_,_,rfl,h1⟩:=bN hl;obtain ⟨_,_,rfl,h2⟩:=bN h1;cases len0 h2;rfl
theorem Oh (kV doc pm:Value) (an:Option Addr) (cdv ct:Value) (us:List Value) (hl:us.length=(["one","other"]:List Str).length):bindArgs (PySem.W.fnOf "_law_step" "_law_step" (aJ jE) (aH jE) (ao jE) .none kV doc pm an cdv ct) ⟨us,[]⟩=pure ((["one","other"]:List Str).zip us):=by obtain ⟨_,_,rfl,h1⟩:=bN hl;obtain ⟨_,_,rfl,h2⟩:=bN h1;cases len0 h2;rfl
theorem wX (kV doc pm:Value) (an:Option Addr) (cdv ct:Value) (us:List Value) (hl:us.length=(["spring","web"]:List Str).length):bindArgs (PySem.W.fnOf "_law_free_order" "_law_free_order" (aJ cR) (aH cR) (ao cR) .none kV doc pm an cdv ct) ⟨us,[]⟩=pure ((["spring","web"]:List Str).zip us):=by obtain ⟨_,_,rfl,h1⟩:=bN hl;obtain ⟨_,_,rfl,h2⟩:=bN h1;cases len0 h2;rfl
theorem oH (kV doc pm:Value) (an:Option Addr) (cdv ct:Value) (us:List Value) (hl:us.length=(["found","due"]:List Str).length):bindArgs (PySem.W.fnOf "_law_same" "_law_same" (aJ jj) (aH jj) (ao jj) .none kV doc pm an cdv ct) ⟨us,[]⟩=pure ((["found","due"]:List Str).zip us):=by obtain ⟨_,_,rfl,h1⟩:=bN hl;obtain ⟨_,_,rfl,h2⟩:=bN h1;cases len0 h2;rfl
theorem Oj (kV doc pm:Value) (an:Option Addr) (cdv ct:Value) (us:List Value) (hl:us.length=(["program","order","numbers"]:List Str).length):bindArgs (PySem.W.fnOf "_law_gone" "_law_gone" (aJ jG) (aH jG) (ao jG) .none kV doc pm an cdv ct) ⟨us,[]⟩=pure ((["program","order","numbers"]:List Str).zip us):=by obtain ⟨_,_,rfl,h1⟩:=bN hl;obtain ⟨_,_,rfl,h2⟩:=bN h1;obtain ⟨_,_,rfl,h3⟩:=bN h2;cases len0 h3;rfl
theorem all_mk {l:PySem.W.OpenLaw} {w:World} {K:PySem.W.Frag} {h:Heap} {mg:Str->Option Value} {fa f0 f1 f2 f3 f4 f5 f6 f7 f8 f9 Wh f11 Yx R0 Yw Yv Yu Yt Ys Yr Yq f21 f22 f23 f24 Yp Yo f27 f28 f29 f30 f31 f32 f33 f34 f35 f36 RZ f38 f39 au ak aW bD dG:Addr} (X:K.In h) (G:h.Ns mainGlobals mg) (hfa:mg "law" = some (.ref fa))
 {od0 an0 od1 an1 od2 an2 od3 an3 od4 an4 od5 an5 od6 an6 od7 an7 od8 an8 od9 an9 ado aht adn ahs adl ahr adk ahq adi ahp adh aho adg ahn adf ahm ade ahl adb ahk ada ahj ac' ahi ac_ ahh ac9 ahg ac8 ahf ac7 ahe ac6 ahd ac5 ahc ac4 ahb ac3 aha ac2 ag' ac1 ag9 ac0 ag8 acZ ag7 acY ag6 acX ag5 acW ag4 acV ag3 acU ag2 acT Zn:Option Addr} {sl0 W_ sl2 Py W9 sl5 sl6 sl7 O1 sl9 ab4 ab3 ab2 ab1 ab0 abZ abY abX abW abV abU abT abS abR abQ abP abO abN abM abL abK abJ abI abH abG abF abE abD abC abB:Array (Option Value)} {oc0 kV0 dc0 pm0 cd0 ct0 oc1 kV1 dc1 pm1 cd1 ct1 oc2 kV2 dc2 pm2 cd2 ct2 oc3 kV3 dc3 pm3 cd3 ct3 oc4 kV4 dc4 pm4 cd4 ct4 oc5 kV5 dc5 pm5 cd5 ct5 oc6 kV6 dc6 pm6 cd6 ct6 oc7 kV7 dc7 pm7 cd7 ct7 oc8 kV8 dc8 pm8 cd8 ct8 oc9 kV9 dc9 pm9 cd9 ct9 adU afc af7 acO Zg agz adT afb af6 acN Zf agy adS afa af5 acM Ze agx adR ae' af4 acL Zd agw adQ ae_ af3 acK Zc agv adP ae9 af2 acJ Zb agu adO ae8 af0 acI Za agt adN ae7 afZ acH Y_ ags adM ae6 afY acG Y9 agr adL ae5 afX acF Y8 agq adK ae4 afW acE Y7 agp adJ ae3 afV acD Y6 ago adI ae2 afU acC Y5 agn adH ae1 afT acB Y4 agm adG ae0 afS acA Y0 agl adF aeZ afR acz YZ agk adE aeY afQ acy YX agj adD aeX afP acw YW agi adC aeW afO acv YT agh adB aeV afN acu YS agg adA aeU afM acs YQ agf adz aeT afL acr YM agd ady aeS afK acq YL agc adx aeR afJ acp YK agb adw aeQ afI aco YJ aga adv aeP afH acn YH af' adu aeO afG acj YG af_ adt aeN afF aci YF af9 adq aeM afE ach YD af8 adp X3 Yy Xm Vs Yz:Value}
 (a0:PySem.W.nsIn K mainGlobals "is_whole" = some (some (.ref f0))) (l0:K.lookup f0=some ⟨oc0,od0,.func (PySem.W.fnOf "is_whole" "is_whole" (aJ fD) (aH fD) (ao fD) .none kV0 dc0 pm0 an0 cd0 ct0),sl0⟩) (c0:PySem.W.codeIn K cd0 "is_whole" = true) (k0:PySem.W.keepIn K (.ref f0)=true)
 (a1:PySem.W.nsIn K mainGlobals "is_below" = some (some (.ref f1))) (l1:K.lookup f1=some ⟨oc1,od1,.func (PySem.W.fnOf "is_below" "is_below" (aJ fH) (aH fH) (ao fH) .none kV1 dc1 pm1 an1 cd1 ct1),W_⟩) (c1:PySem.W.codeIn K cd1 "is_below" = true) (k1:PySem.W.keepIn K (.ref f1)=true)
 (a2:PySem.W.findIn K (.ref au) "__init__" = some (some (.ref f2))) (l2:K.lookup f2=some ⟨oc2,od2,.func (PySem.W.fnOf "__init__" "Hand.__init__" (aJ dY) (aH dY) (ao dY) .none kV2 dc2 pm2 an2 cd2 ct2),sl2⟩) (c2:PySem.W.codeIn K cd2 "Hand.__init__" = true) (k2:PySem.W.keepIn K (.ref f2)=true) (n2:PySem.W.isFn K (.ref f2)=true)
 (a3:PySem.W.nsIn K mainGlobals "cell_of" = some (some (.ref f3))) (l3:K.lookup f3=some ⟨oc3,od3,.func (PySem.W.fnOf "cell_of" "cell_of" (aJ gw) (aH gw) (ao gw) .none kV3 dc3 pm3 an3 cd3 ct3),Py⟩) (c3:PySem.W.codeIn K cd3 "cell_of" = true) (k3:PySem.W.keepIn K (.ref f3)=true)
 (a4:PySem.W.findIn K (.ref au) "value_of" = some (some (.ref f4))) (l4:K.lookup f4=some ⟨oc4,od4,.func (PySem.W.fnOf "value_of" "Hand.value_of" (aJ bY) (aH bY) (ao bY) .none kV4 dc4 pm4 an4 cd4 ct4),W9⟩) (c4:PySem.W.codeIn K cd4 "Hand.value_of" = true) (k4:PySem.W.keepIn K (.ref f4)=true) (n4:PySem.W.isFn K (.ref f4)=true)
 (a5:PySem.W.findIn K (.ref au) "holds" = some (some (.ref f5))) (l5:K.lookup f5=some ⟨oc5,od5,.func (PySem.W.fnOf "holds" "Hand.holds" (aJ dF) (aH dF) (ao dF) .none kV5 dc5 pm5 an5 cd5 ct5),sl5⟩) (c5:PySem.W.codeIn K cd5 "Hand.holds" = true) (k5:PySem.W.keepIn K (.ref f5)=true) (n5:PySem.W.isFn K (.ref f5)=true)
 (a6:PySem.W.findIn K (.ref au) "take" = some (some (.ref f6))) (l6:K.lookup f6=some ⟨oc6,od6,.func (PySem.W.fnOf "take" "Hand.take" (aJ dX) (aH dX) (ao dX) .none kV6 dc6 pm6 an6 cd6 ct6),sl6⟩) (c6:PySem.W.codeIn K cd6 "Hand.take" = true) (k6:PySem.W.keepIn K (.ref f6)=true) (n6:PySem.W.isFn K (.ref f6)=true)
 (a7:PySem.W.findIn K (.ref au) "do" = some (some (.ref f7))) (l7:K.lookup f7=some ⟨oc7,od7,.func (PySem.W.fnOf "do" "Hand.do" (aJ gB) (aH gB) (ao gB) .none kV7 dc7 pm7 an7 cd7 ct7),sl7⟩) (c7:PySem.W.codeIn K cd7 "Hand.do" = true) (k7:PySem.W.keepIn K (.ref f7)=true) (n7:PySem.W.isFn K (.ref f7)=true)
 (a8:PySem.W.findIn K (.ref au) "lead_on" = some (some (.ref f8))) (l8:K.lookup f8=some ⟨oc8,od8,.func (PySem.W.fnOf "lead_on" "Hand.lead_on" (aJ cO) (aH cO) (ao cO) .none kV8 dc8 pm8 an8 cd8 ct8),O1⟩) (c8:PySem.W.codeIn K cd8 "Hand.lead_on" = true) (k8:PySem.W.keepIn K (.ref f8)=true) (n8:PySem.W.isFn K (.ref f8)=true)
 (a9:PySem.W.nsIn K mainGlobals "check_numbers" = some (some (.ref f9))) (l9:K.lookup f9=some ⟨oc9,od9,.func (PySem.W.fnOf "check_numbers" "check_numbers" (aJ cA) (aH cA) (ao cA) .none kV9 dc9 pm9 an9 cd9 ct9),sl9⟩) (c9:PySem.W.codeIn K cd9 "check_numbers" = true) (k9:PySem.W.keepIn K (.ref f9)=true)
 (a10:PySem.W.findIn K (.ref ak) "touch_by" = some (some (.ref Wh))) (l10:K.lookup Wh=some ⟨adU,ado,.func (PySem.W.fnOf "touch_by" "Works.touch_by" (aJ b_) (aH b_) (ao b_) .none afc af7 acO aht Zg agz),ab4⟩) (c10:PySem.W.codeIn K Zg "Works.touch_by" = true) (k10:PySem.W.keepIn K (.ref Wh)=true) (n10:PySem.W.isFn K (.ref Wh)=true)
 (a11:PySem.W.findIn K (.ref ak) "hand_of" = some (some (.ref f11))) (l11:K.lookup f11=some ⟨adT,adn,.func (PySem.W.fnOf "hand_of" "Works.hand_of" (aJ cC) (aH cC) (ao cC) .none afb af6 acN ahs Zf agy),ab3⟩) (c11:PySem.W.codeIn K Zf "Works.hand_of" = true) (k11:PySem.W.keepIn K (.ref f11)=true) (n11:PySem.W.isFn K (.ref f11)=true)
 (a12:PySem.W.findIn K (.ref ak) "turn" = some (some (.ref Yx))) (l12:K.lookup Yx=some ⟨adS,adl,.func (PySem.W.fnOf "turn" "Works.turn" (aJ dD) (aH dD) (ao dD) .none afa af5 acM ahr Ze agx),ab2⟩) (c12:PySem.W.codeIn K Ze "Works.turn" = true) (k12:PySem.W.keepIn K (.ref Yx)=true) (n12:PySem.W.isFn K (.ref Yx)=true)
 {T13:Addr} {abp:Value} {abm:Option Addr} {abh:Nat} {Wy:Array (Option Value)} (a13:PySem.W.findIn K (.ref ak) "__init__" = some (some (.ref R0))) (l13:K.lookup R0=some ⟨adR,adk,.func (PySem.W.fnOf "__init__" "Works.__init__" (aJ bO) (aH bO) (ao bO) (.ref T13) ae' af4 acL ahq Zd agw),ab1⟩) (c13:PySem.W.codeIn K Zd "Works.__init__" = true) (k13:PySem.W.keepIn K (.ref R0)=true) (n13:PySem.W.isFn K (.ref R0)=true) (Wj:K.lookup T13=some ⟨abp,abm,.seq #[.none] abh,Wy⟩)
 (a14:PySem.W.findIn K (.ref ak) "cells" = some (some (.ref Yw))) (l14:K.lookup Yw=some ⟨adQ,adi,.func (PySem.W.fnOf "cells" "Works.cells" (aJ cQ) (aH cQ) (ao cQ) .none ae_ af3 acK ahp Zc agv),ab0⟩) (c14:PySem.W.codeIn K Zc "Works.cells" = true) (k14:PySem.W.keepIn K (.ref Yw)=true) (n14:PySem.W.isFn K (.ref Yw)=true)
 (a15:PySem.W.findIn K (.ref ak) "how" = some (some (.ref Yv))) (l15:K.lookup Yv=some ⟨adP,adh,.func (PySem.W.fnOf "how" "Works.how" (aJ dW) (aH dW) (ao dW) .none ae9 af2 acJ aho Zb agu),abZ⟩) (c15:PySem.W.codeIn K Zb "Works.how" = true) (k15:PySem.W.keepIn K (.ref Yv)=true) (n15:PySem.W.isFn K (.ref Yv)=true)
 (a16:PySem.W.findIn K (.ref ak) "counts" = some (some (.ref Yu))) (l16:K.lookup Yu=some ⟨adO,adg,.func (PySem.W.fnOf "counts" "Works.counts" (aJ cL) (aH cL) (ao cL) .none ae8 af0 acI ahn Za agt),abY⟩) (c16:PySem.W.codeIn K Za "Works.counts" = true) (k16:PySem.W.keepIn K (.ref Yu)=true) (n16:PySem.W.isFn K (.ref Yu)=true)
 (a17:PySem.W.findIn K (.ref ak) "__len__" = some (some (.ref Yt))) (l17:K.lookup Yt=some ⟨adN,adf,.func (PySem.W.fnOf "__len__" "Works.__len__" (aJ cD) (aH cD) (ao cD) .none ae7 afZ acH ahm Y_ ags),abX⟩) (c17:PySem.W.codeIn K Y_ "Works.__len__" = true) (k17:PySem.W.keepIn K (.ref Yt)=true) (n17:PySem.W.isFn K (.ref Yt)=true)
 (a18:PySem.W.findIn K (.ref au) "picture" = some (some (.ref Ys))) (l18:K.lookup Ys=some ⟨adM,ade,.func (PySem.W.fnOf "picture" "Hand.picture" (aJ cN) (aH cN) (ao cN) .none ae6 afY acG ahl Y9 agr),abW⟩) (c18:PySem.W.codeIn K Y9 "Hand.picture" = true) (k18:PySem.W.keepIn K (.ref Ys)=true) (n18:PySem.W.isFn K (.ref Ys)=true)
 (a19:PySem.W.findIn K (.ref ak) "picture" = some (some (.ref Yr))) (l19:K.lookup Yr=some ⟨adL,adb,.func (PySem.W.fnOf "picture" "Works.picture" (aJ cB) (aH cB) (ao cB) .none ae5 afX acF ahk Y8 agq),abV⟩) (c19:PySem.W.codeIn K Y8 "Works.picture" = true) (k19:PySem.W.keepIn K (.ref Yr)=true) (n19:PySem.W.isFn K (.ref Yr)=true)
 (a20:PySem.W.findIn K (.ref ak) "__eq__" = some (some (.ref Yq))) (l20:K.lookup Yq=some ⟨adK,ada,.func (PySem.W.fnOf "__eq__" "Works.__eq__" (aJ cM) (aH cM) (ao cM) .none ae4 afW acE ahj Y7 agp),abU⟩) (c20:PySem.W.codeIn K Y7 "Works.__eq__" = true) (k20:PySem.W.keepIn K (.ref Yq)=true) (n20:PySem.W.isFn K (.ref Yq)=true)
 (a21:PySem.W.nsIn K mainGlobals "touches_meet" = some (some (.ref f21))) (l21:K.lookup f21=some ⟨adJ,ac',.func (PySem.W.fnOf "touches_meet" "touches_meet" (aJ cJ) (aH cJ) (ao cJ) .none ae3 afV acD ahi Y6 ago),abT⟩) (c21:PySem.W.codeIn K Y6 "touches_meet" = true) (k21:PySem.W.keepIn K (.ref f21)=true)
 (a22:PySem.W.nsIn K mainGlobals "is_step" = some (some (.ref f22))) (l22:K.lookup f22=some ⟨adI,ac_,.func (PySem.W.fnOf "is_step" "is_step" (aJ gq) (aH gq) (ao gq) .none ae2 afU acC ahh Y5 agn),abS⟩) (c22:PySem.W.codeIn K Y5 "is_step" = true) (k22:PySem.W.keepIn K (.ref f22)=true)
 (a23:PySem.W.nsIn K mainGlobals "is_order" = some (some (.ref f23))) (l23:K.lookup f23=some ⟨adH,ac9,.func (PySem.W.fnOf "is_order" "is_order" (aJ fG) (aH fG) (ao fG) .none ae1 afT acB ahg Y4 agm),abR⟩) (c23:PySem.W.codeIn K Y4 "is_order" = true) (k23:PySem.W.keepIn K (.ref f23)=true)
 (a24:PySem.W.nsIn K mainGlobals "same_run" = some (some (.ref f24))) (l24:K.lookup f24=some ⟨adG,ac8,.func (PySem.W.fnOf "same_run" "same_run" (aJ fB) (aH fB) (ao fB) .none ae0 afS acA ahf Y0 agl),abQ⟩) (c24:PySem.W.codeIn K Y0 "same_run" = true) (k24:PySem.W.keepIn K (.ref f24)=true)
 {T25:Addr} {abo:Value} {abl:Option Addr} {abg:Nat} {Wx:Array (Option Value)} (a25:PySem.W.nsIn K mainGlobals "web_of" = some (some (.ref Yp))) (l25:K.lookup Yp=some ⟨adF,ac7,.func (PySem.W.fnOf "web_of" "web_of" (aJ iB) (aH iB) (ao iB) (.ref T25) aeZ afR acz ahe YZ agk),abP⟩) (c25:PySem.W.codeIn K YZ "web_of" = true) (k25:PySem.W.keepIn K (.ref Yp)=true) (d25:K.lookup T25=some ⟨abo,abl,.seq #[.none] abg,Wx⟩)
 {T26:Addr} {abn:Value} {abk:Option Addr} {abf:Nat} {Ww:Array (Option Value)} (a26:PySem.W.nsIn K mainGlobals "touches_of" = some (some (.ref Yo))) (l26:K.lookup Yo=some ⟨adE,ac6,.func (PySem.W.fnOf "touches_of" "touches_of" (aJ dB) (aH dB) (ao dB) (.ref T26) aeY afQ acy ahd YX agj),abO⟩) (c26:PySem.W.codeIn K YX "touches_of" = true) (k26:PySem.W.keepIn K (.ref Yo)=true) (d26:K.lookup T26=some ⟨abn,abk,.seq #[.none] abf,Ww⟩)
 (a27:PySem.W.nsIn K mainGlobals "_law_spring" = some (some (.ref f27))) (l27:K.lookup f27=some ⟨adD,ac5,.func (PySem.W.fnOf "_law_spring" "_law_spring" (aJ gA) (aH gA) (ao gA) .none aeX afP acw ahc YW agi),abN⟩) (c27:PySem.W.codeIn K YW "_law_spring" = true) (k27:PySem.W.keepIn K (.ref f27)=true)
 (a28:PySem.W.nsIn K mainGlobals "_law_draw" = some (some (.ref f28))) (l28:K.lookup f28=some ⟨adC,ac4,.func (PySem.W.fnOf "_law_draw" "_law_draw" (aJ jH) (aH jH) (ao jH) .none aeW afO acv ahb YT agh),abM⟩) (c28:PySem.W.codeIn K YT "_law_draw" = true) (k28:PySem.W.keepIn K (.ref f28)=true)
 (a29:PySem.W.nsIn K mainGlobals "_law_value" = some (some (.ref f29))) (l29:K.lookup f29=some ⟨adB,ac3,.func (PySem.W.fnOf "_law_value" "_law_value" (aJ iD) (aH iD) (ao iD) .none aeV afN acu aha YS agg),abL⟩) (c29:PySem.W.codeIn K YS "_law_value" = true) (k29:PySem.W.keepIn K (.ref f29)=true)
 (a30:PySem.W.nsIn K mainGlobals "_law_worth" = some (some (.ref f30))) (l30:K.lookup f30=some ⟨adA,ac2,.func (PySem.W.fnOf "_law_worth" "_law_worth" (aJ iC) (aH iC) (ao iC) .none aeU afM acs ag' YQ agf),abK⟩) (c30:PySem.W.codeIn K YQ "_law_worth" = true) (k30:PySem.W.keepIn K (.ref f30)=true)
 (a31:PySem.W.nsIn K mainGlobals "_law_line" = some (some (.ref f31))) (l31:K.lookup f31=some ⟨adz,ac1,.func (PySem.W.fnOf "_law_line" "_law_line" (aJ jF) (aH jF) (ao jF) .none aeT afL acr ag9 YM agd),abJ⟩) (c31:PySem.W.codeIn K YM "_law_line" = true) (k31:PySem.W.keepIn K (.ref f31)=true)
 (a32:PySem.W.nsIn K mainGlobals "_law_program" = some (some (.ref f32))) (l32:K.lookup f32=some ⟨ady,ac0,.func (PySem.W.fnOf "_law_program" "_law_program" (aJ fJ) (aH fJ) (ao fJ) .none aeS afK acq ag8 YL agc),abI⟩) (c32:PySem.W.codeIn K YL "_law_program" = true) (k32:PySem.W.keepIn K (.ref f32)=true)
 (a33:PySem.W.nsIn K mainGlobals "_law_order" = some (some (.ref f33))) (l33:K.lookup f33=some ⟨adx,acZ,.func (PySem.W.fnOf "_law_order" "_law_order" (aJ iG) (aH iG) (ao iG) .none aeR afJ acp ag7 YK agb),abH⟩) (c33:PySem.W.codeIn K YK "_law_order" = true) (k33:PySem.W.keepIn K (.ref f33)=true)
 (a34:PySem.W.nsIn K mainGlobals "_law_meets" = some (some (.ref f34))) (l34:K.lookup f34=some ⟨adw,acY,.func (PySem.W.fnOf "_law_meets" "_law_meets" (aJ iH) (aH iH) (ao iH) .none aeQ afI aco ag6 YJ aga),abG⟩) (c34:PySem.W.codeIn K YJ "_law_meets" = true) (k34:PySem.W.keepIn K (.ref f34)=true)
 (a35:PySem.W.nsIn K mainGlobals "_law_step" = some (some (.ref f35))) (l35:K.lookup f35=some ⟨adv,acX,.func (PySem.W.fnOf "_law_step" "_law_step" (aJ jE) (aH jE) (ao jE) .none aeP afH acn ag5 YH af'),abF⟩) (c35:PySem.W.codeIn K YH "_law_step" = true) (k35:PySem.W.keepIn K (.ref f35)=true)
 (a36:PySem.W.nsIn K mainGlobals "_law_free_order" = some (some (.ref f36))) (l36:K.lookup f36=some ⟨adu,acW,.func (PySem.W.fnOf "_law_free_order" "_law_free_order" (aJ cR) (aH cR) (ao cR) .none aeO afG acj ag4 YG af_),abE⟩) (c36:PySem.W.codeIn K YG "_law_free_order" = true) (k36:PySem.W.keepIn K (.ref f36)=true)
 (a37:PySem.W.nsIn K mainGlobals "_law_same" = some (some (.ref RZ))) (l37:K.lookup RZ=some ⟨adt,acV,.func (PySem.W.fnOf "_law_same" "_law_same" (aJ jj) (aH jj) (ao jj) .none aeN afF aci ag3 YF af9),abD⟩) (c37:PySem.W.codeIn K YF "_law_same" = true) (RJ:PySem.W.keepIn K (.ref RZ)=true)
 (a38:PySem.W.nsIn K mainGlobals "_law_gone" = some (some (.ref f38))) (l38:K.lookup f38=some ⟨adq,acU,.func (PySem.W.fnOf "_law_gone" "_law_gone" (aJ jG) (aH jG) (ao jG) .none aeM afE ach ag2 YD af8),abC⟩) (c38:PySem.W.codeIn K YD "_law_gone" = true) (k38:PySem.W.keepIn K (.ref f38)=true)
 (a39:PySem.W.nsIn K mainGlobals "law" = some (some (.ref f39))) (l39:K.lookup f39=some ⟨adp,acT,.func (PySem.W.fnOf "law" "law" (aJ qD) (aH qD) (ao qD) .none X3 Yy Xm Zn Vs Yz),abB⟩) (c39:PySem.W.codeIn K Vs "law" = true) (k39:PySem.W.keepIn K (.ref f39)=true)
 (yZ:PySem.W.nsIn K mainGlobals "Hand" = some (some (.ref au)))
 (u_:PySem.W.plainGet K au Str.empty=true)
 (vg:PySem.W.hasDictIn K au=true)
 (u9:PySem.W.plainOver K au=true)
 (u6:PySem.W.findIn K (.ref au) "__setattr__" = some (some (.builtin "object.__setattr__")))
 (vd:PySem.W.makesIn K au=true)
 (vf:PySem.W.keepIn K (.ref au)=true)
 (lU:PySem.W.findIn K (.ref au) "rows" = some none)
 (pq:PySem.W.findIn K (.ref au) "at" = some none)
 (iZ:PySem.W.findIn K (.ref au) "in_boxes" = some none)
 (jt:PySem.W.findIn K (.ref au) "sayings" = some none)
 (kh:PySem.W.findIn K (.ref au) "state" = some none)
 (lB:PySem.W.nsIn K mainGlobals "Works" = some (some (.ref ak)))
 (rD:PySem.W.plainGet K ak Str.empty=true)
 (rE:PySem.W.hasDictIn K ak=true)
 (rC:PySem.W.plainOver K ak=true)
 (rB:PySem.W.findIn K (.ref ak) "__setattr__" = some (some (.builtin "object.__setattr__")))
 (lu:PySem.W.makesIn K ak=true)
 (lA:PySem.W.keepIn K (.ref ak)=true)
 (iW:PySem.W.findIn K (.ref ak) "program" = some none)
 (iY:PySem.W.findIn K (.ref ak) "numbers" = some none)
 (jO:PySem.W.findIn K (.ref ak) "hands" = some none)
 (jN:PySem.W.findIn K (.ref ak) "turns" = some none)
 (ycg:PySem.W.specialIn K (.builtin "object.__class__") "__get__" = some (some (.builtin "getset_descriptor.__get__")))
 (yct:PySem.W.takesIn K (.builtin "object.__class__")=some true)
 (rG:PySem.W.findIn K (.ref ak) "__class__" = some (some (.builtin "object.__class__")))
 (rF:PySem.W.mroIn K ak (.type "object")=some true)
 (nP:PySem.W.nsIn K mainGlobals "NoNumber" = some (some (.ref aW)))
 (jB:(PySem.W.clsIn K aW).isSome=true)
 (lX:PySem.W.typeIn K (.ref aW)=some (.type "type"))
 (mJ:PySem.W.subIn K (.ref aW) (.type "BaseException")=some true)
 (rH:PySem.W.nsIn K mainGlobals "NoHand" = some (some (.ref bD)))
 (mG:(PySem.W.clsIn K bD).isSome=true)
 (pB:PySem.W.typeIn K (.ref bD)=some (.type "type"))
 (pJ:PySem.W.subIn K (.ref bD) (.type "BaseException")=some true)
 (zf:PySem.W.nsIn K mainGlobals "Over" = some (some (.ref dG)))
 (qg:(PySem.W.clsIn K dG).isSome=true)
 (vo:PySem.W.typeIn K (.ref dG)=some (.type "type"))
 (vG:PySem.W.subIn K (.ref dG) (.type "BaseException")=some true)
 (Wv:PySem.W.specialIn K (.builtin "object.__class__") "__get__" = some (some (.builtin "getset_descriptor.__get__")))
 (Wu:PySem.W.takesIn K (.builtin "object.__class__")=some true)
 (mz:PySem.W.findIn K (.ref aW) "__getattribute__" = some (some (.builtin "BaseException.__getattribute__")))
 (mj:PySem.W.findIn K (.ref aW) "__getattr__" = some none)
 (lZ:PySem.W.mroIn K aW (.type "BaseException")=some true)
 (mH:PySem.W.findIn K (.ref aW) "__class__" = some (some (.builtin "object.__class__")))
 (lY:PySem.W.mroIn K aW (.type "object")=some true)
 (lW:PySem.W.subIn K (.ref aW) (.type "ValueError")=some true)
 (mF:PySem.W.excIn K aW [.type "ValueError",.type "Exception",.type "BaseException",.type "object"] "ValueError.__new__" = true)
 (pG:PySem.W.findIn K (.ref bD) "__getattribute__" = some (some (.builtin "BaseException.__getattribute__")))
 (pF:PySem.W.findIn K (.ref bD) "__getattr__" = some none)
 (pD:PySem.W.mroIn K bD (.type "BaseException")=some true)
 (pI:PySem.W.findIn K (.ref bD) "__class__" = some (some (.builtin "object.__class__")))
 (pC:PySem.W.mroIn K bD (.type "object")=some true)
 (pA:PySem.W.subIn K (.ref bD) (.type "ValueError")=some true)
 (pH:PySem.W.excIn K bD [.type "ValueError",.type "Exception",.type "BaseException",.type "object"] "ValueError.__new__" = true)
 (vB:PySem.W.findIn K (.ref dG) "__getattribute__" = some (some (.builtin "BaseException.__getattribute__")))
 (vA:PySem.W.findIn K (.ref dG) "__getattr__" = some none)
 (vq:PySem.W.mroIn K dG (.type "BaseException")=some true)
 (vD:PySem.W.findIn K (.ref dG) "__class__" = some (some (.builtin "object.__class__")))
 (vp:PySem.W.mroIn K dG (.type "object")=some true)
 (vm:PySem.W.subIn K (.ref dG) (.type "ValueError")=some true)
 (vC:PySem.W.excIn K dG [.type "ValueError",.type "Exception",.type "BaseException",.type "object"] "ValueError.__new__" = true)
 {Nv:Tok} (Ah:PySem.W.nsIn K mainGlobals "BOXES" = some (some (.str "abcdefgh" Nv)))
 {Nu:Tok} (Ag:PySem.W.nsIn K mainGlobals "ROUND" = some (some (.int 1000 Nu)))
 {pY:Tok} (iM:PySem.W.nsIn K mainGlobals "MOST_UNTOUCHING" = some (some (.int 60 pY)))
 (KJ:PySem.W.nsIn K mainGlobals "abs" = some none) (KD:PySem.W.nsIn K mainGlobals "all" = some none) (KC:PySem.W.nsIn K mainGlobals "any" = some none) (Ef:PySem.W.nsIn K mainGlobals "bool" = some none) (nO:PySem.W.nsIn K mainGlobals "enumerate" = some none) (Kz:PySem.W.nsIn K mainGlobals "int" = some none) (lV:PySem.W.nsIn K mainGlobals "isinstance" = some none) (Ky:PySem.W.nsIn K mainGlobals "len" = some none) (Ed:PySem.W.nsIn K mainGlobals "list" = some none) (Kw:PySem.W.nsIn K mainGlobals "max" = some none) (Kv:PySem.W.nsIn K mainGlobals "min" = some none) (zc:PySem.W.nsIn K mainGlobals "range" = some none) (vh:PySem.W.nsIn K mainGlobals "sorted" = some none) (za:PySem.W.nsIn K mainGlobals "tuple" = some none) (Ku:PySem.W.nsIn K mainGlobals "zip" = some none):
 ∃fd:FuncData,(∀(s:Shared) (v:Value),BindsTo s fd ⟨[v],[]⟩ [("script",v)]) /\ ∀base:Heap,K.In base->base.Ns mainGlobals mg->cj l.prog w K mg base jA 10 fa fd ["script"] (G4 K):=by
 have e:=hfa.symm.trans (PySem.W.mg_of X G a39);cases e;have Bt:yX mg:=⟨PySem.W.mg_none_of X G KJ,PySem.W.mg_none_of X G KD,PySem.W.mg_none_of X G KC,PySem.W.mg_none_of X G Ef,PySem.W.mg_none_of X G nO,PySem.W.mg_none_of X G Kz,PySem.W.mg_none_of X G lV,PySem.W.mg_none_of X G Ky,PySem.W.mg_none_of X G Ed,PySem.W.mg_none_of X G Kw,PySem.W.mg_none_of X G Kv,PySem.W.mg_none_of X G zc,PySem.W.mg_none_of X G vh,PySem.W.mg_none_of X G za,PySem.W.mg_none_of X G Ku⟩;have aK:gH K au:=⟨⟨u_,vg,u9,u6⟩,lU,pq,iZ,jt,kh⟩;have aM:dz K ak:=⟨⟨rD,rE,rC,rB⟩,iW,iY,jO,jN⟩;have uZ:IsO K mg ak "Works" :=⟨PySem.W.mg_of X G lB,rG,ycg,yct,rF⟩;have gG:Gv mg "BOXES" (.str "abcdefgh"):=⟨_,PySem.W.mg_of X G Ah,⟨_,rfl⟩⟩;have iT:Gv mg "ROUND" (.int 1000):=⟨_,PySem.W.mg_of X G Ag,⟨_,rfl⟩⟩;have fX:Gv mg "MOST_UNTOUCHING" (.int 60):=⟨_,PySem.W.mg_of X G iM,⟨_,rfl⟩⟩;have jh:Xr K mg aW "NoNumber" :=⟨PySem.W.mg_of X G nP,⟨jB,lX,mJ⟩,⟨mz,mj,lZ,jB,mH,Wv,Wu,lY⟩,mF,lW⟩;have qY:Xr K mg bD "NoHand" :=⟨PySem.W.mg_of X G rH,⟨mG,pB,pJ⟩,⟨pG,pF,pD,mG,pI,Wv,Wu,pC⟩,pH,pA⟩;have Ba:Xr K mg dG "Over" :=⟨PySem.W.mg_of X G zf,⟨qg,vo,vG⟩,⟨vB,vA,vq,qg,vD,Wv,Wu,vp⟩,vC,vm⟩;have F0:=bT (st:=fD) l0 c0 k0;have F1:=bT (st:=fH) l1 c1 k1;have F2:=bT (st:=dY) l2 c2 k2;have F3:=bT (st:=gw) l3 c3 k3;have F4:=bT (st:=bY) l4 c4 k4;have F5:=bT (st:=dF) l5 c5 k5;have F6:=bT (st:=dX) l6 c6 k6;have F7:=bT (st:=gB) l7 c7 k7;have F8:=bT (st:=cO) l8 c8 k8;have F9:=bT (st:=cA) l9 c9 k9;have F10:=bT (st:=b_) l10 c10 k10;have F11:=bT (st:=cC) l11 c11 k11;have F12:=bT (st:=dD) l12 c12 k12;have F13:yt K "__init__" "Works.__init__" bO [.none] R0 _:=⟨⟨_,_,_,_,_,_,_,_,_,_,_,_,_,_,rfl,l13,c13,Wj⟩,k13⟩;have F14:=bT (st:=cQ) l14 c14 k14;have F15:=bT (st:=dW) l15 c15 k15;have F16:=bT (st:=cL) l16 c16 k16;have F17:=bT (st:=cD) l17 c17 k17;have F18:=bT (st:=cN) l18 c18 k18;have F19:=bT (st:=cB) l19 c19 k19;have F20:=bT (st:=cM) l20 c20 k20;have F21:=bT (st:=cJ) l21 c21 k21;have F22:=bT (st:=gq) l22 c22 k22;have F23:=bT (st:=fG) l23 c23 k23;have F24:=bT (st:=fB) l24 c24 k24;have F25:yt K "web_of" "web_of" iB [.none] Yp _:=⟨⟨_,_,_,_,_,_,_,_,_,_,_,_,_,_,rfl,l25,c25,d25⟩,k25⟩;have F26:yt K "touches_of" "touches_of" dB [.none] Yo _:=⟨⟨_,_,_,_,_,_,_,_,_,_,_,_,_,_,rfl,l26,c26,d26⟩,k26⟩;have F27:=bT (st:=gA) l27 c27 k27;have F28:=bT (st:=jH) l28 c28 k28;have F29:=bT (st:=iD) l29 c29 k29;have F30:=bT (st:=iC) l30 c30 k30;have F31:=bT (st:=jF) l31 c31 k31;have F32:=bT (st:=fJ) l32 c32 k32;have F33:=bT (st:=iG) l33 c33 k33;have F34:=bT (st:=iH) l34 c34 k34;have F35:=bT (st:=jE) l35 c35 k35;have F36:=bT (st:=cR) l36 c36 k36;have F37:=bT (st:=jj) l37 c37 RJ;have F38:=bT (st:=jG) l38 c38 k38;have F39:=bT (st:=qD) l39 c39 k39;refine ⟨PySem.W.fnOf "law" "law" (aJ qD) (aH qD) (ao qD) .none X3 Yy Xm Zn Vs Yz,fun s v=> .of_eq rfl,fun base _ _=> ?_⟩;have A0:FnAt l.prog w K mg base 1 "is_whole" ["value"] (TJ K):=⟨f0,_,Cr F0 Bt,PySem.W.mg_of X G a0,k0,F0.binds (ps:=["value"]) Du⟩;have A1:FnAt l.prog w K mg base 2 "is_below" ["value","count"] (qy K):=⟨f1,_,Cv F1 A0,PySem.W.mg_of X G a1,k1,F1.binds (ps:=["value","count"]) Dw⟩;have A2:oJ l.prog w K mg base 1 au "Hand" ["self","rows"] [] (zF au K):=⟨f2,_,[],Mt F2 aK gG,⟨vd,a2,n2,vf⟩,PySem.W.mg_of X G yZ,F2.binds (ps:=["self","rows"]) Aw,.nil⟩;have A3:FnAt l.prog w K mg base 1 "cell_of" ["row"] (qx K):=⟨f3,_,Ju F3,PySem.W.mg_of X G a3,k3,F3.binds (ps:=["row"]) Gm⟩;have ahA:MethAt l.prog w K mg base 1 au "value_of" ["self","part"] (qt au 0 K):=⟨f4,_,Qo F4,⟨a4,n4,k4⟩,F4.binds (ps:=["self","part"]) jg⟩;have ahz:MethAt l.prog w K mg base 2 au "value_of" ["self","part"] (qt au 1 K):=⟨f4,_,HF (n:=0) F4 ahA aK gG iT,⟨a4,n4,k4⟩,F4.binds (ps:=["self","part"]) jg⟩;have A4:MethAt l.prog w K mg base 3 au "value_of" ["self","part"] (qt au 2 K):=⟨f4,_,HF (n:=1) F4 ahz aK gG iT,⟨a4,n4,k4⟩,F4.binds (ps:=["self","part"]) jg⟩;have A5:MethAt l.prog w K mg base 4 au "holds" ["self","row"] (zE au K):=⟨f5,_,Ms F5 A4 aK,⟨a5,n5,k5⟩,F5.binds (ps:=["self","row"]) yg⟩;have A6:MethAt l.prog w K mg base 1 au "take" ["self","box","number"] (zu au K):=⟨f6,_,Qq F6 aK gG,⟨a6,n6,k6⟩,F6.binds (ps:=["self","box","number"]) Av⟩;have A7:MethAt l.prog w K mg base 5 au "do" ["self","row"] (TQ au K):=⟨f7,_,Xv F7 A4 A6 A5 aK,⟨a7,n7,k7⟩,F7.binds (ps:=["self","row"]) Gp⟩;have A8:MethAt l.prog w K mg base 6 au "lead_on" ["self"] (zB au K):=⟨f8,_,Qu F8 A3 A7 aK fX Bt,⟨a8,n8,k8⟩,F8.binds (ps:=["self"]) uK⟩;have A9:Ov l.prog w K mg base 3 "check_numbers" ["cells","count"] (pO aW K):=⟨f9,_,Cw F9 A1 iT Bt jh,PySem.W.mg_of X G a9,k9,F9.binds (ps:=["cells","count"]) tH⟩;have A10:MethAt l.prog w K mg base 4 ak "touch_by" ["self","one"] (rJ ak au K):=⟨Wh,_,Fo F10 A3 A4 A6 aM aK,⟨a10,n10,k10⟩,F10.binds (ps:=["self","one"]) qX⟩;have A11:j_ l.prog w K mg base 3 ak "hand_of" ["self","hand"] (qu ak au bD K):=⟨f11,_,Js F11 A1 aM Bt qY,⟨a11,n11,k11⟩,F11.binds (ps:=["self","hand"]) tM⟩;have A12:j_ l.prog w K mg base 7 ak "turn" ["self","hand"] (pN ak au bD dG K):=⟨Yx,_,Qp F12 A11 A10 A8 aM aK Ba,⟨a12,n12,k12⟩,F12.binds (ps:=["self","hand"]) yd⟩;have G13:=Ml F13 aM aK A9 A2 A8 Bt;have A13:u0 l.prog w K mg base 7 ak "Works" ["self","program","cells"] [] (jC ak au aW K):=⟨R0,_,_,G13,⟨lu,a13,n13,lA⟩,PySem.W.mg_of X G lB,xq Wj,.nil⟩;have ai4:u0 l.prog w K mg base 7 ak "Works" ["self","program","cells"] [.non] (jC ak au aW K):=⟨R0,_,_,G13,⟨lu,a13,n13,lA⟩,PySem.W.mg_of X G lB,wZ Wj,.cons rfl .nil⟩;have ai3:Ri l.prog w K mg base 7 ak "Works" ["self","program","cells"] "cells" (jC ak au aW K):=⟨R0,_,G13,⟨lu,a13,n13,lA⟩,PySem.W.mg_of X G lB,wY Wj⟩;have A14:MethAt l.prog w K mg base 1 ak "cells" ["self"] (zJ ak au K):=⟨Yw,_,Mw F14 aM Bt,⟨a14,n14,k14⟩,F14.binds (ps:=["self"]) wW⟩;have A15:j_ l.prog w K mg base 4 ak "how" ["self","hand"] (Lg ak au bD K):=⟨Yv,_,Uu F15 A11 aM aK,⟨a15,n15,k15⟩,F15.binds (ps:=["self","hand"]) Ar⟩;have A16:MethAt l.prog w K mg base 1 ak "counts" ["self"] (qw ak au K):=⟨Yu,_,Jt F16 aM Bt,⟨a16,n16,k16⟩,F16.binds (ps:=["self"]) uH⟩;have A17:MethAt l.prog w K mg base 1 ak "__len__" ["self"] (Es ak au K):=⟨Yt,_,Qn F17 aM Bt,⟨a17,n17,k17⟩,F17.binds (ps:=["self"]) tO⟩;have A18:MethAt l.prog w K mg base 1 au "picture" ["self"] (Ey au K):=⟨Ys,_,Qw F18 aK Bt,⟨a18,n18,k18⟩,F18.binds (ps:=["self"]) uJ⟩;have A19:MethAt l.prog w K mg base 2 ak "picture" ["self"] (Lf ak au K):=⟨Yr,_,Us F19 aM aK A18 A14 A16 Bt,⟨a19,n19,k19⟩,F19.binds (ps:=["self"]) tK⟩;have A20:MethAt l.prog w K mg base 3 ak "__eq__" ["self","other"] (Ld ak au K):=⟨Yq,_,Ur F20 aM uZ A19 Bt,⟨a20,n20,k20⟩,F20.binds (ps:=["self","other"]) uI⟩;have A21:FnAt l.prog w K mg base 1 "touches_meet" ["one","other"] (Jf K):=⟨f21,_,uw F21,PySem.W.mg_of X G a21,k21,F21.binds (ps:=["one","other"]) uG⟩;have A22:FnAt l.prog w K mg base 2 "is_step" ["web","place","later"] (Et K):=⟨f22,_,Fq F22 A21,PySem.W.mg_of X G a22,k22,F22.binds (ps:=["web","place","later"]) Gk⟩;have A23:FnAt l.prog w K mg base 3 "is_order" ["web","order"] (rM K):=⟨f23,_,Cu F23 A1 Bt,PySem.W.mg_of X G a23,k23,F23.binds (ps:=["web","order"]) Dv⟩;have A24:FnAt l.prog w K mg base 4 "same_run" ["web","order"] (zy K):=⟨f24,_,Mr F24 A23 A22 Bt,PySem.W.mg_of X G a24,k24,F24.binds (ps:=["web","order"]) Dt⟩;have G25:=Mp F25 A13.calm A12.calm aM;have A25:FnAt l.prog w K mg base 9 "web_of" ["program","order","cells"] (zp K):=⟨Yp,_,G25,PySem.W.mg_of X G a25,k25,Gq d25⟩;have G26:=zX F26 A13.calm A12.calm aM;have A26:FnAt l.prog w K mg base 9 "touches_of" ["program","order","cells"] (nW K):=⟨Yo,_,G26,PySem.W.mg_of X G a26,k26,xg d26⟩;have A27:FnAt l.prog w K mg base 1 "_law_spring" ["script"] (vN K):=⟨f27,_,Jq F27 Bt,PySem.W.mg_of X G a27,k27,F27.binds (ps:=["script"]) Gn⟩;have A28:FnAt l.prog w K mg base 1 "_law_draw" ["spring","many"] (mQ K):=⟨f28,_,Qx F28,PySem.W.mg_of X G a28,k28,F28.binds (ps:=["spring","many"]) Ol⟩;have A29:FnAt l.prog w K mg base 2 "_law_value" ["spring","boxes"] (zq K):=⟨f29,_,Mq F29 A28,PySem.W.mg_of X G a29,k29,F29.binds (ps:=["spring","boxes"]) J9⟩;have A30:FnAt l.prog w K mg base 3 "_law_worth" ["spring","boxes"] (zm K):=⟨f30,_,Mj F30 A28 A29,PySem.W.mg_of X G a30,k30,F30.binds (ps:=["spring","boxes"]) J8⟩;have A31:FnAt l.prog w K mg base 4 "_law_line" ["spring","room","boxes","many"] (Ew K):=⟨f31,_,Qt F31 A28 A30,PySem.W.mg_of X G a31,k31,F31.binds (ps:=["spring","room","boxes","many"]) Oi⟩;have A32:FnAt l.prog w K mg base 5 "_law_program" ["spring"] (Eu K):=⟨f32,_,Qs F32 A28 A31 Bt,PySem.W.mg_of X G a32,k32,F32.binds (ps:=["spring"]) Dy⟩;have A33:FnAt l.prog w K mg base 8 "_law_order" ["spring","works"] (rK ak au K):=⟨f33,_,Fp F33 A28 A16 A15.calm A12.calm aM Bt,PySem.W.mg_of X G a33,k33,F33.binds (ps:=["spring","works"]) J_⟩;have A34:FnAt l.prog w K mg base 1 "_law_meets" ["one","other"] (Jf K):=⟨f34,_,Jv F34,PySem.W.mg_of X G a34,k34,F34.binds (ps:=["one","other"]) Ka⟩;have A35:FnAt l.prog w K mg base 2 "_law_step" ["one","other"] (zA K):=⟨f35,_,Mx F35 A34,PySem.W.mg_of X G a35,k35,F35.binds (ps:=["one","other"]) Oh⟩;have A36:FnAt l.prog w K mg base 3 "_law_free_order" ["spring","web"] (zH K):=⟨f36,_,Jw F36 A28 A35 Bt,PySem.W.mg_of X G a36,k36,F36.binds (ps:=["spring","web"]) wX⟩;have Zt:FnAt l.prog w K mg base 1 "_law_same" ["found","due"] (jD 0 K):=⟨RZ,_,Jr F37,PySem.W.mg_of X G a37,RJ,F37.binds (ps:=["found","due"]) oH⟩;have Zr:FnAt l.prog w K mg base 2 "_law_same" ["found","due"] (jD 1 K):=⟨RZ,_,oR (n:=0) F37 Zt Bt,PySem.W.mg_of X G a37,RJ,F37.binds (ps:=["found","due"]) oH⟩;have Zq:FnAt l.prog w K mg base 3 "_law_same" ["found","due"] (jD 2 K):=⟨RZ,_,oR (n:=1) F37 Zr Bt,PySem.W.mg_of X G a37,RJ,F37.binds (ps:=["found","due"]) oH⟩;have Zo:FnAt l.prog w K mg base 4 "_law_same" ["found","due"] (jD 3 K):=⟨RZ,_,oR (n:=2) F37 Zq Bt,PySem.W.mg_of X G a37,RJ,F37.binds (ps:=["found","due"]) oH⟩;have A37:FnAt l.prog w K mg base 5 "_law_same" ["found","due"] (jD 4 K):=⟨RZ,_,oR (n:=3) F37 Zo Bt,PySem.W.mg_of X G a37,RJ,F37.binds (ps:=["found","due"]) oH⟩;have A38:FnAt l.prog w K mg base 9 "_law_gone" ["program","order","numbers"] (zG ak au K):=⟨f38,_,Mu F38 A13.calm A12.calm aM,PySem.W.mg_of X G a38,k38,F38.binds (ps:=["program","order","numbers"]) Oj⟩;exact Ut F39 A27 A28 A32 A13.calm A33 A25 A26 A38 A17 A20 A36 A24 A37 aM Bt
theorem walk {l:PySem.W.OpenLaw} {q:Program} {loose:List Str} {XP:(Str->Option Value)->Heap->Prop} {YP:World->Heap->Prop} {d:DefRec} {K:Params->PySem.W.Frag} (hn:l.most=some 63) (hdf:d.params.defaults=[])
 (hY:∀(w:World) (h:Heap),YP w h->(K w.params).In h)
 (F:∀(w:World) (mg:Str->Option Value) (fa:Addr) (h:Heap),(K w.params).In h->h.Ns mainGlobals mg->mg d.name=some (.ref fa) ->
   ∃fd:FuncData,(∀(s:Shared) (u:Value),BindsTo s fd ⟨[u],[]⟩ [("script",u)]) /\ ∀base:Heap,(K w.params).In base->base.Ns mainGlobals mg->cj l.prog w (K w.params) mg base jA 10 fa fd ["script"] (G4 (K w.params))):
 PySem.W.WalkO q loose XP YP l.row.toRowW d [] (fun f vs=>PySem.call f vs):=
 L2.Pj (n:=63) (k:=10) (x:= "script") (CX:=fun _=>jA) (sp:=fun w=>G4 (K w.params)) hn (by decide) hdf ⟨rfl,by decide,by decide⟩ hY F (fun _ _ a ns hl _ hS=>⟨a,ns,rfl,hS,hl,fun _=>rfl⟩) fun _ _ _ _ _ z=>z
end Prf
namespace PySem.W.Fast
def tw9571338335111713216:=()
def tw79522944489957538:=()
def tw11967054062630797111:=()
def tw1132273123566653890:=()
def tw4725979932306401231:=()
def tw1189167773763515019:=()
def tw3953689029616486958:=()
def tw6022170445958087012:=()
def tw16173336827756949283:=()
def tw16879684543578125419:=()
def tw14471140834325589063:=()
def tw13949475448235848120:=()
def tw3697163914006669593:=()
def tw6236034378225584955:=()
def tw13336731991097781845:=()
def tw3341606548925918135:=()
def tw4654084406040775052:=()
def tw14306138746715781399:=()
def tw15533455715142048391:=()
def tw10823465767324195906:=()
def tw12901853848980558412:=()
def tw2514340399077531067:=()
def tw12542998314507237971:=()
def tw16567698602740071156:=()
def tw9038079301344193682:=()
def tw14525837759239980436:=()
def tw3832606755099429693:=()
def tw8390492415720213343:=()
def tw14566751740158506408:=()
def tw5585153842057745707:=()
def tw15814266448630147722:=()
def tw10243857309905338989:=()
def tw8219749510405258010:=()
def tw5435313858086272486:=()
def tw9055447207585057596:=()
def tw3945161478515849738:=()
def tw2205620339293041113:=()
def tw2641180811922000739:=()
def tw15541633492692741187:=()
def tw15825398904647755346:=()
def tw13760074636512210127:=()
def tw6463109463720746950:=()
def tw11461715258513282257:=()
def tw13493081987373020820:=()
def tw11546833149956490367:=()
def tw10973688172963609110:=()
def tw1818250026384998485:=()
def tw1633639232599535976:=()
def tw16297137390550303066:=()
def tw7376307281558305072:=()
def tw6375269933860391704:=()
def tw6461429770789778140:=()
def tw12687093107020319850:=()
def tw1038668968005457907:=()
def tw443328800029463563:=()
def tw2274806092496396151:=()
def tw16517747344879139850:=()
def tw1995940641461073828:=()
def tw6978007304786515994:=()
def tw17943294217441815083:=()
def tw3409736771344883415:=()
def tw1933990618782254925:=()
def tw16962925409139613856:=()
def tw10392761394020292766:=()
def tw9730893772916578923:=()
def tw14898603352037668739:=()
def tw9767583047086434378:=()
def tw16141402488818779845:=()
def tw14302609729637538493:=()
def tw6007677586523544180:=()
def tw3584598026493191870:=()
def tw13171662738736854699:=()
def tw6533329474662501644:=()
def tw1365989220426369387:=()
def tw6926645889799793095:=()
def tw8729093259716075550:=()
def tw18183508731182485877:=()
def tw8907966305210279228:=()
def tw1337706319451836332:=()
def tw3216987978840016386:=()
def tw18298951884625672199:=()
def tw10667800460072687855:=()
def tw6215502038032958485:=()
def tw7024483490218631842:=()
def tw8971262684509386702:=()
def tw13527430418389606089:=()
def tw18108271127540175662:=()
def tw5638473076922646459:=()
def tw3945861228681755731:=()
def tw15088725576146369311:=()
def tw4585037717646338525:=()
def tw9729859654101714844:=()
def tw8494919811646286128:=()
def tw3109489361137939742:=()
def tw11978968112955560353:=()
def tw15861740213854672099:=()
def tw4352532361637387575:=()
def tw664656729559688634:=()
def tw17540635067111196111:=()
def tw7090974217765650261:=()
def tw13336189934959291067:=()
def tw17096551806846019271:=()
def tw7275254580201539661:=()
def tw9277667322131962737:=()
def tw10685894206179590730:=()
def tw3192947063635220268:=()
def tw6066747691019234413:=()
def tw16777471293643784641:=()
def tw18189511990516799825:=()
def tw8965412225150138309:=()
def tw15533307260522214850:=()
def tw1246966618619531311:=()
def tw9764059352073465854:=()
def tw10519182175034057693:=()
def tw13513715956687486414:=()
def tw8131439596315122892:=()
def tw14527383452064927745:=()
def tw6577970254986713246:=()
def tw12004827935454791832:=()
def tw14972608160442161802:=()
def tw7345997074576053910:=()
def tw8480374045193042622:=()
def tw4574968572892049564:=()
def tw14209586140605793075:=()
def tw12068733642033225834:=()
def tw2578576278485844381:=()
def tw9138881779575891467:=()
def tw18080420192914890282:=()
def tw17129194446456218277:=()
def tw6993611717964017765:=()
def tw13022527983974976386:=()
def tw18259352886053980769:=()
def tw17436798237651561482:=()
def tw13900002840808508855:=()
def tw7863442201709428864:=()
def tw9241438606242736355:=()
def tw10786499857028872806:=()
def tw11433313121509653570:=()
def tw14220073396925128860:=()
def tw5351400879741891479:=()
def tw17038886728591776399:=()
def tw3662931980384947200:=()
def tw1632521394086813390:=()
def tw5558710042205221193:=()
def tw9068716055332382750:=()
def tw2682283454962776014:=()
def tw17380903459709221286:=()
def tw4627533182706748841:=()
def tw7766824981814561508:=()
def tw12913313428838528461:=()
def tw10465178470932752754:=()
def tw13831484588568061070:=()
def tw9447779978691603206:=()
def tw13003390343443916059:=()
def tw9139836087112705047:=()
def tw17849741157802826428:=()
def tw11372998371431485979:=()
def tw11352477054001711889:=()
def tw5919579944028135648:=()
def tw13150252166156739100:=()
def tw15688920206476264501:=()
def tw621072612589288488:=()
def tw18063181914480294862:=()
def tw4532692711669163083:=()
def tw1016417075352987367:=()
def tw12389813127264665106:=()
def tw5168551655331925248:=()
def tw2153156134528227137:=()
def tw1689829023570789476:=()
def tw13935279423705204899:=()
def tw4196549047487143794:=()
def tw11093217236713319609:=()
def tw9705549163601906500:=()
def tw15740763022652101975:=()
def tw3626332218187247605:=()
def tw1163463199439665696:=()
def tw11415699588413697912:=()
def tw16515454255257347537:=()
def tw18260614782882288953:=()
def tw17946925891262230591:=()
def tw6632353939248363429:=()
def tw3121820368396567282:=()
def tw11828962359132246070:=()
def tw9572266125477508428:=()
def tw118855898637861898:=()
def tw2220987676190300583:=()
def tw7065890388617875096:=()
def tw11397975531187766520:=()
def tw3085946966740193177:=()
def tw6306859841726525680:=()
def tw11442027111948208138:=()
def tw14219776343325558512:=()
def tw13002476373590022759:=()
def tw13269145069281075098:=()
def tw9635158607511598429:=()
def tw12050089888169761150:=()
def tw8484525742864769461:=()
def tw542935392569564782:=()
def tw1810914760938089190:=()
def tw2813291849596348448:=()
def tw12204129252728981334:=()
def tw14553779261450535206:=()
def tw5521957691100628496:=()
def tw6517163360068679669:=()
def tw8375132588544966173:=()
def tw17349373751430117237:=()
def tw11374366956782404172:=()
def tw15577912484882264939:=()
def tw8711183035267757896:=()
def tw14297654328753742305:=()
def tw17084412326284088586:=()
def tw948883404525956927:=()
def tw229844842956519914:=()
def tw7274854680509060055:=()
def tw1876557943836199929:=()
def tw8385042734580516821:=()
def tw7401611495347928979:=()
def tw12813056076500634509:=()
def tw13596020282696810539:=()
def tw4926389179510451355:=()
def tw1540529927636706800:=()
def tw762192528886505432:=()
def tw4047666067349911343:=()
def tw1030537864305907914:=()
def tw7997239347391207006:=()
def tw6065662080885725750:=()
def tw6948244691254119551:=()
def tw7551823216500318569:=()
def tw7743837049217202274:=()
def tw9068803343036630832:=()
def tw11451670367570133573:=()
def tw15391691944234133439:=()
def tw18056138240543350398:=()
def tw16014298397479305320:=()
def tw7692567692796449031:=()
def tw5730906880660898606:=()
def tw11408672764932978970:=()
def tw7497838597827117758:=()
def tw10876126317346757343:=()
def tw13691193193889897078:=()
def tw7124585177717052926:=()
def tw10970266947192220693:=()
def tw14519768171134767024:=()
def tw15327592274148057538:=()
def tw12719376046041341100:=()
def tw1103617124232488982:=()
def tw1794537666020442131:=()
def tw8667468771857906046:=()
def tw7968314236478336772:=()
def tw2477641362309124271:=()
def tw14283691348273394246:=()
def tw10340071333542191557:=()
def tw15407178398072409673:=()
def tw17512943344549359372:=()
def tw13739097223930946504:=()
def tw14826600986386767512:=()
def tw16876528518140354762:=()
def tw15409230951471456460:=()
def tw16519900101874773559:=()
def tw6082546244574222655:=()
def tw16531354758895551264:=()
def tw4302305297947165654:=()
def tw1246991255852321558:=()
def tw7180293386458518294:=()
def tw13973164687388979574:=()
def tw17934044623974927713:=()
def tw726721628367359093:=()
def tw9103215595992493288:=()
def tw8732553121556056690:=()
def tw13908072484522183390:=()
def tw1473915917247129403:=()
def tw17361295217159992368:=()
def tw8310103225279192102:=()
def tw2889633456430276166:=()
def tw9133281722880850809:=()
def tw16500191089295054683:=()
def tw16527422015283577063:=()
def tw1326258046932333564:=()
def tw1772898246389674329:=()
def tw2830267283431016389:=()
def tw4127696601619303021:=()
def tw670108739864369775:=()
def tw10764583196018614985:=()
def tw10087812882770918669:=()
def tw7398824606606812712:=()
def tw13938663069467838813:=()
def tw12018845586260742979:=()
def tw18046985842350770963:=()
def tw2195820481237103073:=()
def tw7272787419776987402:=()
def tw1263923503576525534:=()
def tw12191838211438825278:=()
def tw6760771186707447346:=()
def tw9822206717840051939:=()
def tw4616026573976105972:=()
def tw11098328360386373612:=()
def tw17217181344557231771:=()
def tw2230061567687605819:=()
def tw18056038415403443850:=()
def tw16006140337603960172:=()
def tw6153599330546281398:=()
def tw18148148887984803907:=()
def tw6273408869274975467:=()
def tw16734075409133620693:=()
def tw3418994894474498828:=()
def tw1551806091988191648:=()
def tw15052306968172225075:=()
def tw4529219792328335585:=()
def tw4658522803184313655:=()
def tw150377629857370470:=()
def tw12554304167477983883:=()
def tw1844016679645004882:=()
def tw17566515420698435104:=()
def tw4485537268652435587:=()
def tw17920751410371976990:=()
def tw4015027501147067434:=()
def tw12591319839284838868:=()
def tw6919938086227626099:=()
def tw6815019780137837451:=()
def tw11921070439534077200:=()
def tw16639535062661909548:=()
def tw11203053294973370895:=()
def tw2786322970745382946:=()
def tw14682627471758048335:=()
def tw6936242127304625550:=()
def tw4086950112978336027:=()
def tw16103557845812062470:=()
def tw6614864325090369641:=()
def tw5703114503648949361:=()
def tw1698450618681638323:=()
def tw10085383790028381144:=()
def tw13304513671618884582:=()
def tw9772174436053781375:=()
def tw8577662258667713481:=()
def tw4350754572747826811:=()
def tw5546757138228757629:=()
def tw47141217243656953:=()
def tw7356254217322175372:=()
def tw13184367322900827768:=()
def tw15544870144425182435:=()
def tw13509974914690808575:=()
def tw10159800969459624707:=()
def tw4700974754662538591:=()
def tw2555784593769340851:=()
def tw16983597589135146169:=()
def tw10865180342155925119:=()
def tw18175389771652318320:=()
def tw3339981043612874381:=()
def tw14403451628563597972:=()
def tw1467851198059278166:=()
def tw10708159397926053793:=()
def tw12292385099923934625:=()
def tw3233792108015597373:=()
def tw8620175193047016487:=()
def tw8483879507203724926:=()
def tw8375827359201137945:=()
def tw1666835368474517703:=()
def tw12384211747459497697:=()
def tw7688910753310100673:=()
def tw10632933715988914030:=()
def tw14265010164707256531:=()
def tw11934781112174843857:=()
def tw9031457873415336990:=()
def tw1396884498902186601:=()
def tw90426508811838971:=()
def tw11595532744780544390:=()
def tw15021852765746843507:=()
def tw7144427962149688982:=()
def tw9712941201250734832:=()
def tw18073355659130793872:=()
def tw7794046460016784286:=()
def tw6953253737774544753:=()
def tw335138987131930201:=()
def tw4300781661638024629:=()
def tw9646889633244808418:=()
def tw4837596965768360903:=()
def tw17183368411198379289:=()
def tw3237420737498988328:=()
def tw4797715451024993763:=()
def tw5171828192875551242:=()
def tw17776074516087418034:=()
def tw15471670710143006079:=()
def tw11621895410163723384:=()
def tw2120713046616592030:=()
def tw11794792009279527914:=()
def tw6898280919124372549:=()
def tw13579871201714086625:=()
def tw10439369395842813589:=()
def tw1456443086681097015:=()
def tw314311707975201366:=()
def tw17132489453921475715:=()
def tw15272902650045088583:=()
def tw13252024129397017848:=()
def tw17082967266094860674:=()
def tw405098342193147036:=()
def tw4611667881919314352:=()
def tw6172666195199790581:=()
def tw8879591237194883958:=()
def tw5221422826349715045:=()
def tw2382256235761760392:=()
def tw13537425315152002015:=()
def tw11812162410798793904:=()
def tw112071159869133009:=()
def tw13981413441296870872:=()
def tw17574256836391519846:=()
def tw17559257965189464858:=()
def tw7422303737061584241:=()
def tw10564528273063476095:=()
def tw17355715449420775614:=()
def tw3373408141791950890:=()
def tw3074242250096136880:=()
def tw9614001137830857953:=()
def tw4506613495403293704:=()
def tw13960196723112867614:=()
def tw3330880854710260501:=()
def tw10012000620700781502:=()
def tw7579696905078960514:=()
def tw5704791757657979729:=()
def tw523412564695553904:=()
def tw18326070764249835840:=()
def tw10612256249650252729:=()
def tw2759715704927905914:=()
def tw10518935571075157123:=()
def tw6559918596994097083:=()
def tw4529567071214927009:=()
def tw13704462287147331278:=()
def tw17855111951388628527:=()
def tw3474907645156781852:=()
def tw10774200347437349195:=()
def tw14214700594464601727:=()
def tw3988559882358840933:=()
def tw11155708447460742243:=()
def tw16898069501590723126:=()
def tw6252921360360001811:=()
def tw18048377397841021623:=()
def tw12945908960778358223:=()
def tw14315124717707443246:=()
def tw7794880461402689971:=()
def tw5762640795193308984:=()
def tw86156718774789029:=()
end PySem.W.Fast
open PySem PySem.W PyProof.Rows
set_option maxRecDepth 100000 in
set_option maxHeartbeats 0 in
theorem PySem.Challenge.cw_fewnotes_k22_whole_other_orders_tell_the_holds : PySem.Challenge.rw_fewnotes_k22_whole_other_orders_tell_the.Holds := by
 w_on;o_law;k_head;(case hw=>w_witness2)
 k_fill
 refine Prf.walk (l:=PySem.Challenge.rw_fewnotes_k22_whole_other_orders_tell_the) rfl rfl (fun w h Y=>PySem.W.kIn_of Y) ?F
 case F=>
  intro w mg fa h KX G hmg
  replace hmg:mg (Str.ofString "law")=some (.ref fa):=hmg
  refine' Prf.all_mk KX G hmg ?a0 ?l0 ?c0 ?k0 ?a1 ?l1 ?c1 ?k1 ?a2 ?l2 ?c2 ?k2 ?n2 ?a3 ?l3 ?c3 ?k3 ?a4 ?l4 ?c4 ?k4 ?n4 ?a5 ?l5 ?c5 ?k5 ?n5 ?a6 ?l6 ?c6 ?k6 ?n6 ?a7 ?l7 ?c7 ?k7 ?n7 ?a8 ?l8 ?c8 ?k8 ?n8 ?a9 ?l9 ?c9 ?k9 ?a10 ?l10 ?c10 ?k10 ?n10 ?a11 ?l11 ?c11 ?k11 ?n11 ?a12 ?l12 ?c12 ?k12 ?n12 ?a13 ?l13 ?c13 ?k13 ?n13 ?Wj ?a14 ?l14 ?c14 ?k14 ?n14 ?a15 ?l15 ?c15 ?k15 ?n15 ?a16 ?l16 ?c16 ?k16 ?n16 ?a17 ?l17 ?c17 ?k17 ?n17 ?a18 ?l18 ?c18 ?k18 ?n18 ?a19 ?l19 ?c19 ?k19 ?n19 ?a20 ?l20 ?c20 ?k20 ?n20 ?a21 ?l21 ?c21 ?k21 ?a22 ?l22 ?c22 ?k22 ?a23 ?l23 ?c23 ?k23 ?a24 ?l24 ?c24 ?k24 ?a25 ?l25 ?c25 ?k25 ?d25 ?a26 ?l26 ?c26 ?k26 ?d26 ?a27 ?l27 ?c27 ?k27 ?a28 ?l28 ?c28 ?k28 ?a29 ?l29 ?c29 ?k29 ?a30 ?l30 ?c30 ?k30 ?a31 ?l31 ?c31 ?k31 ?a32 ?l32 ?c32 ?k32 ?a33 ?l33 ?c33 ?k33 ?a34 ?l34 ?c34 ?k34 ?a35 ?l35 ?c35 ?k35 ?a36 ?l36 ?c36 ?k36 ?a37 ?l37 ?c37 ?RJ ?a38 ?l38 ?c38 ?k38 ?a39 ?l39 ?c39 ?k39 ?yZ ?u_ ?vg ?u9 ?u6 ?vd ?vf ?lU ?pq ?iZ ?jt ?kh ?lB ?rD ?rE ?rC ?rB ?lu ?lA ?iW ?iY ?jO ?jN ?ycg ?yct ?rG ?rF ?nP ?jB ?lX ?mJ ?rH ?mG ?pB ?pJ ?zf ?qg ?vo ?vG ?Wv ?Wu ?mz ?mj ?lZ ?mH ?lY ?lW ?mF ?pG ?pF ?pD ?pI ?pC ?pA ?pH ?vB ?vA ?vq ?vD ?vp ?vm ?vC ?Ah ?Ag ?iM ?KJ ?KD ?KC ?Ef ?nO ?Kz ?lV ?Ky ?Ed ?Kw ?Kv ?zc ?vh ?za ?Ku
  (case yZ=>k_is)
  (case u_=>k_is)
  (case vg=>k_is)
  (case u9=>k_is)
  (case u6=>k_is)
  (case vd=>k_is)
  (case vf=>k_is)
  (case lU=>k_is)
  (case pq=>k_is)
  (case iZ=>k_is)
  (case jt=>k_is)
  (case kh=>k_is)
  (case lB=>k_is)
  (case rD=>k_is)
  (case rE=>k_is)
  (case rC=>k_is)
  (case rB=>k_is)
  (case lu=>k_is)
  (case lA=>k_is)
  (case iW=>k_is)
  (case iY=>k_is)
  (case jO=>k_is)
  (case jN=>k_is)
  (case ycg=>k_is)
  (case yct=>k_is)
  (case rG=>k_is)
  (case rF=>k_is)
  (case nP=>k_is)
  (case jB=>rfl)
  (case lX=>k_is)
  (case mJ=>k_is)
  (case rH=>k_is)
  (case mG=>rfl)
  (case pB=>k_is)
  (case pJ=>k_is)
  (case zf=>k_is)
  (case qg=>rfl)
  (case vo=>k_is)
  (case vG=>k_is)
  (case Wv=>k_is)
  (case Wu=>k_is)
  (case mz=>k_is)
  (case mj=>k_is)
  (case lZ=>k_is)
  (case mH=>k_is)
  (case lY=>k_is)
  (case lW=>k_is)
  (case mF=>k_exc)
  (case pG=>k_is)
  (case pF=>k_is)
  (case pD=>k_is)
  (case pI=>k_is)
  (case pC=>k_is)
  (case pA=>k_is)
  (case pH=>k_exc)
  (case vB=>k_is)
  (case vA=>k_is)
  (case vq=>k_is)
  (case vD=>k_is)
  (case vp=>k_is)
  (case vm=>k_is)
  (case vC=>k_exc)
  (case Ah=>k_is)
  (case Ag=>k_is)
  (case iM=>k_is)
  (case a0=>k_is)
  (case l0=>k_is)
  (case c0=>k_is)
  (case k0=>k_is)
  (case a1=>k_is)
  (case l1=>k_is)
  (case c1=>k_is)
  (case k1=>k_is)
  (case a2=>k_is)
  (case l2=>k_is)
  (case c2=>k_is)
  (case k2=>k_is)
  (case n2=>k_is)
  (case a3=>k_is)
  (case l3=>k_is)
  (case c3=>k_is)
  (case k3=>k_is)
  (case a4=>k_is)
  (case l4=>k_is)
  (case c4=>k_is)
  (case k4=>k_is)
  (case n4=>k_is)
  (case a5=>k_is)
  (case l5=>k_is)
  (case c5=>k_is)
  (case k5=>k_is)
  (case n5=>k_is)
  (case a6=>k_is)
  (case l6=>k_is)
  (case c6=>k_is)
  (case k6=>k_is)
  (case n6=>k_is)
  (case a7=>k_is)
  (case l7=>k_is)
  (case c7=>k_is)
  (case k7=>k_is)
  (case n7=>k_is)
  (case a8=>k_is)
  (case l8=>k_is)
  (case c8=>k_is)
  (case k8=>k_is)
  (case n8=>k_is)
  (case a9=>k_is)
  (case l9=>k_is)
  (case c9=>k_is)
  (case k9=>k_is)
  (case a10=>k_is)
  (case l10=>k_is)
  (case c10=>k_is)
  (case k10=>k_is)
  (case n10=>k_is)
  (case a11=>k_is)
  (case l11=>k_is)
  (case c11=>k_is)
  (case k11=>k_is)
  (case n11=>k_is)
  (case a12=>k_is)
  (case l12=>k_is)
  (case c12=>k_is)
  (case k12=>k_is)
  (case n12=>k_is)
  (case a13=>k_is)
  (case l13=>k_is)
  (case c13=>k_is)
  (case k13=>k_is)
  (case n13=>k_is)
  (case Wj=>k_is)
  (case a14=>k_is)
  (case l14=>k_is)
  (case c14=>k_is)
  (case k14=>k_is)
  (case n14=>k_is)
  (case a15=>k_is)
  (case l15=>k_is)
  (case c15=>k_is)
  (case k15=>k_is)
  (case n15=>k_is)
  (case a16=>k_is)
  (case l16=>k_is)
  (case c16=>k_is)
  (case k16=>k_is)
  (case n16=>k_is)
  (case a17=>k_is)
  (case l17=>k_is)
  (case c17=>k_is)
  (case k17=>k_is)
  (case n17=>k_is)
  (case a18=>k_is)
  (case l18=>k_is)
  (case c18=>k_is)
  (case k18=>k_is)
  (case n18=>k_is)
  (case a19=>k_is)
  (case l19=>k_is)
  (case c19=>k_is)
  (case k19=>k_is)
  (case n19=>k_is)
  (case a20=>k_is)
  (case l20=>k_is)
  (case c20=>k_is)
  (case k20=>k_is)
  (case n20=>k_is)
  (case a21=>k_is)
  (case l21=>k_is)
  (case c21=>k_is)
  (case k21=>k_is)
  (case a22=>k_is)
  (case l22=>k_is)
  (case c22=>k_is)
  (case k22=>k_is)
  (case a23=>k_is)
  (case l23=>k_is)
  (case c23=>k_is)
  (case k23=>k_is)
  (case a24=>k_is)
  (case l24=>k_is)
  (case c24=>k_is)
  (case k24=>k_is)
  (case a25=>k_is)
  (case l25=>k_is)
  (case c25=>k_is)
  (case k25=>k_is)
  (case d25=>k_is)
  (case a26=>k_is)
  (case l26=>k_is)
  (case c26=>k_is)
  (case k26=>k_is)
  (case d26=>k_is)
  (case a27=>k_is)
  (case l27=>k_is)
  (case c27=>k_is)
  (case k27=>k_is)
  (case a28=>k_is)
  (case l28=>k_is)
  (case c28=>k_is)
  (case k28=>k_is)
  (case a29=>k_is)
  (case l29=>k_is)
  (case c29=>k_is)
  (case k29=>k_is)
  (case a30=>k_is)
  (case l30=>k_is)
  (case c30=>k_is)
  (case k30=>k_is)
  (case a31=>k_is)
  (case l31=>k_is)
  (case c31=>k_is)
  (case k31=>k_is)
  (case a32=>k_is)
  (case l32=>k_is)
  (case c32=>k_is)
  (case k32=>k_is)
  (case a33=>k_is)
  (case l33=>k_is)
  (case c33=>k_is)
  (case k33=>k_is)
  (case a34=>k_is)
  (case l34=>k_is)
  (case c34=>k_is)
  (case k34=>k_is)
  (case a35=>k_is)
  (case l35=>k_is)
  (case c35=>k_is)
  (case k35=>k_is)
  (case a36=>k_is)
  (case l36=>k_is)
  (case c36=>k_is)
  (case k36=>k_is)
  (case a37=>k_is)
  (case l37=>k_is)
  (case c37=>k_is)
  (case RJ=>k_is)
  (case a38=>k_is)
  (case l38=>k_is)
  (case c38=>k_is)
  (case k38=>k_is)
  (case a39=>k_is)
  (case l39=>k_is)
  (case c39=>k_is)
  (case k39=>k_is)
  (case KJ=>k_is)
  (case KD=>k_is)
  (case KC=>k_is)
  (case Ef=>k_is)
  (case nO=>k_is)
  (case Kz=>k_is)
  (case lV=>k_is)
  (case Ky=>k_is)
  (case Ed=>k_is)
  (case Kw=>k_is)
  (case Kv=>k_is)
  (case zc=>k_is)
  (case vh=>k_is)
  (case za=>k_is)
  (case Ku=>k_is)
#print axioms PySem.Challenge.cw_fewnotes_k22_whole_other_orders_tell_the_holds
